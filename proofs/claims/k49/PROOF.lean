import PyProof.Rows.All
import Wide.All
import OpenK.AllK
import Wide.FinOn
import Lean
import PyProof.EqAt
import PyProof.EqKinds
import PyProof.TupleCall
import PyProof.ZipIter
import PyProof.EnumMake
import PyProof.EnumFor
import PyProof.CollectIter
import PyProof.TupleKey
import PyProof.DictRoadsH
import PyProof.P3Eq
import PyProof.Rows.SeqMore
import PyProof.ConsumeWalk
import PyProof.Rows.SortShellK
import PyProof.DictItems
import PyProof.DictWalks
import PyProof.AttrMissHeap
import PyProof.DictIter
import PyProof.MaxThree
import PyProof.SeqI3
import PyProof.DictTruth
import PyProof.Rows.TupDisplay
import PyProof.ListCopy
import PyProof.NeKinds
import PyProof.RaisesDict
import KE.KDictOf
import PyProof.Rows.CallKwBuiltin
import PyProof.DelItemList
import PySem.Challenge.RW_fewtimes_k49_great_tables
set_option Elab.async false
set_option linter.all false
set_option compiler.extract_closed false
set_option genSizeOf false
set_option bootstrap.genMatcherCode false
set_option maxRecDepth 100000
set_option maxHeartbeats 4000000
open PySem.W (Frag)
open PySem renaming wpAny_bind->gV,Value->i3,Shared->r0,wpAny_pure->y4,sizeLine_eq->D0,sizeLine->KJ,wpAny->KU,model->La,Program->Lb,starEach->Lg,wpAny_setField_rec->Li,wpAny_callSpecial?_slot->Lr,World->Ly,wpAny_call_entry->LB,Around->LD,wpAny_field->LG,mem_of_lookup->LL,wpAny_holding->LU,Comprehension->LZ,DictEntry->Md,mainGlobals->Me,wpAny_mono->Mj,Paired->Mo,assignEach->Mp,PyData->Mr,wpAny_newObj_type->Ms,wpAny_pyIter_tuple->MJ,sysModules->MP,binaryOp->MV,FuncData->N4,Builtin->N9,wpAny_pyIter_list->Nb,wpAny_rule->Nl,rawInt->Nm,wpAny_Call_Name_kw->Np,cellsFrom->Nq,foldedSetIterable->Nx,compareOp->Ny,wpAny_attempt->NN,pyNext->NS,NameKind->NU,wpAny_seqItems->NX,wpAny_passesOwn->O1,wpAny_truthy_bool->O9,cLine->Oa,codeAny_mono->Ob,wpAny_standAt->Oh,swappedStores->Oi,IsPair->Oq,wpAny_isInstance->Ox,bootBuiltins->OE,backTo->OG,codeAny->OH,wpAny_loadPart'->OQ,wpAny_ite_false->OR,codeAny_builtin->OV,Arguments->OW,Operator->P1,wpAny_of_eq->P5,firstArgMember->P7,swapsWith->Pa,inplaceOp->Pb,wpAny_typeOf->Pc,swapsWithSole->Pm,behindInMarks->Pn,Reads->Pq,tupleKind_room_in1->PD,sliceBounds->PQ,wpAny_newTuple->PX,isSubtype_type->Q3,wpAny_ite_true->Q5,Model->Qf,wpAny_newList->Qr,wpAny_updateSeq_pair->Qv,letOwnedTupleGo->Qx,Keyword->QJ,tupleKind->QP,wpAny_newFunctionEnv_cells->QU,call_meets->QX,isSubtype_stop->R0,wpAny_binaryOp_repeat_ref->Ra,standAt->Ri,getItem->Rj,IsZip->Ro,wpAny_letGo->Rp,assignInOrder->Rr,attributeBase->Rt,wpAny_comprehension_free->Rx,wpAny_onRaise->Ry,noFill_tuple_add->RC,builtinsNs->RY,pyIter->S0,wpAny_pyNext_list_item->S2,IsPart->S4,seqIndex_neg->S8,wpAny_getItem_list_neg->Sa,typeIs_int->Sd,IsEnum->Sg,wpAny_execs_nil->Sn,pushCells_keeps->Ss,wpAny_specialOf->Sv,wpAny_pyNext_list_end->Sz,codeAny_call_function->SA,builtinLookup_eq_fast->SF,wpAny_loadName_local->SH,bindArgs->SJ,seqIndex_of->SM,keywordEach->SN,newFunctionEnv->SO,ZipApart->SQ,ReadsAll->SU,setItem->T6,BindsTo->T7,callerA->T8,valueAt->T9,wpAny_loadName_cell->Ta,seq_tuple_add->Th,wpAny_handled->Ti,plainId_quiet->To,mroOf_keyiter->Tp,foldedForSure->Tt,wpAny_call->Tx,concat_meets->TZ,wpAny_sequenceKey->U0,wpAny_pyIter_enum->U6,wpAny_pyIter_slot->Ug,wpAny_Dict_empty->Uq,pushCells->Ur,wpAny_pyIter_zip->Uu,IsEnumOut->Uv,entryFor_of_tree->UA,notIterableAtAll->UC,unpackItems->UH,atKey->UJ,wpAny_throw->UL,richCompare->UM,wpAny_Name->V1,bindName->V2,wpAny_load->V3,Result->V4,bindL->V5,bindC->V6,backToKw->V8,call->V9,newExc->Vb,newTuple->Vc
open PySem.Heap renaming get?_push_of_some->p0,lt_size->z4,get?_push_size->KG,get?_update_ne->LR,SameBut->My,size_push->MD,IsTuple->QL,get?_update_other->Sb,get?_update_self->SD,IsList->SR,get?_push_cases->SS,ExtBut->UK
open List renaming length_map->q7,getElem?_eq_getElem->y3,getElem?_append_right->z0,length_append->D1,getD_eq_getElem?_getD->I7,pairwise_append->J4,range->KA,replicate->KD,mem_cons->KH,getElem?_map->KL,getElem?_eq_some_iff->KN,mem_map->KP,mem_append->KQ,size_toArray->KR,getElem?_append_left->KS,map_cons->KY,mem_of_getElem?->L5,mem_map_of_mem->L6,append_assoc->L7,mem_cons_of_mem->L9,mem_append_right->Ld,map_append->Lf,length_take->Lk,mem_cons_self->Ln,mem_append_left->Lp,length_eq_zero_iff->Lu,toList_toArray->Lv,not_mem_nil->Lw,getElem?_eq_none->Lx,mem_range->LC,length_cons->LF,flatten_cons->LI,nodup_iff_pairwise_ne->LM,length_range->LO,length->LP,length_pos_iff->LQ,replicate_succ->LY,pairwise_map->Mg,mem_singleton->Mk,getElem?_range->Mm,nodup_cons->Mn,any_eq_true->Mq,drop_eq_getElem_cons->Mt,append_nil->Mv,map_congr_left->Mw,take_append_drop->Mx,ext_getElem?->MA,find?_cons->MM,length_singleton->MU,dropLast_concat_getLast->MX,length_drop->N5,mem_iff_getElem->N6,mem_flatMap->N7,take_of_length_le->Nf,map_map->Ni,length_nil->Nj,nodup_append->Nz,mem_filter->NB,flatten_append->NH,getElem?_set_self->NI,drop_eq_nil_of_le->NL,lookup_cons->NP,Perm->NQ,all_eq_true->NR,zip_cons_cons->NV,perm_append_comm->NZ,of_mem_zip->O6,map_nil->Od,mem_of_mem_drop->Oe,mem_of_mem_take->Of,getElem?_take_of_lt->Ol,any_cons->Oo,all_cons->Ot,getElem_mem->Oz,getElem?_cons_succ->OA,filter_cons_of_pos->OB,filter_cons_of_neg->OC,find?_cons_of_neg->OL,getElem?_drop->OM,filter_append->ON,forIn_cons->OP,length_filter_le->OY,getElem?_set_ne->P0,lookup->P6,zipWith->Pe,mem_reverse->Pf,nil_append->Pu,pairwise_cons->PH,map_singleton->PM,extract->PZ,reverse_perm->Q0,length_eq_one_iff->Q7,find?_cons_of_pos->Q8,flatMap_cons->Q9,foldl_append->Qb,zipWith_cons_cons->Qc,pairwise_flatMap->Qh,foldl->Qk,map_flatMap->Qq,sum_append->QF,filterMap_cons->QG,forIn_nil->QZ,drop_drop->R4,mapM_cons->R7,find?_eq_none->R9,mem_of_find?_eq_some->Rc,getLast?_eq_getElem?->Rf,getLast?_map->Rq,getElem?_replicate->RB,zipIdx_cons->RG,cons_append->RQ,getElem?_cons_zero->RU,nodup_range->RV,length_set->So,foldl_cons->Sr,range_succ->Sx,pairwise_reverse->SE,getElem?_mapIdx->SV,reverse_reverse->SW,length_reverse->Te,flatMap_append->Tg,sum_cons->Tu,mem_filterMap->Tw,set_cons_zero->TN,set_cons_succ->TQ,mapIdx_append->TR,take_add_one->Ua,map_set->Uk,drop_length->Uw,map_snd_zip->Uz,zipIdx_nil->UU,find?_some->UY,length_zip->UZ,cons->Vs
open Bool renaming and_eq_true->tv,false_ne_true->KW,not_eq_true'->LJ,false_eq_true->MB,not_eq_true->Qm,and_eq_true_iff->Qw,or_eq_true->QB,false_or->Ru
open PyProof.Rows renaming wpS_bind->D2,Keyed->KI,pendingOf->KZ,arrOf->Lq,wpS_forRange->LN,SortSt->LW,kindOf->MQ,failedOf->Nc,wpS_modify->Ng,slot_tuple_getitem->Nk,get?_update_seq->NG,callWith_type1->NJ,listUpdate_at->Ov,wpS_get->Ow,setPending->P9,SortKind->Pt,envOfC->Qi,callWith_builtin1->Qj,mem_zip_self->QO,assignInOrder_cons->QT,AllBare->Rh,seqSlot_of->RJ,subscriptTail_builtinR->S9,entry_tuple_getitem->Tb,args_tuple_getitem->TF,seqObj->TK,assignInOrder_nil->TV,listItems_at->Uc,entry_list_iadd'->UB,keyKind'_eq->UN,seqEpoch_at->UO,IntsAre->V0,mergeAt'->Vd
open Int renaming toNat_natCast->KO,toNat_of_nonneg->MR,eq_ofNat_of_zero_le->NA,natCast_mul->Pw,emod_lt_of_pos->PJ,emod_nonneg->QE,zero_mul->Sl,natCast_add->Sw,ofNat->Vr
open Nat renaming le_refl->L3,ne_of_lt->Lc,lt_of_lt_of_le->Lh,mul_le_mul->LS,lt_irrefl->Mh,ne_of_gt->Ml,le_trans->Mu,min_eq_left->MW,mul_le_mul_right->N8,mul_comm->Nt,zero_le->Nv,succ_mul->Oc,div_lt_of_lt_mul->Og,add_assoc->Ou,le_of_lt->OF,div_eq_of_lt->Ph,mul_add_div->Px,div_add_mod->Py,sub_self->QM,zero_add->QN,add_sub_cancel->R5,lt_succ_of_lt->Rm,succ_le_succ->RN,mod_lt->Sk,two_pow_pos->Sy,mul_one->T5,lt_of_le_of_lt->TU,lt_succ_self->Ux,add_mul->US,not_lt->Va,succ->Vk
open Array renaming toList_append->L4,toList_push->L8,getElem?_toList->Le,length_toList->Lm,getElem?_eq_getElem->LA,toList_reverse->LH,toList_extract->Nw,getElem?_eq_none->OK,size_append->OZ,toList_inj->Qo,map->Qp,size_push->QC,toList_setIfInBounds->R6,toList->RZ,all_eq_true->Ud,filterMap->UX
open PySem.W renaming mg_of->Lj,kia_one->MK,codeHdIn->MN,fnOf->Nr,keepIn->NT,cellsFrom_some->OI,codeIn->P4,nsIn->PY,methodObj->Rg,instObj->Sm,OpenLaw->Su,lookIn->SI,codeHd_of_K->Tc,callWith_K->Tz,codeRec_of->TB,kitx_list->TX,kitx_dict->TY,FnAt->U3,plainGet->Uo
open PySem.Str renaming ofString->Ll
open PySem.Value renaming ref->Lo,type->LK,none->MZ,bool->Tv,int->Ul,str->Um
open PySem.NameKind renaming free->Lz,cell->Nu
open PySem.PyData renaming eqv->LV,canLayAll0->Mz,depthAll->ND,depth->OJ,list->PR,canLay0->Q4,eqvAll->Qs,tuple->U8
open List.Perm renaming append_left->LX,append_right->Mf,of_eq->OS,refl->SX
open PySem.SeqAt renaming readOf->MY,readOf_eq->NF,eqAt_reads->Uy
open Option renaming some->N1,map_some->O8,isSome_iff_exists->Oj,bind_some->Oy,join_some->Pg,getD_none->RE,map_eq_some_iff->Se,isSome_some->TH,isSome_map->U2,bind_none->UE,join_none->UG
open PySem.Obj renaming mapSeq->Na,data_mapFields->TJ
open PySem.Builtin.Dict_items renaming pairFromOwner->Nh,ownedTupleIsFree->NO,isOneOf->NY
open PySem.Builtin.List renaming listLengthHint->NM,listTooLong->Pp,listFitsIndex->R8
open PySem.F renaming slot_tuple_iterator_next->NW,slot_enumerate_next->OX,args_tuple_add_2->Po,entry_tuple_add->PN,slot_tuple_add->PU,slot_dict_get->Qg,slot_int_rmul->Qy,args_tuple_iterator_next_1->Qz,slot_zip_next->QA,plain_extend_loop->QI,entry_tuple_iterator_next->QK,slot_list_insert->Rz,args_dict_get_3->RF,args_enumerate_next_1->RH,plainAttrs_list->RT,entry_dict_get->Sf,entry_enumerate_next->Si,slot_dict_items_iter->Sj,entry_proto_collect->SG,entry_extend_loop->Tf,args_int_rmul_2->U1,args_zip_next_1->U4,slot_dict_items->Uh,entry_int_rmul->Up,entry_zip_next->Us,slot_dict_iter->UD,fills_int_mul->UT,slot_tuple_lt->UW
open PySem.Builtin.Slice renaming slicePlaces->O0,sliceAdjust->Pj,sliceApplied->QV
open LawfulBEq renaming eq_of_beq->O7
open PySem.Builtin.Tuple renaming tupleExact->Om,tupleCompareSizes->Qe,tupleItemsOf->QW,tupleIsExact->QY,tupleTooMany->R3,tupleHashOf->Rb
open PySem.Shared renaming heap->OD,TypeIs->Tj
open ForInStep renaming yield->OO
open List.cons renaming injEq->OT
open PySem.Data renaming seq->OU,fields->UI
open True renaming intro->P2
open PySem.Paired renaming length->Pk
open PySem.Calls renaming spliced_cons->Pz,callWith_builtin->PV,evalArgs_plain->Qu,Name_function_global->QS,spliced_nil->Rk
open PySem.Around renaming in1_handled->PF,frames_deeper->SK
open And renaming intro->Ql
open PyProof.Rows.SortSt renaming mk'->Qn
open Function renaming comp->Qt
open PySem.Builtin.Int renaming intBits->QH
open PyProof.Rows.IsTup renaming new->QR
open List.Pairwise renaming nil->Rl
open PySem.Env renaming blockKind->RA,kindOf->TM
open Sum renaming inl->RW,inr->RX
open PySem.Expr renaming Subscript->SY,Attribute->T2,Constant->Tq,ListComp->Tr,UnaryOp->Ui,Compare->Uj,BoolOp->UP,BinOp->Ve,IfExp->Vf,Tuple->Vg,Slice->Vh,Name->Vl,List->Vm,Call->Vn,Dict->Vo
open PySem.Stmt renaming AugAssign->T3,Continue->Ts,Assign->UQ,Return->UR,While->Vi,Break->Vj,Expr->Vp,Pass->Vq
open PySem.Heap.SameBut renaming update->Td
open PySem.Code renaming quiet_builtin->TL,builtin->Ue
open PySem.Heap.IsTuple renaming push->U5
open Iff renaming rfl->U7
open Option.some renaming injEq->U9
open Exists renaming intro->Ub
open PySem.Heap.IsList renaming push->Ut
open Prod renaming ext->V7
open Option renaming some->Z,none->Y
open Bool renaming true->N3,false->VP
open PySem renaming Addr->VQ
section
theorem VR{a b c:Nat}(h:b<=c)(k:a<=b):a<=c:=Nat.le_trans k h
theorem VS{a b c:Nat}(h:b<=c)(k:a+1<=b):a<=c-1:=Nat.le_sub_of_add_le (Nat.le_trans k h)
theorem VT{a b:Nat}(h:Nat.ble (a+1) b=true):a<b:=Nat.le_of_ble_eq_true h
local macro_rules|`(∅)=>`(by first|with_reducible assumption|with_reducible exact Nat.le_of_ble_eq_true rfl|with_reducible exact VT rfl|exact VR (by with_reducible assumption) (by with_reducible exact Nat.le_of_ble_eq_true rfl)|exact VS (by with_reducible assumption) (by with_reducible exact Nat.le_of_ble_eq_true rfl)|lia)
namespace L2
open PySem PySem.Spec PyProof.Rows
section
noncomputable abbrev Key:=Sum Int Str
noncomputable def im:Key->i3->Bool
 |.inl k,v=>Value.isInt k v
 |.inr x,v=>Value.isStrOf x v
noncomputable def FI(w:Ly):Key->Int
 |.inl k=>hashInt k
 |.inr x=>hashStr w x
theorem aX:∀{k:Key} {v:i3},im k v=N3->(∃i t,k=RW i/\v=Ul i t)∨(∃x t,k=RX x/\v=Um x t)
 |.inl i,v,h=>by obtain⟨t,e⟩:=Value.isInt_shape (k:=i) (v:=v) h;exact .inl ⟨i,t,rfl,e⟩
 |.inr x,v,h=>by obtain⟨t,e⟩:=Value.isStrOf_shape (x:=x) (v:=v) h;exact .inr ⟨x,t,rfl,e⟩
theorem uK(i:Int)(t:Tok):im (.inl i) (.int i t)=N3:=by simp[im,Value.isInt]
theorem uL(x:Str)(t:Tok):im (.inr x) (.str x t)=N3:=by simp[im,Value.isStrOf]
theorem Cg(a b:Int):decide ((RW a:Key)=RW b)=(a==b):=by
 by_cases e:a=b
 ·subst e;simp
 ·have h:¬(RW a:Key)=RW b:=λq=>e (RW.inj q);rw[decide_eq_false h];exact(beq_eq_false_iff_ne.mpr e).symm
theorem Ch(a b:Str):decide ((RX a:Key)=RX b)=decide (a=b):=by
 by_cases e:a=b
 ·subst e;simp
 ·have h:¬(RX a:Key)=RX b:=λq=>e (RX.inj q);rw[decide_eq_false h,decide_eq_false e]
theorem Ci(a:Int)(b:Str):decide ((RW a:Key)=RX b)=VP:=decide_eq_false (λq=>nomatch q)
theorem Cj(a:Str)(b:Int):decide ((RX a:Key)=RW b)=VP:=decide_eq_false (λq=>nomatch q)
noncomputable def aV(prog:Lb)(w:Ly):PySem.KeyKind prog w Key where
 is:=im
 hash:=FI w
 inj:=λv a b ha hb=>by
  rcases aX ha with⟨i,t,rfl,rfl⟩|⟨x,t,rfl,rfl⟩
  ·rcases aX hb with⟨j,u,rfl,e⟩|⟨y,u,rfl,e⟩
   ·injection e with e1 _;rw[e1]
   ·exact nomatch e
  ·rcases aX hb with⟨j,u,rfl,e⟩|⟨y,u,rfl,e⟩
   ·exact nomatch e
   ·injection e with e1 _;rw[e1]
 byValue:=λk v h=>by rcases aX h with⟨i,t,rfl,rfl⟩|⟨x,t,rfl,rfl⟩<;>rfl
 pyHash:=λhv h=>by
  rcases aX hv with⟨i,t,rfl,rfl⟩|⟨x,t,rfl,rfl⟩
  ·exact wpAny_pyHash_int h
  ·exact wpAny_pyHash_str h
 eqBool:=λhu hv h=>by
  rcases aX hu with⟨i,t,rfl,rfl⟩|⟨x,t,rfl,rfl⟩
  ·rcases aX hv with⟨j,u,rfl,rfl⟩|⟨y,u,rfl,rfl⟩
   ·rw[Cg]at h;exact wpAny_eqBool_int h
   ·rw[Ci]at h;exact SeqAt.EqAt.int_str i t y u _ _ _ _ h
  ·rcases aX hv with⟨j,u,rfl,rfl⟩|⟨y,u,rfl,rfl⟩
   ·rw[Cj]at h;exact SeqAt.EqAt.str_int x t j u _ _ _ _ h
   ·rw[Ch]at h;exact wpAny_eqBool_str h
 «strs»:=λk x t v h=>by
  rcases aX h with⟨i,u,rfl,e⟩|⟨y,u,rfl,e⟩
  ·exact nomatch e
  ·injection e with e1 _
   subst e1
   cases v<;>rfl
theorem qX(prog:Lb)(w:Ly)(i:Int)(t:Tok):(aV prog w).is (.inl i) (.int i t)=N3:=uK i t
theorem qY(prog:Lb)(w:Ly)(x:Str)(t:Tok):(aV prog w).is (.inr x) (.str x t)=N3:=uL x t
end
variable{us:List i3}{a b:VQ}{P:Lb}{w:Ly}{h:Heap}
section
inductive V where
 |non|bl (b:Bool)|int (i:Int)|str (x:Str)|byt (b:Array UInt8)|flt (b:UInt64)|ref (a:VQ)|ty (n:String)
 deriving DecidableEq
noncomputable def RelV:V->i3->Prop
 |.non,u=>u=MZ
 |.bl b,u=>u=Tv b
 |.int i,u=>∃t,u=Ul i t
 |.str x,u=>∃t,u=Um x t
 |.byt b,u=>∃t,u=Value.bytes b t
 |.flt b,u=>∃t,u=Value.float b t
 |.ref a,u=>u=Lo a
 |.ty n,u=>u=LK n
noncomputable abbrev Vals:List V->List i3->Prop:=Mo RelV
theorem Vals.length{xs:List V}(r:Vals xs us):xs.length=us.length:=Pk r
theorem Vals.get:∀{xs:List V} {us:List i3} {i:Nat} {x:V},Vals xs us->xs[i]?=Z x->∃u,us[i]?=Z u/\RelV x u
 |_,_,_,_,.nil,e=>by simp at e
 |_,_,0,_,.cons r _,e=>by simp at e;subst e;exact⟨_,rfl,r⟩
 |_,_,i+1,x,.cons _ t,e=>by
  obtain⟨u,h1,h2⟩:=Vals.get (i:=i) (x:=x) t (by simpa using e)
  exact⟨u,by simpa using h1,h2⟩
theorem Vals.set{x:V}{u:i3}(r:RelV x u):∀{xs:List V} {us:List i3} (i:Nat),Vals xs us->Vals (xs.set i x) (us.set i u)
 |_,_,_,.nil=>.nil
 |_,_,0,.cons _ t=>.cons r t
 |_,_,i+1,.cons q t=>.cons q (Vals.set r i t)
theorem Vals.append:∀{xs ys:List V} {us ws:List i3},Vals xs us->Vals ys ws->Vals (xs++ys) (us++ws)
 |_,_,_,_,.nil,s=>s
 |_,_,_,_,.cons r t,s=>.cons r (Vals.append t s)
theorem Vals.take:∀{xs:List V} {us:List i3} (n:Nat),Vals xs us->Vals (xs.take n) (us.take n)
 |_,_,0,_=>.nil
 |_,_,_+1,.nil=>.nil
 |_,_,n+1,.cons r t=>.cons r (Vals.take n t)
theorem Vals.drop:∀{xs:List V} {us:List i3} (n:Nat),Vals xs us->Vals (xs.drop n) (us.drop n)
 |_,_,0,r=>r
 |_,_,_+1,.nil=>.nil
 |_,_,n+1,.cons _ t=>Vals.drop n t
noncomputable def RelO:Option V->Option i3->Prop
 |some v,Z u=>RelV v u
 |none,Y=>True
 |_,_=>False
noncomputable def KV{κ:Type}:List (κ×V)->List (κ×i3)->Prop:=Mo λ(p:κ×V) (q:κ×i3)=>p.1=q.1/\RelV p.2 q.2
noncomputable def kV:Key->V
 |.inl i=>.int i
 |.inr x=>.str x
inductive HO where
 |lst (xs:List V)
 |tup (xs:List V)
 |dK (kvs:List (Key×V))|dT (kvs:List (List Key×V))
 |set (S:Int->Bool) (n:Nat)
 |ins (C dx:VQ) (fs:List (Str×V))
 |own (x:VQ)
 |xd (fs:List (Str×V))
 |met (f x:VQ)
 |rng (lo hi:Int)
 |frz (o:Obj) (u:HO)
 |tbl (ps:Array i3)
 |ext (φ:Heap->Prop)
noncomputable abbrev Hp:=VQ->Option HO
noncomputable def upd(H:Hp)(a:VQ)(o:HO):Hp:=λb=>if b=a then Z o else H b
theorem aD{H:Hp}{o:HO}:upd H a o a=Z o:=by unfold upd;rw[if_pos rfl]
theorem ak{H:Hp}{o:HO}(h:b≠a):upd H a o b=H b:=by unfold upd;rw[if_neg h]
theorem Er{H:Hp}{o u:HO}(h:H a=Z o)(h':H b=Z u)(d:o≠u):a≠b:=by intro e;subst e;rw[h]at h';exact d (N1.inj h')
theorem bb{H:Hp}{o:HO}(h:H a=Z o)(h':H b=Y):a≠b:=by intro e;subst e;rw[h]at h';cases h'
section
variable(P:Lb)(w:Ly)
noncomputable def ObjOk(H:Hp)(h:Heap)(a:VQ):HO->Prop
 |.lst xs=>xs.length<=KJ/\∃(its:List i3) (n:Nat),Vals xs its/\h.get? a=Z {cls:=.type "list",data:=.seq its.toArray n}
 |.tup xs=>xs.length<=KJ/\∃its:List i3,Vals xs its/\IsTup h a its.toArray
 |.dK kvs=>kvs.length<=KJ/\(a==MP)=VP/\∃vs,KV kvs vs/\h.DictOf (aV P w) a vs
 |.dT kvs=>kvs.length<=KJ/\(a==MP)=VP/\∃xs:List (List Key×VQ×i3),
  Mo (λ(p:List Key×V) (q:List Key×VQ×i3)=>p.1=q.1/\H q.2.1=Z (.tup (p.1.map kV))/\RelV p.2 q.2.2) kvs xs /\
  ∃o es ep,h.get? a=Z o/\o.ExactDict/\o.data=.dict es ep/\es.toList=xs.map (entryOfKey (QP (aV P w)))/\(xs.map (·.1)).Nodup
 |.set S n=>h.SetOf (intKind P w) a S n
 |.ins C dx fs=>H dx=Z (.own a)/\fs.length<=1000/\dx≠a/\h.get? a=Z (Sm C dx) /\
  ∃mA,h.Ns1 dx mA/\(∀f,RelO (fs.lookup f) (mA f))/\PySem.Within mA (fs.map (·.1))
 |.own _=>∃o,h.get? a=Z o
 |.xd fs=>∃mA,h.Ns1 a mA/\∀f,RelO (fs.lookup f) (mA f)
 |.rng lo hi=>∃t u v,h.get? a=Z {cls:=.type "range",data:=.fields #[.int lo t,.int hi u,.int 1 v]}
 |.frz o u=>h.get? a=Z o/\ObjOk H h a u
 |.tbl ps=>h.get? a=Z {cls:=.none,data:=.fields ps}
 |.met f x=>h.get? a=Z (Rg (.ref f) (.ref x))
 |.ext φ=>φ h/\(∃o,h.get? a=Z o)/\∀h1 h2:Heap,φ h1->(∀o,h1.get? a=Z o->h2.get? a=Z o)->φ h2
def HOk(H:Hp)(h:Heap):Prop:=∀a o,H a=Z o->ObjOk P w H h a o
end
section
variable{P:Lb}{w:Ly}{H H':Hp}{h h':Heap}{a:VQ}{o:HO}
theorem ObjOk.lt(x:ObjOk P w H h a o):a<h.objs.size:=by
 cases o with
 |lst xs=>obtain⟨_,_,_,_,e⟩:=x;exact z4 e
 |tup xs=>obtain⟨_,_,_,p⟩:=x;exact p.lt
 |dK kvs=>obtain⟨_,_,_,_,o,_,_,e,_⟩:=x;exact z4 e
 |dT kvs=>obtain⟨_,_,_,_,o,_,_,e,_⟩:=x;exact z4 e
 |set S n=>obtain⟨o,_,_,_,e,_⟩:=x;exact z4 e
 |ins C dx fs=>obtain⟨_,_,_,e,_⟩:=x;exact z4 e
 |own y=>obtain⟨_,e⟩:=x;exact z4 e
 |xd fs=>obtain⟨_,⟨_,_,_,e,_⟩,_⟩:=x;exact z4 e
 |rng lo hi=>obtain⟨_,_,_,e⟩:=x;exact z4 e
 |frz ob u=>obtain⟨e,_⟩:=x;exact z4 e
 |tbl ps=>exact z4 (show h.get? a=Z _ from x)
 |met f y=>exact z4 (show h.get? a=Z _ from x)
 |ext φ=>obtain⟨_,⟨_,e⟩,_⟩:=x;exact z4 e
theorem Vx{α β:Type}{F G:α->β->Prop}:∀{l₁:List α} {l₂:List β},Mo F l₁ l₂->(∀a b,F a b->G a b)->Mo G l₁ l₂
 |_,_,.nil,_=>.nil
 |_,_,.cons r t,f=>.cons (f _ _ r) (Vx t f)
theorem ObjOk.stay(x:ObjOk P w H h a o)(k:∀b u,(b=a∨H b=Z (.own a))->h.get? b=Z u->h'.get? b=Z u)(ho:∀b,H b=Z (.own a)->H' b=Z (.own a))(j:∀b xs,H b=Z (.tup xs)->H' b=Z (.tup xs)):ObjOk P w H' h' a o:=by
 induction o with
 |lst xs=>obtain⟨z,its,n,r,e⟩:=x;exact⟨z,its,n,r,k _ _ (.inl rfl) e⟩
 |tup xs=>obtain⟨z,its,r,ob,e,c⟩:=x;exact⟨z,its,r,ob,k _ _ (.inl rfl) e,c⟩
 |dK kvs=>obtain⟨z,y,vs,r,ob,es,ep,e,c⟩:=x;exact⟨z,y,vs,r,ob,es,ep,k _ _ (.inl rfl) e,c⟩
 |dT kvs=>obtain⟨z,y,xs,r,ob,es,ep,e,c⟩:=x;exact⟨z,y,xs,Vx r λp q z=>⟨z.1,j _ _ z.2.1,z.2.2⟩,ob,es,ep,k _ _ (.inl rfl) e,c⟩
 |set S n=>obtain⟨ob,es,ep,t,e,c⟩:=x;exact⟨ob,es,ep,t,k _ _ (.inl rfl) e,c⟩
 |ins C dx fs=>obtain⟨d,z,ne,e,mA,⟨od,es,ep,B,c⟩,r⟩:=x;exact⟨ho _ d,z,ne,k _ _ (.inl rfl) e,mA,⟨od,es,ep,k _ _ (.inr d) B,c⟩,r⟩
 |own y=>obtain⟨ob,e⟩:=x;exact⟨ob,k _ _ (.inl rfl) e⟩
 |xd fs=>obtain⟨mA,⟨od,es,ep,e,c⟩,r⟩:=x;exact⟨mA,⟨od,es,ep,k _ _ (.inl rfl) e,c⟩,r⟩
 |rng lo hi=>obtain⟨t,u,v,e⟩:=x;exact⟨t,u,v,k _ _ (.inl rfl) e⟩
 |frz ob u ih=>obtain⟨e,q⟩:=x;exact⟨k _ _ (.inl rfl) e,ih q⟩
 |tbl ps=>have e:h.get? a=Z {cls:=.none,data:=.fields ps}:=x;show h'.get? a=Z {cls:=.none,data:=.fields ps};exact k a _ (.inl rfl) e
 |met f y=>have e:h.get? a=Z (Rg (.ref f) (.ref y)):=x;show h'.get? a=Z (Rg (.ref f) (.ref y));exact k a _ (.inl rfl) e
 |ext φ=>obtain⟨p,⟨o,e⟩,st⟩:=x;exact⟨st _ _ p λo q=>k _ _ (.inl rfl) q,⟨o,k _ _ (.inl rfl) e⟩,st⟩
theorem HOk.lt(x:HOk P w H h)(e:H a=Z o):a<h.objs.size:=(x a o e).lt
theorem HOk.fresh(x:HOk P w H h)(e:h.objs.size<=a):H a=Y:=by
 cases q:H a with
 |none=>rfl
 |some u=>exact absurd (Lh (x.lt q) e) (Mh _)
theorem HOk.kept(x:HOk P w H h)(k:∀b u,h.get? b=Z u->h'.get? b=Z u):HOk P w H h':=λa o e=>(x a o e).stay (λb u _ q=>k b u q) (λ_ q=>q) λ_ _ q=>q
theorem HOk.laid(x:HOk P w H h)(k:∀b u,h.get? b=Z u->h'.get? b=Z u)(z:h.objs.size<=a)(new:ObjOk P w (upd H a o) h' a o):HOk P w (upd H a o) h':=λb u e=>by
 have j:=x.fresh z
 by_cases hb:b=a
 ·subst hb;rw[aD]at e;cases e;exact new
 ·rw[ak hb]at e;exact(x b u e).stay (λc v _ q=>k c v q) (λc q=>by rw[ak (bb q j)];exact q) λc xs q=>by rw[ak (bb q j)];exact q
end
def Rd(H:Hp)(a:VQ)(u:HO):Prop:=H a=Z u∨∃o,H a=Z (.frz o u)
theorem Rd.of{H:Hp}{u:HO}(h:H a=Z u):Rd H a u:=.inl h
theorem Rd.ok{H:Hp}{u:HO}(r:Rd H a u)(x:HOk P w H h):ObjOk P w H h a u:=by
 rcases r with r|⟨o,r⟩
 ·exact x a u r
 ·obtain⟨_,q⟩:=x a _ r;exact q
noncomputable def Mut:Option HO->Prop
 |some (.lst _)=>True
 |some (.dK _)=>True
 |some (.dT _)=>True
 |some (.set _ _)=>True
 |some (.ins _ _ _)=>True
 |some (.ext _)=>True
 |_=>False
section
variable{P:Lb}{w:Ly}{H:Hp}{h h':Heap}{x e:VQ}{o':HO}
theorem HOk.write(ok:HOk P w H h)(mu:Mut (H x))(he:e=x∨H e=Z (.own x))(k:∀b u,b≠e->h.get? b=Z u->h'.get? b=Z u)(F:∃u,h'.get? e=Z u)(new:ObjOk P w (upd H x o') h' x o'):HOk P w (upd H x o') h':=λb u q=>by
 have nown:∀c y,H c=Z (.own y)->c≠x:=λc y r z=>by subst z;rw[r]at mu;exact mu
 have ntup:∀c xs,H c=Z (.tup xs)->c≠x:=λc xs r z=>by subst z;rw[r]at mu;exact mu
 by_cases hb:b=x
 ·subst hb;rw[aD]at q;cases q;exact new
 ·rw[ak hb]at q
  by_cases j:b=e
  ·have q':H b=Z (.own x):=by
    rcases he with z|z
    ·exact absurd (j.trans z) hb
    ·rw[j];exact z
   rw[q]at q';cases q';obtain⟨v,G⟩:=F;exact⟨v,by rw[j];exact G⟩
  ·refine(ok b u q).stay (λc v B r=>k c v ?_ r) (λc r=>by rw[ak (nown c b r)];exact r) λc xs r=>by rw[ak (ntup c xs r)];exact r
   rcases B with rfl|B
   ·exact j
   ·rintro rfl
    rcases he with z|z
    ·exact nown c b B z
    ·rw[B]at z;cases z;exact hb rfl
end
structure Un(fs ex:List VQ)(H H':Hp)(h h':Heap):Prop where
 keep:∀b o,h.get? b=Z o->H b=Y->b∉fs->b∉ex->h'.get? b=Z o
 slot:∀b o,h.get? b=Z o->H b=Y->b∈fs->b∉ex->∃sl,h'.get? b=Z {o with slots:=sl}
 free:∀b o,h.get? b=Z o->H b=Y->b∉ex->H' b=Y
 there:∀b o,h.get? b=Z o->b∉ex->∃o',h'.get? b=Z o'
 tups:∀b xs,H b=Z (.tup xs)->H' b=Z (.tup xs)
 frzs:∀b o u,H b=Z (.frz o u)->H' b=Z (.frz o u)
 tbls:∀b ps,H b=Z (.tbl ps)->∃more,H' b=Z (.tbl (ps++more))
section
variable{fs fs' ex ex':List VQ}{H H1 H2:Hp}{h h1 h2 h':Heap}{a x e:VQ}{o:HO}
theorem Un.any(u:Un fs ex H H1 h h1){ob:Obj}(q:h.get? b=Z ob)(n:H b=Y)(hx:b∉ex):∃sl,h1.get? b=Z {ob with slots:=sl}:=by
 by_cases j:b∈fs
 ·exact u.slot b ob q n j hx
 ·exact⟨ob.slots,u.keep b ob q n j hx⟩
theorem Un.kept(k:∀b u,h.get? b=Z u->h'.get? b=Z u):Un fs ex H H h h':=⟨λb ob q _ _ _=>k b ob q,λb ob q _ _ _=>⟨ob.slots,k b ob q⟩,λ_ _ _ n _=>n,λb ob q _=>⟨ob,k b ob q⟩,λ_ _ q=>q,λ_ _ _ q=>q,λ_ ps q=>⟨#[],by rw[q];simp⟩⟩
theorem Un.refl:Un fs ex H H h h:=Un.kept λ_ _ q=>q
theorem Un.laid(k:∀b u,h.get? b=Z u->h'.get? b=Z u)(z:h.objs.size<=a)(j:H a=Y):Un fs ex H (upd H a o) h h' where
 keep:=λb u q _ _ _=>k b u q
 slot:=λb u q _ _ _=>⟨u.slots,k b u q⟩
 free:=λb u q n _=>by rw[ak (Lc (Lh (z4 q) z))];exact n
 there:=λb u q _=>⟨u,k b u q⟩
 tups:=λb xs q=>by rw[ak (bb q j)];exact q
 frzs:=λb u xs q=>by rw[ak (bb q j)];exact q
 tbls:=λb ps q=>⟨#[],by rw[ak (bb q j),q];simp⟩
theorem Un.write(mu:Mut (H x))(he:e=x∨H e=Z (.own x))(k:∀b u,b≠e->h.get? b=Z u->h'.get? b=Z u)(B:∃u,h'.get? e=Z u):Un fs ex H (upd H x o) h h':=by
 have hx:∀b,H b=Y->b≠x:=λb n z=>by subst z;rw[n]at mu;exact mu
 have F:∀b,H b=Y->b≠e:=λb n z=>by
  subst z
  rcases he with r|r
  ·exact hx b n r
  ·rw[n]at r;cases r
 have hm:∀b u,H b=Z u->¬Mut (Z u)->b≠x:=λb u q nm z=>by subst z;rw[q]at mu;exact nm mu
 refine⟨λb u q n _ _=>k b u (F b n) q,λb u q n _ _=>⟨u.slots,k b u (F b n) q⟩,λb u q n _=>by rw[ak (hx b n)];exact n,λb u q _=>?_,
  λb xs q=>by rw[ak (hm b _ q λz=>z)];exact q,λb u xs q=>by rw[ak (hm b _ q λz=>z)];exact q,λb ps q=>⟨#[],by rw[ak (hm b _ q λz=>z),q];simp⟩⟩
 by_cases j:b=e
 ·subst j;exact B
 ·exact⟨u,k b u j q⟩
end
noncomputable def trk(h:Heap)(H:Hp):List VQ:=(KA h.objs.size).filter λa=>(H a).isSome
noncomputable def fT(h:Heap)(H:Hp):Heap:=PySem.W.hideAll h (trk h H)
theorem uM(h:Heap)(H:Hp):(fT h H).objs.size=h.objs.size:=PySem.W.hideAll_size _ _
theorem j7{H:Hp}{o:Obj}(e:h.get? b=Z o)(n:H b=Y):(fT h H).get? b=Z o:=
 PySem.W.hideAll_get _ e λhm=>by have q:(H b).isSome=N3:=(NB.mp hm).2;rw[n]at q;simp at q
theorem Ao{H:Hp}{o:Obj}(e:(fT h H).get? b=Z o):h.get? b=Z o/\H b=Y:=by
 have e':h.get? b=Z o:=PySem.W.of_hideAll (trk h H) e;refine⟨e',?_⟩
 cases q:H b with
 |none=>rfl
 |some x=>
  have hm:b∈trk h H:=NB.mpr ⟨LC.mpr (z4 e'),by simp[q]⟩
  have z:(fT h H).get? b=Y:=PySem.W.hideAll_none (trk h H) hm;rw[z]at e;cases e
noncomputable def Ap(g h:Heap)(L:VQ):List (VQ×Obj):=(KA h.objs.size).filterMap λa=>if a=L∨(g.get? a).isSome=N3 then Y else(h.get? a).map λo=>(a,o)
noncomputable def rest(g h:Heap)(L d:VQ):List (VQ×Obj):=(Ap g h L).filter λp=>decide (p.1≠d)
end
variable{H:Hp}{o:HO}{u:i3}{t' i:Nat}{ch:List VQ}{x:Str}{e:Expr}{N:List Str}{M:Qf}{A:LD}{v:V}{s:r0}
section
structure Mod(K:Frag)(mg:Str->Option i3)(base:Heap):Prop where
 kin:K.In base
 glob:base.Ns Me mg
 blt:∃mb,base.Ns RY mb/\∀x:Str,x≠"__name__"->mb x=OE x
 nolimit:base.NoLimit
structure Cx where
 prog:Lb
 w:Ly
 K:Frag
 mg:Str->Option i3
 base:Heap
 A:LD
 N:List Str
 s₀:r0
 H₀:Hp
 env:Env
 outer:List Env
 stack:List Env
 ex:List VQ
 fn:Str->Bool
 calm:Bool
 pn:List (VQ×Obj)
 xe:i3->r0->Prop
noncomputable def frs(l:List Env):List VQ:=l.filterMap (·.frame)
noncomputable abbrev Cx.fs(X:Cx):List VQ:=frs X.outer
def Vis(sc:Scope)(x:Str):Prop:=sc.names.lookup x=Z .local∨sc.names.lookup x=Z .cell∨sc.names.lookup x=Z .free
def Loc(sc:Scope)(x:Str):Prop:=sc.names.lookup x=Z .local∨sc.names.lookup x=Z .cell
def FJ(env:Env)(h:Heap)(m:Str->Option i3)(x:Str)(u:i3):Prop:=(env.kindOf x=Z .local/\m x=Z u)∨((env.kindOf x=Z .cell∨env.kindOf x=Z .free)/\∃c,env.cells.lookup x=Z c/\h.IsCell c (Z u))
structure Cx.Ok(X:Cx):Prop where
 mod:Mod X.K X.mg X.base
 kind:X.env.scope.kind=.function
 glob:X.env.globals=Me
 blt:X.env.builtins=RY
 above:X.s₀.heap.objs.size<=X.env.locals
 inj:∀x y c,X.env.cells.lookup x=Z c->X.env.cells.lookup y=Z c->x=y
 has:∀x,(X.env.kindOf x=Z .cell∨X.env.kindOf x=Z .free)->∃c,X.env.cells.lookup x=Z c
 cab:∀x c,X.fn x=N3->X.env.cells.lookup x=Z c->X.s₀.heap.objs.size<=c
 hd:X.calm=N3->X.A.handled=Y
 frames:X.A.frames=Z X.stack
 stk:X.stack=X.outer∨(X.stack=X.env::X.outer/\X.env.frame=Z X.env.locals)
 exf:∀b∈X.ex,b≠X.env.locals/\∀x c,X.env.cells.lookup x=Z c->c≠b
 bs:∀b o,X.base.get? b=Z o->X.s₀.heap.get? b=Z o/\X.H₀ b=Y
 bsz:X.base.objs.size<=X.s₀.heap.objs.size
 noex:∀b o,X.base.get? b=Z o->b∉X.ex
 exfs:∀b∈X.ex,b∉X.fs
 funs:X.s₀.heap.FunFrames X.base X.outer
 frf:∀b∈X.fs,X.H₀ b=Y
structure Inv(X:Cx)(pins:List (VQ×Obj))(σ:List (Option V))(H:Hp)(s:r0):Prop where
 ok:X.Ok
 os:s.os=X.s₀.os
 bare:Rh s.gens
 base:Un X.fs X.ex X.H₀ H X.s₀.heap s.heap
 loc:∃m,s.heap.Ns X.env.locals m/\∀(i:Nat) (x:Str) (v:V),X.N[i]?=Z x->σ[i]?=Z (Z v)->Vis X.env.scope x->∃u,RelV v u/\FJ X.env s.heap m x u
 cell:∀x c,X.env.cells.lookup x=Z c->∃v,s.heap.IsCell c v
 free:H X.env.locals=Y
 freeC:∀x c,X.env.cells.lookup x=Z c->H c=Y
 pin:∀p∈X.pn++pins,s.heap.get? p.1=Z p.2/\H p.1=Y/\p.1≠X.env.locals/\p.1∉X.fs/\∀v,p.2.data≠.cell v
 hok:HOk X.prog X.w H s.heap
 len:σ.length=X.N.length
section
variable{X:Cx}{pins:List (VQ×Obj)}{σ:List (Option V)}{H H':Hp}{s:r0}{h':Heap}
theorem Cx.Ok.nofr(ok:X.Ok){o:Obj}(e:X.base.get? b=Z o):b∉X.fs:=λj=>by have:=(ok.funs.mem j).1;rw[e]at this;cases this
theorem Inv.bs(I:Inv X pins σ H s):∀b o,X.base.get? b=Z o->s.heap.get? b=Z o/\H b=Y:=λb o e=>⟨I.base.keep b o (I.ok.bs b o e).1 (I.ok.bs b o e).2 (I.ok.nofr e) (I.ok.noex b o e),I.base.free b o (I.ok.bs b o e).1 (I.ok.bs b o e).2 (I.ok.noex b o e)⟩
theorem Inv.bk(I:Inv X pins σ H s):∀b o,X.base.get? b=Z o->s.heap.get? b=Z o:=λb o e=>(I.bs b o e).1
theorem Inv.mod(I:Inv X pins σ H s):Mod X.K X.mg X.base:=I.ok.mod
theorem Inv.kIn(I:Inv X pins σ H s):X.K.In s.heap:=I.ok.mod.kin.keeps I.bk
theorem Inv.lt(I:Inv X pins σ H s):X.env.locals<s.heap.objs.size:=let⟨_,j,_⟩:=I.loc;j.lt
theorem Inv.sz(I:Inv X pins σ H s):X.s₀.heap.objs.size<=s.heap.objs.size:=Mu I.ok.above (OF I.lt)
theorem Inv.nofs(I:Inv X pins σ H s)(h:s.heap.objs.size<=a):a∉X.fs:=λj=>by obtain⟨_,o,ho,_⟩:=I.ok.funs.mem j;exact absurd (Lh (z4 ho) (Mu I.sz h)) (Mh _)
theorem Inv.cne(I:Inv X pins σ H s):∀x c,X.env.cells.lookup x=Z c->c≠X.env.locals:=λx c e z=>by obtain⟨v,o,ho,hd⟩:=I.cell x c e;obtain⟨m,⟨o',es,ep,j,B,_⟩,_⟩:=I.loc;rw[z,j]at ho;cases ho;rw[B]at hd;cases hd
theorem Inv.funs(I:Inv X pins σ H s):s.heap.FunFrames X.base X.outer:=by
 have all:∀(l:List Env),(∀b∈frs l,b∈X.fs)->X.s₀.heap.FunFrames X.base l->s.heap.FunFrames X.base l:=by
  intro l
  induction l with
  |nil=>intro _ _;trivial
  |cons env r ih=>
   intro hs F;obtain⟨G,⟨L,o,hf,J,ho,hd⟩,O⟩:=F;have j:L∈X.fs:=hs L (by unfold frs;rw[QG,hf];exact Ln)
   obtain⟨sl,e⟩:=I.base.slot L o ho (I.ok.frf L j) j λz=>I.ok.exfs L z j;exact⟨G,⟨L,_,hf,J,e,hd⟩,ih (λb B=>hs b (by unfold frs;rw[QG,hf];exact L9 _ B)) O⟩
 exact all X.outer (λ_ B=>B) I.ok.funs
theorem Inv.stack(I:Inv X pins σ H s):s.heap.FunFrames X.base X.stack:=by
 rcases I.ok.stk with e|⟨e,hf⟩
 ·rw[e];exact I.funs
 ·rw[e];obtain⟨m,j,_⟩:=I.loc;refine .cons (by rw[I.ok.kind];decide) hf j ?_ I.funs
  exact Heap.get?_none_of_le (Mu I.ok.bsz I.ok.above)
theorem Inv.stkSub(I:Inv X pins σ H s):∀b∈frs X.stack,b∈X.env.locals::X.fs:=λb j=>by
 rcases I.ok.stk with e|⟨e,hf⟩
 ·rw[e]at j;exact L9 _ j
 ·rw[e]at j;unfold frs at j;rw[QG,hf]at j;exact j
theorem Inv.stkFree(I:Inv X pins σ H s):∀b∈frs X.stack,H b=Y:=λb j=>by
 rcases KH.mp (I.stkSub b j)with e|j
 ·rw[e];exact I.free
 ·obtain⟨_,o,ho,_⟩:=I.ok.funs.mem j;exact I.base.free b o ho (I.ok.frf b j) λz=>I.ok.exfs b z j
theorem Inv.step{g':Array GenState}{d':Drawn}(I:Inv X pins σ H s)(j:∀b∈ch,(b∈X.ex∨X.s₀.heap.objs.size<=b)/\b≠X.env.locals/\(∀x c,X.env.cells.lookup x=Z c->c≠b)/\∀p∈X.pn++pins,p.1≠b)(keep:∀b o,b≠X.env.locals->b∉X.fs->b∉ch->s.heap.get? b=Z o->H b=Y->h'.get? b=Z o)(slot:∀b o,b≠X.env.locals->b∈X.fs->b∉ch->s.heap.get? b=Z o->H b=Y->∃sl,h'.get? b=Z {o with slots:=sl})(free:∀b o,b∉ch->s.heap.get? b=Z o->H b=Y->H' b=Y)(there:∀b o,b∉ch->s.heap.get? b=Z o->∃o',h'.get? b=Z o')(tups:∀b xs,H b=Z (.tup xs)->H' b=Z (.tup xs))(frzs:∀b o u,H b=Z (.frz o u)->H' b=Z (.frz o u))(tbls:∀b ps,H b=Z (.tbl ps)->∃more,H' b=Z (.tbl (ps++more)))(ns:∀m,s.heap.Ns X.env.locals m->h'.Ns X.env.locals m)(hok:HOk X.prog X.w H' h')(O:Rh g'):
 Inv X pins σ H' {s with heap:=h',gens:=g',drawn:=d',toks:=t'}:=by
 have neL:∀b o,X.s₀.heap.get? b=Z o->b≠X.env.locals:=λb o e=>Lc (Lh (z4 e) I.ok.above);have neC:∀b o,X.s₀.heap.get? b=Z o->b∉X.ex->b∉ch:=λb o e hx F=>by
  rcases(j b F).1 with z|z
  ·exact hx z
  ·exact absurd (Lh (z4 e) z) (Mh _)
 have cellK:∀x c,X.env.cells.lookup x=Z c->∀v,s.heap.IsCell c v->h'.IsCell c v:=λx c e v ⟨o,ho,hd⟩=>by
  have nch:c∉ch:=λz=>(j c z).2.2.1 x c e rfl
  by_cases J:c∈X.fs
  ·obtain⟨sl,q⟩:=slot c o (I.cne x c e) J nch ho (I.freeC x c e);exact⟨_,q,hd⟩
  ·exact⟨o,keep c o (I.cne x c e) J nch ho (I.freeC x c e),hd⟩
 refine⟨I.ok,I.os,O,⟨λb o e n F hx=>?_,λb o e n F hx=>?_,λb o e n hx=>?_,λb o e hx=>?_,λb xs e=>tups b xs (I.base.tups b xs e),λb o xs e=>frzs b o xs (I.base.frzs b o xs e),λb ps e=>?_⟩,?_,λx c e=>?_,?_,λx c e=>?_,λp L=>?_,hok,I.len⟩
 ·exact keep b o (neL b o e) F (neC b o e hx) (I.base.keep b o e n F hx) (I.base.free b o e n hx)
 ·obtain⟨sl,B⟩:=I.base.slot b o e n F hx;obtain⟨sl',G⟩:=slot b _ (neL b o e) F (neC b o e hx) B (I.base.free b o e n hx);exact⟨sl',G⟩
 ·obtain⟨o',B⟩:=I.base.there b o e hx;exact free b o' (neC b o e hx) B (I.base.free b o e n hx)
 ·obtain⟨o',B⟩:=I.base.there b o e hx;exact there b o' (neC b o e hx) B
 ·obtain⟨U,B⟩:=I.base.tbls b ps e;obtain⟨F2,G⟩:=tbls b _ B;exact⟨U++F2,by rw[G,Array.append_assoc]⟩
 ·obtain⟨m,fv,hl⟩:=I.loc;refine⟨m,ns m fv,λi x v B G e3=>?_⟩;obtain⟨u,r,l⟩:=hl i x v B G e3;refine⟨u,r,?_⟩
  rcases l with l|⟨k,c,e,z⟩
  ·exact .inl l
  ·exact .inr ⟨k,c,e,cellK x c e _ z⟩
 ·obtain⟨v,z⟩:=I.cell x c e;exact⟨v,cellK x c e v z⟩
 ·obtain⟨m,⟨o,_,_,ho,_⟩,_⟩:=I.loc;exact free _ o (λz=>(j _ z).2.1 rfl) ho I.free
 ·obtain⟨v,o,ho,hd⟩:=I.cell x c e;exact free c o (λz=>(j c z).2.2.1 x c e rfl) ho (I.freeC x c e)
 ·obtain⟨e,n,ne,nf,d⟩:=I.pin p L;have nch:p.1∉ch:=λz=>(j p.1 z).2.2.2 p L rfl;exact⟨keep p.1 p.2 ne nf nch e n,free p.1 p.2 nch e n,ne,nf,d⟩
theorem Inv.un(I:Inv X pins σ H s)(u:Un X.fs [] H H' s.heap h')(hok:HOk X.prog X.w H' h'):Inv X pins σ H' {s with heap:=h',toks:=t'}:=by
 obtain⟨m,⟨o,es,ep,ho,r⟩,_⟩:=id I.loc;obtain⟨sl,F⟩:=u.any ho I.free (by simp)
 exact I.step (g':=s.gens) (d':=s.drawn) (ch:=[]) (λ_ z=>nomatch z) (λb o _ B _ e n=>u.keep b o e n B (by simp)) (λb o _ B _ e n=>u.slot b o e n B (by simp)) (λb o _ e n=>u.free b o e n (by simp)) (λb o _ e=>u.there b o e (by simp)) u.tups u.frzs u.tbls (λm' hm=>by obtain⟨o',es',ep',j,r'⟩:=hm;rw[ho]at j;cases j;exact⟨_,es',ep',F,r'⟩) hok I.bare
theorem Inv.call{g':Array GenState}{d':Drawn}(I:Inv X pins σ H s)(u:Un (frs X.stack) ch H H' s.heap h')(hok:HOk X.prog X.w H' h')(J:Rh g')(B:∀b∈ch,(b∈X.ex∨X.s₀.heap.objs.size<=b)/\b≠X.env.locals/\(∀x c,X.env.cells.lookup x=Z c->c≠b)/\∀p∈X.pn++pins,p.1≠b):
 Inv X pins σ H' {s with heap:=h',gens:=g',drawn:=d',toks:=t'}:=by
 obtain⟨m,⟨o,es,ep,ho,r⟩,_⟩:=id I.loc;obtain⟨sl,G⟩:=u.any ho I.free λz=>(B _ z).2.1 rfl;exact I.step (ch:=ch) B (λb o G L j e n=>u.keep b o e n (λz=>(KH.mp (I.stkSub b z)).elim G L) j) (λb o _ _ j e n=>u.any e n j) (λb o j e n=>u.free b o e n j) (λb o j e=>u.there b o e j) u.tups u.frzs u.tbls (λm' hm=>by obtain⟨o',es',ep',F,r'⟩:=hm;rw[ho]at F;cases F;exact⟨_,es',ep',G,r'⟩) hok J
theorem Inv.turned{it:VQ}(I:Inv X pins σ H s)(k:∀b o,b≠it->s.heap.get? b=Z o->h'.get? b=Z o)(F:H it=Y)(B:it≠X.env.locals)(h1:it∈X.ex∨X.s₀.heap.objs.size<=it)(h2:∀x c,X.env.cells.lookup x=Z c->c≠it)(G:∀p∈X.pn++pins,p.1≠it):Inv X pins σ H {s with heap:=h',toks:=t'}:=by
 have nit:∀b u,H b=Z u->b≠it:=λb u e z=>by rw[z,F]at e;cases e
 refine I.step (g':=s.gens) (d':=s.drawn) (ch:=[it]) (λb J=>?_) (λb o _ _ j e _=>k b o (λz=>j (by simp[z])) e) (λb o _ _ j e _=>⟨o.slots,k b o (λz=>j (by simp[z])) e⟩) (λ_ _ _ _ n=>n)
  (λb o j e=>⟨o,k b o (λz=>j (by simp[z])) e⟩) (λ_ _ e=>e) (λ_ _ _ e=>e) (λb ps e=>⟨#[],by rw[e];simp⟩) (λm hm=>?_) (λb u e=>?_) I.bare
 ·have e:b=it:=by simpa using J
  subst e;exact⟨h1,B,h2,G⟩
 ·obtain⟨o,es,ep,ho,r⟩:=hm;exact⟨o,es,ep,k _ o (Ne.symm B) ho,r⟩
 ·refine(I.hok b u e).stay (λc v j q=>k c v ?_ q) (λ_ q=>q) λ_ _ q=>q
  rcases j with z|z
  ·rw[z];exact nit b u e
  ·exact nit c _ z
theorem Inv.tok(I:Inv X pins σ H s)(t:Nat):Inv X pins σ H {s with toks:=t}:=I.un (h':=s.heap) (t':=t) Un.refl I.hok
theorem Inv.kept(I:Inv X pins σ H s)(k:∀b u,s.heap.get? b=Z u->h'.get? b=Z u):Inv X pins σ H {s with heap:=h',toks:=t'}:=I.un (Un.kept k) (I.hok.kept k)
theorem Inv.laid(I:Inv X pins σ H s)(k:∀b u,s.heap.get? b=Z u->h'.get? b=Z u)(j:s.heap.objs.size<=a)(new:ObjOk X.prog X.w (upd H a o) h' a o):Inv X pins σ (upd H a o) {s with heap:=h',toks:=t'}:=I.un (Un.laid k j (I.hok.fresh j)) (I.hok.laid k j new)
theorem Inv.write{x e:VQ}(I:Inv X pins σ H s)(mu:Mut (H x))(he:e=x∨H e=Z (.own x))(k:∀b u,b≠e->s.heap.get? b=Z u->h'.get? b=Z u)(j:∃u,h'.get? e=Z u)(new:ObjOk X.prog X.w (upd H x o) h' x o):Inv X pins σ (upd H x o) {s with heap:=h',toks:=t'}:=I.un (Un.write mu he k j) (I.hok.write mu he k j new)
theorem Inv.pins_of{pins':List (VQ×Obj)}(I:Inv X pins σ H s)(h:∀p∈pins',s.heap.get? p.1=Z p.2/\H p.1=Y/\p.1≠X.env.locals/\p.1∉X.fs/\∀v,p.2.data≠.cell v):Inv X pins' σ H s:=⟨I.ok,I.os,I.bare,I.base,I.loc,I.cell,I.free,I.freeC,λp j=>(KQ.mp j).elim (λz=>I.pin p (Lp _ z)) (h p),I.hok,I.len⟩
theorem oB(z:N.Nodup){j:Nat}(a:N[i]?=Z x)(b:N[j]?=Z x):i=j:=by obtain⟨h1,B⟩:=KN.mp a;obtain⟨h2,F⟩:=KN.mp b;exact(List.getElem_inj z).mp (B.trans F.symm)
theorem uN{E:i3->r0->Prop}{Q:Unit->r0->Prop}(I:Inv X pins σ H s)(hN:X.N.Nodup)(hi:X.N[i]?=Z x)(hx:Loc X.env.scope x)(r:RelV v u)(h:∀s',Inv X pins (σ.set i (Z v)) H s'->(∃a,My a s.heap s'.heap/\(a=X.env.locals∨X.env.cells.lookup x=Z a))->Q () s')(hf:X.fn x=N3∨X.env.scope.names.lookup x=Z .local:=by first|exact .inl rfl|exact .inr rfl|assumption):KU M A (storeName X.env x u) Q E s:=by
 obtain⟨m,hn,hl⟩:=id I.loc;have fv:(X.env.scope.kind==.class || (X.env.scope.kind==.module&&X.env.locals != X.env.globals))=VP:=by rw[I.ok.kind];rfl
 have Iq:i<σ.length:=by rw[I.len];exact(KN.mp hi).1
 have cne:=I.cne;have tracked:∀{a:VQ} {h':Heap},(∃o,s.heap.get? a=Z o/\H a=Y)->My a s.heap h'->HOk X.prog X.w H h':=λ{a h'} ha hs b ob e=>by
  obtain⟨_,_,G⟩:=ha;refine(I.hok b ob e).stay (λc w' F q=>(hs.2 c ?_).trans q) (λ_ q=>q) λ_ _ q=>q;rintro rfl
  rcases F with rfl|F
  ·rw[G]at e;cases e
  ·rw[G]at F;cases F
 rcases hx with L|L
 ·refine wpAny_storeName_local L hn (λh' Iw hs=>?_) fv;obtain⟨oL,_,_,Ix,_⟩:=id hn;refine h _ ⟨I.ok,I.os,I.bare,⟨λb o e n O hx=>?_,λb o e n O hx=>?_,I.base.free,λb o e hx=>?_,I.base.tups,I.base.frzs,I.base.tbls⟩,⟨_,Iw,λj y v' B J e3=>?_⟩,λy c e=>?_,I.free,I.freeC,λp hp=>?_,tracked ⟨oL,Ix,I.free⟩ hs,by simpa using I.len⟩ ⟨_,hs,.inl rfl⟩
  ·exact(hs.2 b (Lc (Lh (z4 e) I.ok.above))).trans (I.base.keep b o e n O hx)
  ·obtain⟨sl,B⟩:=I.base.slot b o e n O hx;exact⟨sl,(hs.2 b (Lc (Lh (z4 e) I.ok.above))).trans B⟩
  ·obtain⟨o',B⟩:=I.base.there b o e hx;exact⟨o',(hs.2 b (Lc (Lh (z4 e) I.ok.above))).trans B⟩
  ·by_cases U:j=i
   ·subst U;rw[hi]at B;cases B;rw[NI Iq]at J
    cases J
    exact⟨u,r,.inl ⟨L,by simp⟩⟩
   ·rw[P0 (Ne.symm U)]at J;obtain⟨u',r',q⟩:=hl j y v' B J e3;refine⟨u',r',?_⟩
    rcases q with⟨k,e⟩|⟨k,c,e,z⟩
    ·refine .inl ⟨k,?_⟩;have:y≠x:=λe=>U (oB hN B (e▸hi));simp[this,e]
    ·exact .inr ⟨k,c,e,z.sameBut hs (cne y c e)⟩
  ·obtain⟨w',z⟩:=I.cell y c e;exact⟨w',z.sameBut hs (cne y c e)⟩
  ·obtain⟨e,n,ne,nf,d⟩:=I.pin p hp;exact⟨(hs.2 p.1 ne).trans e,n,ne,nf,d⟩
 ·have F2:X.fn x=N3:=by
   rcases hf with z|z
   ·exact z
   ·rw[z]at L;cases L
  obtain⟨c,F⟩:=I.ok.has x (.inl L);obtain⟨w',z⟩:=I.cell x c F;refine wpAny_storeName_cell I.ok.kind L F z (λh' Ir hs=>?_);obtain⟨oc,Is,Iu⟩:=id z;refine h {s with heap:=h'} ⟨I.ok,I.os,I.bare,⟨λb o e n O hx=>?_,λb o e n O hx=>?_,I.base.free,λb o e hx=>?_,I.base.tups,I.base.frzs,I.base.tbls⟩,⟨m,hn.sameBut hs (Ne.symm (cne x c F)),λj y v' B J e3=>?_⟩,λy c' e=>?_,I.free,I.freeC,λp hp=>?_,tracked ⟨oc,Is,I.freeC x c F⟩ hs,by simpa using I.len⟩ ⟨c,hs,.inr F⟩
  ·exact(hs.2 b (Lc (Lh (z4 e) (I.ok.cab x c F2 F)))).trans (I.base.keep b o e n O hx)
  ·obtain⟨sl,B⟩:=I.base.slot b o e n O hx;exact⟨sl,(hs.2 b (Lc (Lh (z4 e) (I.ok.cab x c F2 F)))).trans B⟩
  ·obtain⟨o',B⟩:=I.base.there b o e hx;exact⟨o',(hs.2 b (Lc (Lh (z4 e) (I.ok.cab x c F2 F)))).trans B⟩
  ·by_cases U:j=i
   ·subst U;rw[hi]at B;cases B;rw[NI Iq]at J
    cases J
    exact⟨u,r,.inr ⟨.inl L,c,F,Ir⟩⟩
   ·rw[P0 (Ne.symm U)]at J;obtain⟨u',r',q⟩:=hl j y v' B J e3;refine⟨u',r',?_⟩
    rcases q with q|⟨k,c',e,z'⟩
    ·exact .inl q
    ·refine .inr ⟨k,c',e,z'.sameBut hs ?_⟩;rintro rfl;exact U (oB hN B (I.ok.inj _ _ _ e F▸hi))
  ·by_cases Iv:c'=c
   ·subst Iv;exact⟨_,Ir⟩
   ·obtain⟨w2,z2⟩:=I.cell y c' e;exact⟨w2,z2.sameBut hs Iv⟩
  ·obtain⟨e,n,ne,nf,d⟩:=I.pin p hp;refine⟨(hs.2 p.1 ?_).trans e,n,ne,nf,d⟩;intro q;rw[q,Is]at e;have q':oc=p.2:=N1.inj e;exact d w' (by rw[<-q'];exact Iu)
theorem fU{E:i3->r0->Prop}{Q:Unit->r0->Prop}(I:Inv X pins σ H s)(j:X.N.Nodup)(hi:X.N[i]?=Z x)(hx:Loc X.env.scope x)(r:RelV v u)(h:∀s',Inv X pins (σ.set i (Z v)) H s'->Q () s')(hf:X.fn x=N3∨X.env.scope.names.lookup x=Z .local:=by first|exact .inl rfl|exact .inr rfl|assumption):KU M A (storeName X.env x u) Q E s:=uN I j hi hx r (λs' I' _=>h s' I') hf
theorem Inv.call'{s':r0}(I:Inv X pins σ H s)(ho:s'.os=s.os)(u:Un (frs X.stack) ch H H' s.heap s'.heap)(hok:HOk X.prog X.w H' s'.heap)(z:Rh s'.gens)(j:∀b∈ch,(b∈X.ex∨X.s₀.heap.objs.size<=b)/\b≠X.env.locals/\(∀x c,X.env.cells.lookup x=Z c->c≠b)/\∀p∈X.pn++pins,p.1≠b):Inv X pins σ H' s':=by obtain⟨h',g',d',t',o'⟩:=s';have e:o'=s.os:=ho;subst e;exact I.call (g':=g') (t':=t') (d':=d') u hok z j
end
noncomputable abbrev XK:=i3->Option VQ->Hp->Prop
noncomputable abbrev St:=List (Option V)
noncomputable abbrev VK:=V->Hp->Prop
noncomputable abbrev TE:=St->Hp->VK->Prop
noncomputable abbrev TT:=St->Hp->(Bool->Hp->Prop)->Prop
noncomputable abbrev TA:=St->Hp->(List V->Hp->Prop)->Prop
structure bN where
 nx:St->Hp->Prop
 rt:VK
 bk:St->Hp->Prop:=λ_ _=>False
 ct:St->Hp->Prop:=λ_ _=>False
noncomputable abbrev TS:=bN->St->Hp->Prop
def EP(X:Cx)(pins:List (VQ×Obj))(σ:St)(Q:VK)(u:i3)(s':r0):Prop:=∃v H',Inv X pins σ H' s'/\RelV v u/\Q v H'
def TP(X:Cx)(pins:List (VQ×Obj))(σ:St)(Q:Bool->Hp->Prop)(b:Bool)(s':r0):Prop:=∃H',Inv X pins σ H' s'/\Q b H'
def AP(X:Cx)(pins:List (VQ×Obj))(σ:St)(Q:List V->Hp->Prop)(us:List i3)(s':r0):Prop:=∃vs H',Inv X pins σ H' s'/\Vals vs us/\Q vs H'
def SP(X:Cx)(pins:List (VQ×Obj))(D:bN)(f:Flow)(s':r0):Prop:=
 match f with
 |.next=>∃σ' H',Inv X pins σ' H' s'/\D.nx σ' H'
 |.brk=>∃σ' H',Inv X pins σ' H' s'/\D.bk σ' H'
 |.cont=>∃σ' H',Inv X pins σ' H' s'/\D.ct σ' H'
 |.ret u=>∃v σ' H',Inv X pins σ' H' s'/\RelV v u/\D.rt v H'
def PE(X:Cx)(e:Expr)(t:TE):Prop:=∀(pins:List (VQ×Obj)) (s:r0) (σ:St) (H:Hp) (Q:VK),Inv X pins σ H s->t σ H Q->KU (model X.prog X.w) X.A (eval e X.env) (EP X pins σ Q) X.xe s
def PT(X:Cx)(e:Expr)(t:TT):Prop:=∀(pins:List (VQ×Obj)) (s:r0) (σ:St) (H:Hp) (Q:Bool->Hp->Prop),Inv X pins σ H s->t σ H Q->KU (model X.prog X.w) X.A (isTrue e X.env (eval e X.env)) (TP X pins σ Q) X.xe s
def PW(X:Cx)(e:Expr)(t:TT):Prop:=∀(whole:Sem i3) (pins:List (VQ×Obj)) (s:r0) (σ:St) (H:Hp) (Q:Bool->Hp->Prop),Inv X pins σ H s->t σ H Q->KU (model X.prog X.w) X.A (isTrue e X.env whole) (TP X pins σ Q) X.xe s
theorem PW.pt{X:Cx}{t:TT}(h:PW X e t):PT X e t:=h _
def PA(X:Cx)(es:List Expr)(t:TA):Prop:=∀(pos:Pos) (pins:List (VQ×Obj)) (s:r0) (σ:St) (H:Hp) (Q:List V->Hp->Prop),Inv X pins σ H s->t σ H Q->KU (model X.prog X.w) X.A (spliced (OG pos (Lg es X.env))) (AP X pins σ Q) X.xe s
def PS(X:Cx)(st:Stmt)(t:TS):Prop:=∀(pins:List (VQ×Obj)) (s:r0) (σ:St) (H:Hp) (D:bN),Inv X pins σ H s->t D σ H->KU (model X.prog X.w) X.A (exec st X.env) (SP X pins D) X.xe s
def PSs(X:Cx)(st:List Stmt)(t:TS):Prop:=∀(pins:List (VQ×Obj)) (s:r0) (σ:St) (H:Hp) (D:bN),Inv X pins σ H s->t D σ H->KU (model X.prog X.w) X.A (execs st X.env) (SP X pins D) X.xe s
theorem thn{α:Type}{t:Sem α}{Q Q':α->r0->Prop}{E:i3->r0->Prop}(h:KU M A t Q E s)(j:∀a s,Q a s->Q' a s):KU M A t Q' E s:=Mj h j λ_ _ x=>x
end
variable{X:Cx}{pos:Pos}{pins:List (VQ×Obj)}{σ:St}{c:Expr}
section
section
variable{X:Cx}
noncomputable def Ck(i:Nat):TE:=λσ H Q=>∃v,σ[i]?=Z (Z v)/\Q v H
noncomputable def tC(v:V):TE:=λ_ H Q=>Q v H
theorem oC(G:X.N[i]?=Z x)(J:Vis X.env.scope x)(hd:(x==("__debug__":Str))=VP:=by decide)(B:(x==("__classdict__":Str))=VP:=by decide):PE X (.Name x pos) (Ck i):=by
 intro pins s σ H Q I h;obtain⟨v,e,h⟩:=h;obtain⟨m,L,O⟩:=I.loc;obtain⟨u,r,l⟩:=O i x v G e J;have fin:EP X pins σ Q u s:=⟨v,H,I,r,h⟩
 rcases l with⟨z,hm⟩|⟨z,c,F,j⟩
 ·exact V1 (SH I.ok.kind z L hm fin) hd
 ·rcases z with z|z
  ·exact V1 (Ta I.ok.kind z F j fin) hd
  ·exact V1 (wpAny_loadName_free I.ok.kind z F j fin B) hd
theorem Cl{i j pos}:PE X (.Constant (.int i) j pos) (tC (.int i)):=λ_ _ _ H _ I h=>wpAny_Constant_int ⟨.int i,H,I.tok _,⟨_,rfl⟩,h⟩
theorem Es{b j pos}:PE X (.Constant (.bool b) j pos) (tC (.bl b)):=λ_ _ _ H _ I h=>Constant_bool ⟨.bl b,H,I,rfl,h⟩
theorem Cn{j pos}:PE X (.Constant .none j pos) (tC .non):=λ_ _ _ H _ I h=>Constant_none ⟨.non,H,I,rfl,h⟩
def Gl(X:Cx)(x:Str):Prop:=X.env.kindOf x=Z .globalImplicit
theorem io{E Q:i3->r0->Prop}(I:Inv X pins σ H s)(j:Gl X x)(hm:X.mg x=Z u)(h:Q u s)(hd:(x==("__debug__":Str))=VP:=by decide):KU (model X.prog X.w) X.A (eval (.Name x pos) X.env) Q E s:=QS I.ok.kind j (Calls.loadGlobal_global (by rw[I.ok.glob];exact I.mod.glob.keeps I.bk) hm h) hd
theorem dX{E Q:i3->r0->Prop}(I:Inv X pins σ H s)(j:Gl X x)(hm:X.mg x=Y)(z:OE x=Z u)(h:Q u s)(B:x≠"__name__":=by decide)(hd:(x==("__debug__":Str))=VP:=by decide):KU (model X.prog X.w) X.A (eval (.Name x pos) X.env) Q E s:=by obtain⟨mb,h1,h2⟩:=I.mod.blt;exact QS I.ok.kind j (Calls.loadGlobal_builtin (by rw[I.ok.glob];exact I.mod.glob.keeps I.bk) hm (by rw[I.ok.blt];exact h1.keeps I.bk) ((h2 x B).trans z) h) hd
theorem Aq(j:Gl X x)(hm:X.mg x=Z u)(r:RelV v u)(hd:(x==("__debug__":Str))=VP:=by decide):PE X (.Name x pos) (tC v):=λ_ _ _ H _ I h=>io I j hm ⟨v,H,I,r,h⟩ hd
theorem Ar(j:Gl X x)(hm:X.mg x=Y)(z:OE x=Z u)(r:RelV v u)(B:x≠"__name__":=by decide)(hd:(x==("__debug__":Str))=VP:=by decide):PE X (.Name x pos) (tC v):=λ_ _ _ H _ I h=>dX I j hm z ⟨v,H,I,r,h⟩ B hd
variable{a b:Expr}{ta tb:TE}{pos:Pos}
variable{tA tB':TT}{rest:List Expr}
noncomputable def FK(t u:TT):TT:=λσ H Q=>t σ H λc H1=>if c=N3 then u σ H1 Q else Q VP H1
noncomputable def tOr(t u:TT):TT:=λσ H Q=>t σ H λc H1=>if c=N3 then Q N3 H1 else u σ H1 Q
noncomputable def FL(t:TT):TT:=λσ H Q=>t σ H λc H1=>Q (!c) H1
theorem As(j:PT X a tA):PW X (.BoolOp .And [a] pos) tA:=by
 intro wh pins s σ H Q I h;refine isTrue_and (thn (j pins s σ H Q I h) λc s1 e=>?_)
 cases c with
 |true=>exact isTrue_and_nil e
 |false=>exact e
theorem Co(j:PT X a tA):PW X (.BoolOp .Or [a] pos) tA:=by
 intro wh pins s σ H Q I h;refine isTrue_or (thn (j pins s σ H Q I h) λc s1 e=>?_)
 cases c with
 |false=>exact isTrue_or_nil e
 |true=>exact e
theorem Cp(B:PT X a tA)(F:PW X (.BoolOp .And (b::rest) pos) tB'):PW X (.BoolOp .And (a::b::rest) pos) (FK tA tB'):=by
 intro wh pins s σ H Q I h;refine isTrue_and (thn (B pins s σ H _ I h) λc s1 G=>?_);obtain⟨H1,j,z⟩:=G
 cases c with
 |true=>exact F wh pins s1 σ H1 Q j z
 |false=>exact⟨H1,j,z⟩
theorem Et(B:PT X a tA)(F:PW X (.BoolOp .Or (b::rest) pos) tB'):PW X (.BoolOp .Or (a::b::rest) pos) (tOr tA tB'):=by
 intro wh pins s σ H Q I h;refine isTrue_or (thn (B pins s σ H _ I h) λc s1 G=>?_);obtain⟨H1,j,z⟩:=G
 cases c with
 |true=>exact⟨H1,j,z⟩
 |false=>exact F wh pins s1 σ H1 Q j z
theorem Cq(j:PT X a tA):PT X (.UnaryOp .Not a pos) (FL tA):=by intro pins s σ H Q I h;exact isTrue_not (j pins s σ H (λc H1=>Q (!c) H1) I h)
noncomputable def Eu(ta tb:TE):TE:=λσ H Q=>ta σ H λx H1=>∃c,x=.bl c/\if c=N3 then tb σ H1 Q else Q (.bl VP) H1
noncomputable def FM(ta tb:TE):TE:=λσ H Q=>ta σ H λx H1=>∃c,x=.bl c/\if c=N3 then Q (.bl N3) H1 else tb σ H1 Q
noncomputable def Ev(ta:TE):TE:=λσ H Q=>ta σ H λx H1=>∃c,x=.bl c/\Q (.bl (!c)) H1
theorem Cr{op}{t:TE}(h:PE X a t):PE X (.BoolOp op [a] pos) t:=λpins s σ H Q I hw=>BoolOp_one (h pins s σ H Q I hw)
theorem Ct(B:PE X a ta)(F:PE X (.BoolOp .And (b::rest) pos) tb):PE X (.BoolOp .And (a::b::rest) pos) (Eu ta tb):=by
 intro pins s σ H Q I h;refine BoolOp_and (thn (B pins s σ H _ I h) λv s1 G=>?_);obtain⟨x,H1,z,J,j⟩:=G;obtain⟨c,rfl,j⟩:=j
 cases J
 refine O9 ?_
 cases c with
 |true=>exact F pins s1 σ H1 Q z j
 |false=>exact⟨.bl VP,H1,z,rfl,j⟩
theorem Ew(B:PE X a ta)(F:PE X (.BoolOp .Or (b::rest) pos) tb):PE X (.BoolOp .Or (a::b::rest) pos) (FM ta tb):=by
 intro pins s σ H Q I h;refine BoolOp_or (thn (B pins s σ H _ I h) λv s1 G=>?_);obtain⟨x,H1,z,J,j⟩:=G;obtain⟨c,rfl,j⟩:=j
 cases J
 refine O9 ?_
 cases c with
 |false=>exact F pins s1 σ H1 Q z j
 |true=>exact⟨.bl N3,H1,z,rfl,j⟩
theorem Cu(z:PE X a ta):PE X (.UnaryOp .Not a pos) (Ev ta):=by
 intro pins s σ H Q I h;refine UnaryOp_ (thn (z pins s σ H _ I h) λv s1 B=>?_);obtain⟨x,H1,F,G,j⟩:=B;obtain⟨c,rfl,j⟩:=j
 cases G
 exact not_of (O9 ⟨.bl (!c),H1,F,rfl,j⟩)
noncomputable def tIf(t:TT)(ta tb:TE):TE:=λσ H Q=>t σ H λc H1=>if c=N3 then ta σ H1 Q else tb σ H1 Q
theorem xz(B:PT X c tA)(F:PE X a ta)(G:PE X b tb):PE X (.IfExp c a b pos) (tIf tA ta tb):=by
 intro pins s σ H Q I h;refine wpAny_IfExp (thn (B pins s σ H _ I h) λd s1 J=>?_);obtain⟨H1,j,z⟩:=J
 cases d with
 |true=>exact F pins s1 σ H1 Q j z
 |false=>exact G pins s1 σ H1 Q j z
end
end
variable{K:Frag}{tg:Expr}{te:TE}{op:P1}{body:List Stmt}
section
def SqL(K:Frag)(H:Hp)(a:VQ)(xs:List V):Prop:=
 Rd H a (.lst xs) ∨
  ∃(o:Obj) (its:Array i3) (n:Nat),K.lookup a=Z o/\o.cls=.type "list"/\o.dict=Y/\o.data=.seq its n/\its.size<=KJ/\Vals xs its.toList
def SqT(K:Frag)(H:Hp)(a:VQ)(xs:List V):Prop:=
 Rd H a (.tup xs) ∨
  ∃(o:Obj) (its:Array i3) (n:Nat),K.lookup a=Z o/\o.cls=.type "tuple"/\o.data=.seq its n/\its.size<=KJ/\Vals xs its.toList
noncomputable def FN:i3->Option V
 |.none=>Z .non
 |.bool b=>Z (.bl b)
 |.int i _=>Z (.int i)
 |.str x _=>Z (.str x)
 |.bytes b _=>Z (.byt b)
 |.float b _=>Z (.flt b)
 |.ref a=>Z (.ref a)
 |.type n=>Z (.ty n)
 |_=>Y
theorem RelV.abs{x:V}(r:RelV x u):FN u=Z x:=by
 cases x with
 |non=>cases r;rfl
 |bl _=>cases r;rfl
 |int _=>obtain⟨t,rfl⟩:=r;rfl
 |str _=>obtain⟨t,rfl⟩:=r;rfl
 |byt _=>obtain⟨t,rfl⟩:=r;rfl
 |flt _=>obtain⟨t,rfl⟩:=r;rfl
 |ref _=>cases r;rfl
 |ty _=>cases r;rfl
theorem RelV.inj{x y:V}(r:RelV x u)(q:RelV y u):x=y:=N1.inj (r.abs.symm.trans q.abs)
theorem Vals.inj:∀{xs ys:List V} {us:List i3},Vals xs us->Vals ys us->xs=ys
 |_,_,_,.nil,.nil=>rfl
 |_,_,_,.cons r t,.cons r' t'=>by rw[r.inj r',Vals.inj t t']
section
variable{X:Cx}{pins:List (VQ×Obj)}{σ:St}{H:Hp}{s:r0}{a:VQ}{xs ys:List V}
theorem SqL.of(h:H a=Z (.lst xs)):SqL K H a xs:=.inl (.inl h)
theorem SqT.of(h:H a=Z (.tup xs)):SqT K H a xs:=.inl (.inl h)
theorem Inv.list(I:Inv X pins σ H s)(h:SqL X.K H a xs):∃its:List i3,Vals xs its/\PlainL s.heap a its.toArray/\xs.length<=KJ:=by
 rcases h with h|⟨o,its,n,j,B,hd,hs,F,r⟩
 ·obtain⟨z,its,n,r,e⟩:=h.ok I.hok;exact⟨its,r,⟨_,n,e,rfl,rfl,rfl⟩,z⟩
 ·refine⟨its.toList,r,⟨o,n,I.kIn a o j,B,hd,by simpa using hs⟩,?_⟩
  have e:=r.length;simp only[Lm]at e;lia
theorem Inv.tuple(I:Inv X pins σ H s)(h:SqT X.K H a xs):∃its:List i3,Vals xs its/\IsTup s.heap a its.toArray/\xs.length<=KJ:=by
 rcases h with h|⟨o,its,n,j,B,hs,F,r⟩
 ·obtain⟨z,its,r,p⟩:=h.ok I.hok;exact⟨its,r,p,z⟩
 ·refine⟨its.toList,r,⟨o,I.kIn a o j,B,n,by simpa using hs⟩,?_⟩
  have e:=r.length;simp only[Lm]at e;lia
theorem Inv.list_inj(I:Inv X pins σ H s)(h:SqL X.K H a xs)(h':SqL X.K H a ys):xs=ys:=by
 obtain⟨its,r,⟨o,n,e,_,_,d⟩,_⟩:=I.list h;obtain⟨its',r',⟨o',n',e',_,_,d'⟩,_⟩:=I.list h';rw[e]at e';cases e';rw[d]at d'
 injection d' with d1 _
 have:its=its':=by simpa using congrArg RZ d1
 subst this;exact r.inj r'
theorem Inv.tuple_inj(I:Inv X pins σ H s)(h:SqT X.K H a xs)(h':SqT X.K H a ys):xs=ys:=by
 obtain⟨its,r,⟨o,e,_,n,d⟩,_⟩:=I.tuple h;obtain⟨its',r',⟨o',e',_,n',d'⟩,_⟩:=I.tuple h';rw[e]at e';cases e';rw[d]at d'
 injection d' with d1 _
 have:its=its':=by simpa using congrArg RZ d1
 subst this;exact r.inj r'
end
noncomputable abbrev Cx.wish(X:Cx)(E:i3->r0->Prop):Cx:={X with xe:=E}
noncomputable abbrev Cx.nox(X:Cx):Cx:=X.wish λ_ _=>False
theorem Cx.Ok.wish(ok:X.Ok)(E:i3->r0->Prop):(X.wish E).Ok:=⟨ok.mod,ok.kind,ok.glob,ok.blt,ok.above,ok.inj,ok.has,ok.cab,ok.hd,ok.frames,ok.stk,ok.exf,ok.bs,ok.bsz,ok.noex,ok.exfs,ok.funs,ok.frf⟩
theorem Cx.Ok.unwish{E:i3->r0->Prop}(ok:(X.wish E).Ok):X.Ok:=⟨ok.mod,ok.kind,ok.glob,ok.blt,ok.above,ok.inj,ok.has,ok.cab,ok.hd,ok.frames,ok.stk,ok.exf,ok.bs,ok.bsz,ok.noex,ok.exfs,ok.funs,ok.frf⟩
section
variable{X:Cx}{pins:List (VQ×Obj)}{σ:St}{H:Hp}{s:r0}{E:i3->r0->Prop}
theorem Inv.wish(I:Inv X pins σ H s)(E:i3->r0->Prop):Inv (X.wish E) pins σ H s:=⟨I.ok.wish E,I.os,I.bare,I.base,I.loc,I.cell,I.free,I.freeC,I.pin,I.hok,I.len⟩
theorem Inv.unwish(I:Inv (X.wish E) pins σ H s):Inv X pins σ H s:=⟨I.ok.unwish,I.os,I.bare,I.base,I.loc,I.cell,I.free,I.freeC,I.pin,I.hok,I.len⟩
theorem SP.unwish{D:bN}{f:Flow}{s':r0}(h:SP (X.wish E) pins D f s'):SP X pins D f s':=by
 cases f with
 |next=>obtain⟨σ',H',I,q⟩:=h;exact⟨σ',H',I.unwish,q⟩
 |brk=>obtain⟨σ',H',I,q⟩:=h;exact⟨σ',H',I.unwish,q⟩
 |cont=>obtain⟨σ',H',I,q⟩:=h;exact⟨σ',H',I.unwish,q⟩
 |ret u=>obtain⟨v,σ',H',I,r,q⟩:=h;exact⟨v,σ',H',I.unwish,r,q⟩
theorem PSs.nox{st:List Stmt}{t:TS}(h:PSs X.nox st t):PSs X st t:=λpins s σ H D I hw=>Mj (h pins s σ H D (I.wish _) hw) (λ_ _ q=>q.unwish) λ_ _ z=>False.elim z
end
section
variable{X:Cx}{st:Stmt}{rest:List Stmt}{t u:TS}{e:Expr}{te:TE}{pos:Pos}
noncomputable def sY:TS:=λD σ H=>D.nx σ H
noncomputable def Cv(t u:TS):TS:=λD σ H=>t {D with nx:=u D} σ H
theorem Au:PSs X [] sY:=λ_ _ σ H _ I h=>Sn ⟨σ,H,I,h⟩
theorem xA(h1:PS X st t)(h2:PSs X rest u):PSs X (st::rest) (Cv t u):=by
 intro pins s σ H D I h;refine wpAny_execs_cons (thn (h1 pins s σ H {D with nx:=u D} I h) λf s1 q=>?_)
 cases f with
 |next=>obtain⟨σ',H',I',q⟩:=q;exact h2 pins s1 σ' H' D I' q
 |ret v=>exact q
 |brk=>exact q
 |cont=>exact q
noncomputable def uO:TS:=λD σ H=>D.bk σ H
noncomputable def zO:TS:=λD σ H=>D.ct σ H
theorem Av:PS X (.Pass pos) sY:=λ_ _ σ H _ I h=>wpAny_Pass ⟨σ,H,I,h⟩
theorem xB:PS X (.Break pos) uO:=λ_ _ σ H _ I h=>wpAny_Break ⟨σ,H,I,h⟩
theorem qZ:PS X (.Continue pos) zO:=λ_ _ σ H _ I h=>wpAny_Continue ⟨σ,H,I,h⟩
theorem Inv.quiet(I:Inv X pins σ H s):interactive X.env=VP:=by simp[interactive,I.ok.kind]
noncomputable def zP(te:TE):TS:=λD σ H=>te σ H λ_ H1=>D.nx σ H1
theorem Aw(he:PE X e te)(hs:Pa e Y pos.line X.env=pure VP:=by rfl):PS X (.Expr e pos) (zP te):=by intro pins s σ H D I h;exact wpAny_Expr_any (thn (he pins s σ H _ I h) λv s1 j=>(by obtain⟨x,H1,z,F,B⟩:=j;exact⟨σ,H1,z,B⟩)) I.quiet hs
noncomputable def Cw(te:TE):TS:=λD σ H=>te σ H D.rt
theorem Cy(he:PE X e te):PS X (.Return (Z e) pos) (Cw te):=by intro pins s σ H D I h;exact wpAny_Return_some (thn (he pins s σ H _ I h) λv s1 j=>(by obtain⟨x,H1,z,B,F⟩:=j;exact⟨x,σ,H1,z,B,F⟩))
noncomputable def Cz(c:TT)(t u:TS):TS:=λD σ H=>c σ H λb H1=>if b=N3 then t D σ H1 else u D σ H1
theorem Ex{a b:List Stmt}{tc:TT}(B:PT X c tc)(F:PSs X a t)(G:PSs X b u):PS X (.If c a b pos) (Cz tc t u):=by
 intro pins s σ H D I h;refine wpAny_If (thn (B pins s σ H _ I h) λd s1 J=>?_);obtain⟨H1,j,z⟩:=J
 cases d with
 |true=>exact F pins s1 σ H1 D j z
 |false=>exact G pins s1 σ H1 D j z
end
noncomputable abbrev TG:=V->St->Hp->(St->Hp->Prop)->Prop
noncomputable abbrev TGs:=List V->St->Hp->(St->Hp->Prop)->Prop
def PG(X:Cx)(target:Expr)(t:TG):Prop:=
 ∀(pins:List (VQ×Obj)) (s:r0) (σ:St) (H:Hp) (v:V) (u:i3) (Q:St->Hp->Prop),Inv X pins σ H s->RelV v u->t v σ H Q->
  KU (model X.prog X.w) X.A (assign target X.env u) (λ_ s'=>∃σ' H',Inv X pins σ' H' s'/\Q σ' H') X.xe s
def PGs(X:Cx)(ts:List Expr)(t:TGs):Prop:=
 ∀(pins:List (VQ×Obj)) (s:r0) (σ:St) (H:Hp) (vs:List V) (us:List i3) (Q:St->Hp->Prop),Inv X pins σ H s->Vals vs us->t vs σ H Q->
  KU (model X.prog X.w) X.A (Rr ((Mp ts X.env).map (·.2)) us) (λ_ s'=>∃σ' H',Inv X pins σ' H' s'/\Q σ' H') X.xe s
noncomputable abbrev kM:=V->V->V->Hp->(Hp->Prop)->Prop
def PSet(X:Cx)(t:kM):Prop:=
 ∀(pins:List (VQ×Obj)) (s:r0) (σ:St) (H:Hp) (o i v:V) (ov iv u:i3) (Q:Hp->Prop),Inv X pins σ H s->RelV o ov->RelV i iv->RelV v u->t o i v H Q->
  KU (model X.prog X.w) X.A (T6 ov iv u) (λ_ s'=>∃H',Inv X pins σ H' s'/\Q H') X.xe s
noncomputable abbrev TIp:=V->V->Hp->VK->Prop
def PIp(X:Cx)(op:P1)(t:TIp):Prop:=
 ∀(pins:List (VQ×Obj)) (s:r0) (σ:St) (H:Hp) (x y:V) (v u:i3) (Q:VK),Inv X pins σ H s->RelV x v->RelV y u->t x y H Q->
  KU (model X.prog X.w) X.A (Pb op v u) (EP X pins σ Q) X.xe s
section
variable{X:Cx}{pos:Pos}
noncomputable def jx(i:Nat):TG:=λv σ H Q=>Q (σ.set i (Z v)) H
theorem rD(j:X.N.Nodup)(hi:X.N[i]?=Z x)(hx:Loc X.env.scope x)(hf:X.fn x=N3∨X.env.scope.names.lookup x=Z .local:=by first|exact .inl rfl|exact .inr rfl|assumption):PG X (.Name x pos) (jx i):=by intro pins s σ H v u Q I r h;exact wpAny_assign_Name (fU I j hi hx r (λs' I'=>⟨_,H,I',h⟩) hf)
noncomputable def FO:TGs:=λvs σ H Q=>vs=[]/\Q σ H
noncomputable def Ey(t:TG)(u:TGs):TGs:=λvs σ H Q=>∃v r,vs=v::r/\t v σ H λσ' H'=>u r σ' H' Q
theorem Ax:PGs X [] FO:=by
 intro pins s σ H vs us Q I r h;obtain⟨e,h⟩:=h;subst e
 cases r
 exact TV ⟨σ,H,I,h⟩
theorem xC{es:List Expr}{t:TG}{u:TGs}(h1:PG X e t)(h2:PGs X es u)(hs:(Mp (e::es) X.env).map (·.2)=assign e X.env::(Mp es X.env).map (·.2):=by rfl):PGs X (e::es) (Ey t u):=by
 intro pins s σ H vs us Q I r h;obtain⟨v,vr,j,h⟩:=h;subst j
 cases r with
 |cons r rr=>rw[hs];refine QT (thn (h1 pins s σ H _ _ _ I r h) λ_ s1 z=>?_);obtain⟨σ1,H1,B,F⟩:=z;exact h2 pins s1 σ1 H1 _ _ Q B rr F
noncomputable def FQ(K:Frag)(n:Nat)(t:TGs):TG:=λv σ H Q=>∃a xs,v=.ref a/\SqT K H a xs/\xs.length=n/\t xs σ H Q
theorem CA{es:List Expr}{k:Nat}{t:TGs}{n:Nat}(z:X.calm=N3)(h:PGs X es t)(B:(Mp es X.env).length=n:=by rfl)(j:(Mp es X.env).findIdx? (·.1)=Y:=by rfl):PG X (.Tuple es k pos) (FQ X.K n t):=by
 intro pins s σ H v u Q I r hw;obtain⟨a,xs,F,G,J,hw⟩:=hw;subst F
 cases r
 obtain⟨its,rv,L,U⟩:=I.tuple G;refine assign_Tuple_tuple (I.ok.hd z) L (by simp[B,<-J,rv.length]) j λh' hx=>?_
 have O:Inv X pins σ H {s with heap:=h'}:=I.kept (t':=s.toks) λb o e=>hx b o (Lc (z4 e)) e
 exact h pins _ σ H xs _ Q O (by simpa using rv) hw
noncomputable def FR(to ti:TE)(t:kM):TG:=λv σ H Q=>to σ H λo H1=>ti σ H1 λi H2=>t o i v H2 λH3=>Q σ H3
theorem CB {o i:Expr}{to ti:TE}{t:kM}(ho:PE X o to)(hi:PE X i ti)(hs:PSet X t)(z:∀v,assign (.Subscript o i pos) X.env v=(do
   let ov <-holding [v] (eval o X.env)
   let iv <-holding [v,ov] (eval i X.env)
   Ri pos
   holding [v,ov,iv] (T6 ov iv v)
   release [v,ov,iv] []):=by intro _;rfl):PG X (.Subscript o i pos) (FR to ti t):=by
 intro pins s σ H v u Q I r h;rw[z];refine gV (LU (thn (ho pins s σ H _ I h) λov s1 j=>?_));obtain⟨x,H1,B,F,G⟩:=j;refine gV (LU (thn (hi pins s1 σ H1 _ B G) λiv s2 j=>?_));obtain⟨y,H2,J,L,O⟩:=j;refine gV (Oh (gV (LU (thn (hs pins s2 σ H2 x y v ov iv u _ J F L r O) λ_ s3 j=>?_))));obtain⟨U,F2,fv⟩:=j;exact wpAny_release ⟨σ,U,F2,fv⟩
noncomputable def oD(te:TE)(g:TG):TS:=λD σ H=>te σ H λx H1=>g x σ H1 D.nx
theorem oE{g:TG}(he:PE X e te)(j:PG X tg g)(hs:Pm [tg] e pos.line X.env=pure VP:=by rfl)(hw:Oi [tg] e X.env=pure Y:=by rfl)(h1:(Mp [tg] X.env).map (·.2)=[assign tg X.env]:=by rfl):PS X (.Assign [tg] e pos) (oD te g):=by intro pins s σ H D I h;refine wpAny_Assign_stores (thn (he pins s σ H _ I h) λv s1 g9=>?_) hs hw;obtain⟨x,H1,z,B,F⟩:=g9;rw[h1];exact thn (j pins s1 σ H1 x v _ z B F) λ_ s2 q=>q
noncomputable def CC(i j:Nat)(ta:TA):TS:=λD σ H=>ta σ H λvs H1=>∃v w,vs=[v,w]/\D.nx ((σ.set i (Z v)).set j (Z w)) H1
theorem CD{j:Nat}{y:Str}{a b:Expr}{ta:TA}{px py pt:Pos}{kt B z}(F2:X.calm=N3)(L:X.N.Nodup)(hi:X.N[i]?=Z x)(fv:X.N[j]?=Z y)(F:i≠j)(hx:X.env.scope.names.lookup x=Z .local)(O:X.env.scope.names.lookup y=Z .local)(ha:PA X [a,b] ta)(hw:Oi [.Tuple [.Name x px,.Name y py] kt pt] (.Tuple [a,b] B z) X.env=pure (Z [x,y]))(hs:Pm [.Tuple [.Name x px,.Name y py] kt pt] (.Tuple [a,b] B z) pos.line X.env=pure VP:=by rfl):
 PS X (.Assign [.Tuple [.Name x px,.Name y py] kt pt] (.Tuple [a,b] B z) pos) (CC i j ta):=by
 intro pins s σ H D I h;rw[exec_Assign_arm];refine gV (Oh ?_);rw[hs];refine gV (y4 ?_);rw[if_neg (by decide)]
 refine gV (Tuple_ (thn (ha _ pins s σ H _ I h) λus s1 g9=>?_));obtain⟨vs,H1,I1,r1,G⟩:=g9;obtain⟨v,w,e1,G⟩:=G;subst e1;obtain⟨u1,u2,rfl,rv,rw'⟩:∃u1 u2,us=[u1,u2]/\RelV v u1/\RelV w u2:=by
  cases r1 with
  |cons p q=>
   cases q with
   |cons p' q'=>
    cases q'
    exact⟨_,_,rfl,p,p'⟩
 refine Ms ?_ (by show 2<=KJ;decide)
 have I2:Inv X pins σ H1 {s1 with heap:=s1.heap.push {cls:=.type "tuple",data:=.seq [u1,u2].toArray}}:=I1.kept (t':=s1.toks) λb o e=>p0 _ e
 rw[hw];refine gV (y4 ?_);show KU (model X.prog X.w) X.A (do rule "assign.swapped-stores";let items <-UH (.ref s1.heap.objs.size) 2 Y;Rr [λv=>V2 X.env y v,λv=>V2 X.env x v] items.reverse;pure Flow.next) _ _ _
 refine gV (Nl (gV (unpackItems_tuple (items:=#[u1,u2]) (I.ok.hd F2) (QR s1.heap _) λh' J=>?_)));have I3:=I2.kept (h':=h') (t':=s1.toks) λb o e=>J b o (Lc (z4 e)) e;show KU _ _ (Rr [λv=>V2 X.env y v,λv=>V2 X.env x v] [u2,u1]>>=λ_=>pure Flow.next) _ _ _;refine gV (QT (wpAny_bindName (fU I3 L fv (.inl O) rw' (λs2 I4=>?_) (.inr O))));refine QT (wpAny_bindName (fU I4 L hi (.inl hx) rv (λs3 U=>TV (y4 ?_)) (.inr hx)));rw[List.set_comm _ _ (Ne.symm F)]at U;exact⟨_,H1,U,G⟩
noncomputable def FS(i:Nat)(te:TE)(ti:TIp):TS:=λD σ H=>∃x,σ[i]?=Z (Z x)/\te σ H λy H1=>ti x y H1 λz H2=>D.nx (σ.set i (Z z)) H2
theorem CF{ti:TIp}{pos':Pos}(G:X.N.Nodup)(hi:X.N[i]?=Z x)(hx:Loc X.env.scope x)(he:PE X e te)(ho:PIp X op ti)(hf:X.fn x=N3∨X.env.scope.names.lookup x=Z .local:=by first|exact .inl rfl|exact .inr rfl|assumption):
 PS X (.AugAssign (.Name x pos') op e pos) (FS i te ti):=by
 intro pins s σ H D I h;obtain⟨v,J,h⟩:=h;obtain⟨m,L,O⟩:=I.loc;have vis:Vis X.env.scope x:=by rcases hx with k|k;exact .inl k;exact .inr (.inl k)
 obtain⟨u,r,l⟩:=O i x v hi J vis;refine wpAny_AugAssign_Name ?_;have go:KU (model X.prog X.w) X.A (eval e X.env) (λw s₂=>KU (model X.prog X.w) X.A (Pb op u w) (λr s₃=>KU (model X.prog X.w) X.A (storeName X.env x r) (λ_=>SP X pins D .next) X.xe s₃) X.xe s₂) X.xe s:=by refine thn (he pins s σ H _ I h) λw s1 F=>?_;obtain⟨y,H1,U,F2,fv⟩:=F;refine thn (ho pins s1 σ H1 v y u w _ U r F2 fv) λz s2 F=>?_;obtain⟨zv,H2,I2,r2,q2⟩:=F;exact fU I2 G hi hx r2 (λs3 I3=>⟨_,H2,I3,q2⟩) hf
 rcases l with⟨j,hm⟩|⟨j,c,hc,B⟩
 ·exact SH I.ok.kind j L hm go
 ·rcases j with j|j
  ·exact Ta I.ok.kind j hc B go
  ·rcases hx with k|k
   ·have:X.env.scope.names.lookup x=Z .free:=j;rw[k]at this;cases this
   ·have:X.env.scope.names.lookup x=Z .free:=j;rw[k]at this;cases this
noncomputable def Ez(to ti te:TE)(tget:V->V->Hp->VK->Prop)(tip:TIp)(tset:kM):TS:=λD σ H=>to σ H λo H1=>ti σ H1 λi H2=>tget o i H2 λx H3=>te σ H3 λy H4=>tip x y H4 λz H5=>tset o i z H5 λH6=>D.nx σ H6
def CG(X:Cx)(t:V->V->Hp->VK->Prop):Prop:=
 ∀(pins:List (VQ×Obj)) (s:r0) (σ:St) (H:Hp) (o i:V) (ov iv:i3) (Q:VK),Inv X pins σ H s->RelV o ov->RelV i iv->t o i H Q->
  KU (model X.prog X.w) X.A (Rj ov iv) (EP X pins σ Q) X.xe s
theorem Ay{o i:Expr}{to ti:TE}{tget:V->V->Hp->VK->Prop}{tip:TIp}{tset:kM}{tpos:Pos}(ho:PE X o to)(hi:PE X i ti)(J:CG X tget)(he:PE X e te)(L:PIp X op tip)(hs:PSet X tset)(O:∀ov iv new,augStore i ov iv new=(do holding [new,ov,iv] (T6 ov iv new);release [new,ov,iv] [];pure .next):=by intros;rfl):PS X (.AugAssign (.Subscript o i tpos) op e pos) (Ez to ti te tget tip tset):=by intro pins s σ H D I h;refine wpAny_AugAssign_SubscriptAny (thn (ho pins s σ H _ I h) λov s1 g9=>?_) O;obtain⟨z,H1,U,B,F2⟩:=g9;refine thn (hi pins s1 σ H1 _ U F2) λiv s2 j=>?_;obtain⟨F,H2,fv,G,q2⟩:=j;refine thn (J pins s2 σ H2 z F ov iv _ fv B G q2) λold s3 j=>?_;obtain⟨x3,H3,I3,r3,q3⟩:=j;refine thn (he pins s3 σ H3 _ I3 q3) λv s4 j=>?_;obtain⟨x4,H4,I4,r4,q4⟩:=j;refine thn (L pins s4 σ H4 x3 x4 old v _ I4 r3 r4 q4) λnew s5 j=>?_;obtain⟨x5,H5,I5,r5,q5⟩:=j;exact thn (hs pins s5 σ H5 z F x5 ov iv new _ I5 B G r5 q5) λ_ s6 j=>(by obtain⟨H6,I6,q6⟩:=j;exact⟨σ,H6,I6,q6⟩)
end
section
variable{X:Cx}{pos:Pos}
noncomputable def uP(c:TT)(tb:TS):TS:=λD σ H=>∃W:Nat->St->Hp->Prop,(∃m,W m σ H)/\∀m σ H,W m σ H->
 c σ H λb H1=>if b=N3 then ∃N:St->Hp->Prop,(∀σ' H',N σ' H'->∃m',m'<m/\W m' σ' H')/\tb {D with nx:=N,ct:=N,bk:=D.nx} σ H1 else D.nx σ H1
theorem xD{tc:TT}{tb:TS}(L:PassesOwn (model X.prog X.w) X.A X.env X.xe)(F2:PT X c tc)(fv:PSs X body tb):PS X (.While c body [] pos) (uP tc tb):=by
 intro pins s σ H D I h;obtain⟨W,⟨m0,w0⟩,turn⟩:=h;refine wpAny_While (codeAny_whileLoop (λn s'=>∃σ' H',Inv X pins σ' H' s'/\W n σ' H') ?_ m0 ⟨σ,H,I,w0⟩);rintro n s1 ⟨σ1,H1,I1,w1⟩;refine O1 L (thn (F2 pins s1 σ1 H1 _ I1 (turn n σ1 H1 w1)) λb s2 g9=>?_);obtain⟨H2,O,z⟩:=g9
 cases b with
 |true=>
  obtain⟨N,U,z⟩:=z;rw[if_pos rfl];refine O1 L (thn (fv pins s2 σ1 H2 _ O z) λf s3 B=>?_)
  cases f with
  |next=>obtain⟨σ3,j,F,G⟩:=B;obtain⟨m',hm,J⟩:=U σ3 j G;exact⟨m',hm,σ3,j,F,J⟩
  |cont=>obtain⟨σ3,j,F,G⟩:=B;obtain⟨m',hm,J⟩:=U σ3 j G;exact⟨m',hm,σ3,j,F,J⟩
  |brk=>exact B
  |ret v=>exact B
 |false=>rw[if_neg KW];exact Sn ⟨σ1,H2,O,z⟩
end
structure It where
 go:Nat->Hp->Prop
 yld:Nat->Hp->V->Hp->Prop
 stop:Nat->Hp->Prop
def cG(X:Cx)(pins:List (VQ×Obj))(H:Hp)(b:VQ):Prop:=H b=Y/\b≠X.env.locals/\b∉X.fs/\(b∈X.ex∨X.s₀.heap.objs.size<=b)/\(∀x c,X.env.cells.lookup x=Z c->c≠b)/\∀p∈X.pn++pins,p.1≠b
theorem Inv.fpOk{H':Hp}(I:Inv X pins σ H s)(j:s.heap.objs.size<=b)(B:H' b=Y):cG X pins H' b:=by
 refine⟨B,Ml (Lh I.lt j),I.nofs j,.inr (Mu I.sz j),λx c e z=>?_,λp F z=>?_⟩
 ·obtain⟨v,q⟩:=I.cell x c e;exact absurd (Lh q.lt (by rw[z];exact j)) (Mh _)
 ·exact absurd (Lh (z4 (I.pin p F).1) (by rw[z];exact j)) (Mh _)
structure j8(P:Lb)(w:Ly)(K:Frag)(tg:Expr)(J:It)(fp:List VQ)(it:VQ)(tn:Nat->Heap->Prop):Prop where
 mem:it∈fp
 obj:∀i h,tn i h->∀b∈fp,∃o,h.get? b=Z o/\∀v,o.data≠.cell v
 keep:∀i h h',tn i h->(∀b∈fp,∀o,h.get? b=Z o->h'.get? b=Z o)->tn i h'
 item:∀(X:Cx),X.prog=P->X.w=w->X.K=K->X.calm=N3->∀(i:Nat) (pins:List (VQ×Obj)) (s:r0) (σ:St) (H:Hp) (E:i3->r0->Prop),Inv X pins σ H s->(∀b∈fp,cG X pins H b)->tn i s.heap->J.go i H->
  KU (model P w) X.A (NS (.ref it)) (λr s1=>∃u,r=Z u /\
   KU (model P w) X.A (Qx tg (.ref it) u) (λ_ s2=>∃x H',Inv X pins σ H' s2/\RelV x u/\J.yld i H x H'/\tn (i+1) s2.heap/\∀b∈fp,H' b=Y) E s1) E s
 done:∀(X:Cx),X.prog=P->X.w=w->X.K=K->X.calm=N3->∀(i:Nat) (pins:List (VQ×Obj)) (s:r0) (σ:St) (H:Hp) (E:i3->r0->Prop),Inv X pins σ H s->(∀b∈fp,cG X pins H b)->tn i s.heap->J.stop i H->
  KU (model P w) X.A (NS (.ref it)) (λr s1=>r=Y/\Inv X pins σ H s1) E s
 self:∀(A:LD) (i:Nat) (s:r0) (Q:i3->r0->Prop) (E:i3->r0->Prop),tn i s.heap->Q (.ref it) s->KU (model P w) A (S0 (.ref it)) Q E s
noncomputable abbrev TI:=St->Hp->(It->Hp->Prop)->Prop
def PIE(X:Cx)(pins:List (VQ×Obj))(σ:St)(tg:Expr)(R:It->Hp->Prop)(itv:i3)(s2:r0):Prop:=∃(it:VQ) (fp:List VQ) (tn:Nat->Heap->Prop) (J:It) (H':Hp),itv=.ref it/\Inv X pins σ H' s2/\j8 X.prog X.w X.K tg J fp it tn/\tn 0 s2.heap/\(∀b∈fp,cG X pins H' b)/\R J H'
def PI(X:Cx)(tg iter:Expr)(wi:TI):Prop:=
 ∀(pins:List (VQ×Obj)) (s:r0) (σ:St) (H:Hp) (R:It->Hp->Prop),Inv X pins σ H s->wi σ H R->
  KU (model X.prog X.w) X.A (eval iter X.env) (λv s1=>KU (model X.prog X.w) X.A (S0 v) (PIE X pins σ tg R) X.xe s1) X.xe s
theorem sZ{E:i3->r0->Prop}{it:VQ}{o:Obj}{n:String}{vs:Array i3}{Q:Unit->r0->Prop}(ho:s.heap.get? it=Z o)(z:o.cls=.type n)(hd:o.data=.fields vs)(B:["enumerate","zip","dict_itemiterator","dict_reverseitemiterator","odict_iterator","itertools.zip_longest","itertools.pairwise"].contains n=VP)(j:Q () s):KU M A (Qx tg (.ref it) u) Q E s:=by
 unfold Qx
 cases tg<;>first
  |exact y4 j
  | (cases u<;>first
      |exact y4 j
      | (refine gV (V3 ho ?_)
         rw[z,hd];show KU M A (if(["enumerate","zip","dict_itemiterator","dict_reverseitemiterator","odict_iterator","itertools.zip_longest","itertools.pairwise"].contains n&&vs[0]?==Z (Nm _))=N3 then _ else _) Q E s
         rw[if_neg (by intro h;rw[B,Bool.false_and]at h;cases h)]
         exact y4 j))
noncomputable def Itl(K:Frag)(a:VQ):It:=⟨λi H=>∃xs x,SqL K H a xs/\xs[i]?=Z x,λi H x H'=>H'=H/\∀xs,SqL K H a xs->xs[i]?=Z x,λi H=>∃xs,SqL K H a xs/\xs.length<=i⟩
noncomputable def Itt(K:Frag)(a:VQ):It:=⟨λi H=>∃xs x,SqT K H a xs/\xs[i]?=Z x,λi H x H'=>H'=H/\∀xs,SqT K H a xs->xs[i]?=Z x,λi H=>∃xs,SqT K H a xs/\xs.length<=i⟩
noncomputable def Itr(lo:Int)(n:Nat):It:=⟨λi _=>i<n,λi H x H'=>H'=H/\x=.int (lo+i),λi _=>n<=i⟩
theorem uQ(a it:VQ):j8 P w K tg (Itl K a) [it] it (λi h=>h.IsListIter it a i) where
 mem:=by simp
 obj:=λi h st b j=>by
  have e:b=it:=by simpa using j
  subst e;obtain⟨o,e,c,d⟩:=st;exact⟨o,e,λv z=>by rw[d]at z;cases z⟩
 keep:=λi h h' st k=>st.at λo e=>k it (by simp) o e
 item:=by
  intro X F hw G O i pins s σ H E I hf st hg;subst F hw G;obtain⟨xs,x,B,hx⟩:=hg;obtain⟨its,rv,p,U⟩:=I.list B;obtain⟨u,F2,ru⟩:=rv.get hx;obtain⟨f0,f1,f2,J,f4,L⟩:=hf it (by simp)
  refine S2 st p.isList (x:=u) (by simpa using F2) λh' st' sb=>?_
  have fv:Inv X pins σ H {s with heap:=h'}:=I.turned (t':=s.toks) (λb o j e=>(sb.2 b j).trans e) f0 f1 J f4 L
  obtain⟨o,e,c,d⟩:=id st';exact⟨u,rfl,sZ (s:={s with heap:=h'}) e c d (by decide) ⟨x,H,fv,ru,⟨rfl,λys hy=>by rw[I.list_inj hy B];exact hx⟩,st',λb j=>(hf b j).1⟩⟩
 done:=by
  intro X F hw G O i pins s σ H E I hf st hg;subst F hw G;obtain⟨xs,B,hx⟩:=hg;obtain⟨its,rv,p,U⟩:=I.list B;obtain⟨f0,f1,f2,J,f4,L⟩:=hf it (by simp)
  have hl:=rv.length;exact Sz (I.ok.hd O) st p.isList (by simp;lia) λh' eb=>⟨rfl,I.turned (t':=s.toks) (λb o j e=>eb b o j e) f0 f1 J f4 L⟩
 self:=λ_ _ _ _ _ st h=>wpAny_pyIter_listiter st h
theorem t5(a it:VQ):j8 P w K tg (Itt K a) [it] it (λi h=>h.IsTupleIter it a i) where
 mem:=by simp
 obj:=λi h st b j=>by
  have e:b=it:=by simpa using j
  subst e;obtain⟨o,e,c,d⟩:=st;exact⟨o,e,λv z=>by rw[d]at z;cases z⟩
 keep:=λi h h' st k=>st.at λo e=>k it (by simp) o e
 item:=by
  intro X F hw G O i pins s σ H E I hf st hg;subst F hw G;obtain⟨xs,x,B,hx⟩:=hg;obtain⟨its,rv,p,U⟩:=I.tuple B;obtain⟨u,F2,ru⟩:=rv.get hx;obtain⟨f0,f1,f2,J,f4,L⟩:=hf it (by simp)
  refine wpAny_pyNext_tuple_item st (show s.heap.IsTuple a its.toArray from p) (x:=u) (by simpa using F2) λh' st' sb=>?_
  have fv:Inv X pins σ H {s with heap:=h'}:=I.turned (t':=s.toks) (λb o j e=>(sb.2 b j).trans e) f0 f1 J f4 L
  obtain⟨o,e,c,d⟩:=id st';exact⟨u,rfl,sZ (s:={s with heap:=h'}) e c d (by decide) ⟨x,H,fv,ru,⟨rfl,λys hy=>by rw[I.tuple_inj hy B];exact hx⟩,st',λb j=>(hf b j).1⟩⟩
 done:=by
  intro X F hw G O i pins s σ H E I hf st hg;subst F hw G;obtain⟨xs,B,hx⟩:=hg;obtain⟨its,rv,p,U⟩:=I.tuple B;obtain⟨f0,f1,f2,J,f4,L⟩:=hf it (by simp)
  have hl:=rv.length;exact wpAny_pyNext_tuple_end (I.ok.hd O) st (show s.heap.IsTuple a its.toArray from p) (by simp;lia) λh' eb=>⟨rfl,I.turned (t':=s.toks) (λb o j e=>eb b o j e) f0 f1 J f4 L⟩
 self:=λ_ _ _ _ _ st h=>wpAny_pyIter_tupleiter st h
theorem t6(it:VQ)(lo:Int)(n:Nat):j8 P w K tg (Itr lo n) [it] it (λi h=>IsRangeIter h it (lo+(i:Nat)*1) ((n:Int)-(i:Nat)) 1) where
 mem:=by simp
 obj:=λi h st b j=>by
  have e:b=it:=by simpa using j
  subst e;exact⟨_,st,λv z=>by
   have z':UI _=Data.cell v:=z
   cases z'⟩
 keep:=λi h h' st k=>k it (by simp) _ st
 item:=by
  intro X B hw F G i pins s σ H E I hf st hg;subst B hw F;obtain⟨f0,f1,f2,J,f4,L⟩:=hf it (by simp)
  have W:=Walks.range (prog:=X.prog) (w:=X.w) (I.ok.hd G) it lo 1 n;refine W.item i s _ _ hg st λv h' tk O st' kk=>?_;obtain⟨t,rfl⟩:=O;have U:Inv X pins σ H {s with heap:=h',toks:=tk}:=I.turned (λb o j e=>kk b o (by simpa using j) e) f0 f1 J f4 L
  refine⟨_,rfl,sZ (s:={s with heap:=h',toks:=tk}) (n:="range_iterator") st' rfl rfl (by decide) ⟨.int (lo+i),H,U,⟨t,?_⟩,⟨rfl,rfl⟩,st',λb j=>(hf b j).1⟩⟩
  rw[Int.mul_one]
 done:=by
  intro X B hw F G i pins s σ H E I hf st hg;subst B hw F;obtain⟨f0,f1,f2,J,f4,L⟩:=hf it (by simp)
  exact wpAny_pyNext_range_end (I.ok.hd G) st (by have:n<=i:=hg;lia) λh' eb=>⟨rfl,I.turned (t':=s.toks) (λb o j e=>eb b o j e) f0 f1 J f4 L⟩
 self:=λ_ _ _ _ _ st h=>wpAny_pyIter_rangeiter st h
end
variable{fp:List VQ}
section
section
variable{X:Cx}{tg:Expr}
theorem xE{R:It->Hp->Prop}{E:i3->r0->Prop}{lo hi:Int}{t u v:Tok}{tk:Nat}(I:Inv X pins σ H s)(h1:-(2^62)<=lo)(h2:lo<2^62)(z:-(2^62)<=hi)(B:hi<2^62)(q:R (Itr lo (hi-lo).toNat) H):KU (model X.prog X.w) X.A (S0 (.ref s.heap.objs.size)) (PIE X pins σ tg R) E {s with heap:=s.heap.push {cls:=.type "range",data:=.fields #[.int lo t,.int hi u,.int 1 v]},toks:=tk}:=by
 refine wpAny_pyIter_range (IsRange.new ..) (small_one h1 h2 z B) ?_;have j:Inv X pins σ H {s with heap:=s.heap.push {cls:=.type "range",data:=.fields #[.int lo t,.int hi u,.int 1 v]},toks:=tk}:=I.kept λb o e=>p0 _ e
 refine⟨(s.heap.push {cls:=.type "range",data:=.fields #[.int lo t,.int hi u,.int 1 v]}).objs.size,[(s.heap.push {cls:=.type "range",data:=.fields #[.int lo t,.int hi u,.int 1 v]}).objs.size],_,_,H,rfl,
  j.kept (t':=tk) λb o e=>p0 _ e,t6 _ lo (hi-lo).toNat,?_,λb F=>?_,q⟩
 ·have G:lo+((0:Nat):Int)*1=lo:=by simp
  have J:(((hi-lo).toNat:Nat):Int)-((0:Nat):Int)=Builtin.Range.rangeSize lo hi 1:=by rw[rangeSize_one];split<;>lia
  show IsRangeIter _ _ (lo+((0:Nat):Int)*1) ((((hi-lo).toNat:Nat):Int)-((0:Nat):Int)) 1;rw[G,J];exact KG _ rfl
 ·have e:b=(s.heap.push {cls:=.type "range",data:=.fields #[.int lo t,.int hi u,.int 1 v]}).objs.size:=by simpa using F
  subst e;exact j.fpOk (L3 _) (j.hok.fresh (L3 _))
noncomputable def EA(ta:TA):TI:=λσ H R=>ta σ H λvs H1=>∃j:Int,vs=[.int j] /\ -(2^62)<=j/\j<2^62/\R (Itr 0 j.toNat) H1
theorem uR{a:Expr}{ta:TA}{p:Pos}(B:Gl X "range")(hm:X.mg "range"=Y)(F:PA X [a] ta)(hs:Lg [a] X.env=[(VP,eval a X.env)]:=by rfl):PI X tg (.Call (.Name "range" p) [a] [] pos) (EA ta):=by
 intro pins s σ H R I h;refine Call_ (dX I B hm boot_range (NJ (thn (F pos pins s σ H _ I h) λus s1 g9=>?_) hs rfl));obtain⟨vs,H1,G,J,z⟩:=g9;obtain⟨j,e,z,L,q⟩:=z;subst e
 cases J with
 |cons r rr=>
  cases rr
  obtain⟨t,rfl⟩:=r;exact call_range_1 (xE G ∅ ∅ z L (by simpa using q))
noncomputable def CH(wi:TI)(g:TG)(tb:TS):TS:=λD σ H=>wi σ H λJ H1=>∃W:Nat->Nat->St->Hp->Prop,(∃m,W 0 m σ H1)/\∀i m σ H,W i m σ H->
 (J.stop i H/\D.nx σ H)∨(J.go i H/\∃N:St->Hp->Prop,(∀σ' H',N σ' H'->∃m',m'<m/\W (i+1) m' σ' H')/\∀x H',J.yld i H x H'->g x σ H' λσ2 H2=>tb {D with nx:=N,ct:=N,bk:=D.nx} σ2 H2)
noncomputable def jy(fp:List VQ)(h:Heap):List (VQ×Obj):=fp.filterMap λb=>(h.get? b).map λo=>(b,o)
theorem dB{o:Obj}(j:b∈fp)(e:h.get? b=Z o):(b,o)∈jy fp h:=Tw.mpr ⟨b,j,by rw[e];rfl⟩
theorem uS{p:VQ×Obj}(j:p∈jy fp h):p.1∈fp/\h.get? p.1=Z p.2:=by
 obtain⟨b,z,e⟩:=Tw.mp j
 cases q:h.get? b with
 |none=>rw[q]at e;cases e
 |some o=>rw[q]at e;have e':(b,o)=p:=N1.inj e;subst e';exact⟨z,q⟩
theorem Inv.pinned(I:Inv X pins σ H s)(hf:∀b∈fp,cG X pins H b)(ho:∀b∈fp,∃o,s.heap.get? b=Z o/\∀v,o.data≠.cell v):Inv X (pins++jy fp s.heap) σ H s:=
 I.pins_of λp B=>(KQ.mp B).elim (λz=>I.pin p (Ld _ z)) λz=>by obtain⟨j,e⟩:=uS z;obtain⟨f0,f1,f2,_⟩:=hf p.1 j;obtain⟨o,e',d⟩:=ho p.1 j;rw[e]at e';cases e';exact⟨e,f0,f1,f2,d⟩
theorem Inv.unpinned{pl:List (VQ×Obj)}(I:Inv X (pins++pl) σ H s):Inv X pins σ H s:=I.pins_of λp j=>I.pin p (Ld _ (Lp _ j))
theorem CI{iter:Expr}{wi:TI}{g:TG}{tb:TS}(O:PassesOwn (model X.prog X.w) X.A X.env X.xe)(hc:X.calm=N3)(hi:PI X tg iter wi)(hg:PG X tg g)(j:PSs X body tb)(hs:∀x,Nx iter X.env x=pure x:=by intro _;rfl):PS X (.For tg iter body [] pos) (CH wi g tb):=by
 intro pins s σ H D I h;refine wpAny_For (thn (hi pins s σ H _ I h) λv s1 h1=>thn h1 λitv s2 h2=>?_) hs;obtain⟨it,fp,tn,J,H2,e,I2,T,Iq,f2,W,⟨m0,w0⟩,turn⟩:=h2;subst e;have stat:∀{H':Hp},(∀b∈fp,H' b=Y)->∀b∈fp,cG X pins H' b:=λhn b j=>⟨hn b j,(f2 b j).2⟩;refine codeAny_forLoop_any (λn s'=>∃i σ' H',Inv X pins σ' H' s'/\tn i s'.heap/\(∀b∈fp,H' b=Y)/\W i n σ' H') ?_ m0 ⟨0,σ,H2,I2,Iq,λb j=>(f2 b j).1,w0⟩;rintro n s3 ⟨i,σ3,H3,I3,U,F2,w3⟩
 rcases turn i n σ3 H3 w3 with⟨stop,qn⟩|⟨go,N,hN,step⟩
 ·refine O1 O (thn (T.done X rfl rfl rfl hc i pins s3 σ3 H3 X.xe I3 (stat F2) U stop) λr s4 G=>?_);obtain⟨hr,I4⟩:=G;subst hr;exact Sn ⟨σ3,H3,I4,qn⟩
 ·refine O1 O (thn (T.item X rfl rfl rfl hc i pins s3 σ3 H3 X.xe I3 (stat F2) U go) fun r s4 G=>?_);obtain⟨u,hr,h4⟩:=G;subst hr;refine O1 O (thn h4 fun _ s5 G=>?_);obtain⟨x,H5,I5,r5,y5,L,Ir⟩:=G;have Is:=I5.pinned (stat Ir) (T.obj _ _ L);refine O1 O (thn (hg _ s5 σ3 H5 x u _ Is r5 (step x H5 y5)) fun _ s6 G=>?_);obtain⟨σ6,H6,I6,q6⟩:=G;refine O1 O (thn (j _ s6 σ6 H6 _ I6 q6) fun f s7 F=>?_);have again:∀{σ7:St} {z:Hp},Inv X (pins++jy fp s5.heap) σ7 z s7->N σ7 z->∃m,m<n/\∃i σ' H',Inv X pins σ' H' s7/\tn i s7.heap/\(∀b∈fp,H' b=Y)/\W i m σ' H':=fun {σ7 z} B fv=>by
   obtain⟨m',hm,w7⟩:=hN σ7 z fv;refine⟨m',hm,i+1,σ7,z,B.unpinned,T.keep _ _ _ L λb j o e=>(B.pin (b,o) (Ld _ (Ld _ (dB j e)))).1,λb j=>?_,w7⟩;obtain⟨o,e,d⟩:=T.obj _ _ L b j;exact(B.pin (b,o) (Ld _ (Ld _ (dB j e)))).2.1
  cases f with
  |next=>obtain⟨σ7,z,B,fv⟩:=F;exact again B fv
  |cont=>obtain⟨σ7,z,B,fv⟩:=F;exact again B fv
  |brk=>obtain⟨σ7,z,B,F⟩:=F;exact⟨σ7,z,B.unpinned,F⟩
  |ret v=>obtain⟨x7,σ7,z,B,r7,F⟩:=F;exact⟨x7,σ7,z,B.unpinned,r7,F⟩
end
end
variable{f:i3->i3->Sem i3}
section
noncomputable abbrev R2:=V->V->Hp->VK->Prop
def OpR(X:Cx)(f:i3->i3->Sem i3)(r:R2):Prop:=
 ∀(pins:List (VQ×Obj)) (s:r0) (σ:St) (H:Hp) (x y:V) (v u:i3) (Q:VK),Inv X pins σ H s->RelV x v->RelV y u->r x y H Q->
  KU (model X.prog X.w) X.A (f v u) (EP X pins σ Q) X.xe s
def UnR(X:Cx)(f:i3->Sem i3)(r:V->Hp->VK->Prop):Prop:=
 ∀(pins:List (VQ×Obj)) (s:r0) (σ:St) (H:Hp) (x:V) (v:i3) (Q:VK),Inv X pins σ H s->RelV x v->r x H Q->
  KU (model X.prog X.w) X.A (f v) (EP X pins σ Q) X.xe s
def CallR(X:Cx)(f:i3)(r:List V->Hp->VK->Prop):Prop:=
 ∀(pins:List (VQ×Obj)) (s:r0) (σ:St) (H:Hp) (xs:List V) (us:List i3) (Q:VK),Inv X pins σ H s->Vals xs us->r xs H Q->
  KU (model X.prog X.w) X.A (call f us) (EP X pins σ Q) X.xe s
def FT(X:Cx)(r:V->Hp->(Bool->Hp->Prop)->Prop):Prop:=
 ∀(pins:List (VQ×Obj)) (s:r0) (σ:St) (H:Hp) (x:V) (v:i3) (Q:Bool->Hp->Prop),Inv X pins σ H s->RelV x v->r x H Q->
  KU (model X.prog X.w) X.A (truthy v) (TP X pins σ Q) X.xe s
noncomputable def tOp(r:R2)(ta tb:TE):TE:=λσ H Q=>ta σ H λx H1=>tb σ H1 λy H2=>r x y H2 Q
noncomputable def tUn(r:V->Hp->VK->Prop)(ta:TE):TE:=λσ H Q=>ta σ H λx H1=>r x H1 Q
noncomputable def rI(C:Int->Int->Prop)(g:Int->Int->V):R2:=λx y H Q=>∃i j,x=.int i/\y=.int j/\C i j/\Q (g i j) H
noncomputable def rI0(g:Int->Int->V):R2:=λx y H Q=>∃i j,x=.int i/\y=.int j/\Q (g i j) H
noncomputable def rU(g:Int->V):V->Hp->VK->Prop:=λx H Q=>∃i,x=.int i/\Q (g i) H
section
variable{X:Cx}{a b c:Expr}{ta tb tc:TE}{pos:Pos}
theorem xF(z:PE X a ta)(B:PE X b tb){R:V->V->Hp->Prop}(I:Inv X pins σ H s)(h:ta σ H λx H1=>tb σ H1 λy H2=>R x y H2){Q:i3->r0->Prop}(hf:∀v u s2 x y H2,Inv X pins σ H2 s2->RelV x v->RelV y u->R x y H2->KU (model X.prog X.w) X.A (f v u) Q X.xe s2):
 KU (model X.prog X.w) X.A (eval a X.env) (λv s₁=>KU (model X.prog X.w) X.A (eval b X.env) (λu s₂=>KU (model X.prog X.w) X.A (f v u) Q X.xe s₂) X.xe s₁) X.xe s:=by
 refine thn (z pins s σ H _ I h) λv s1 j=>?_;obtain⟨x,H1,F,G,J⟩:=j;refine thn (B pins s1 σ H1 _ F J) λu s2 j=>?_;obtain⟨y,H2,L,O,U⟩:=j;exact hf v u s2 x y H2 L G O U
theorem EB{r:R2}(ho:OpR X (MV op) r)(j:PE X a ta)(z:PE X b tb):PE X (.BinOp a op b pos) (tOp r ta tb):=by intro pins s σ H Q I h;exact wpAny_BinOp (xF j z I h λv u s2 x y H2 B rx ry q=>ho pins s2 σ H2 x y v u Q B rx ry q)
theorem EC{op:UnaryOp}{r:V->Hp->VK->Prop}(ho:UnR X (unaryOp op) r)(j:PE X a ta):PE X (.UnaryOp op a pos) (tUn r ta):=by intro pins s σ H Q I h;exact UnaryOp_ (thn (j pins s σ H _ I h) λv s1 z=>(by obtain⟨x,H1,B,F,G⟩:=z;exact ho pins s1 σ H1 x v Q B F G))
theorem opI{C:Int->Int->Prop}{g:Int->Int->Int}(rule:∀(i j:Int) (t u:Tok) (s:r0) (Q:i3->r0->Prop) (E:i3->r0->Prop),C i j->Q (.int (g i j) s.toks) {s with toks:=s.toks+1}->KU (model X.prog X.w) X.A (f (.int i t) (.int j u)) Q E s):
 OpR X f (rI C λi j=>.int (g i j)):=by
 intro pins s σ H x y v u Q I rx ry h;obtain⟨i,j,rfl,rfl,z,q⟩:=h;obtain⟨t,rfl⟩:=rx;obtain⟨t',rfl⟩:=ry;exact rule i j t t' s _ _ z ⟨.int (g i j),H,I.tok _,⟨_,rfl⟩,q⟩
theorem t7{g:Int->Int->Int}(rule:∀(i j:Int) (t u:Tok) (s:r0) (Q:i3->r0->Prop) (E:i3->r0->Prop),Q (.int (g i j) s.toks) {s with toks:=s.toks+1}->KU (model X.prog X.w) X.A (f (.int i t) (.int j u)) Q E s):
 OpR X f (rI0 λi j=>.int (g i j)):=by
 intro pins s σ H x y v u Q I rx ry h;obtain⟨i,j,rfl,rfl,q⟩:=h;obtain⟨t,rfl⟩:=rx;obtain⟨t',rfl⟩:=ry;exact rule i j t t' s _ _ ⟨.int (g i j),H,I.tok _,⟨_,rfl⟩,q⟩
theorem xG{g:Int->Int->Bool}(rule:∀(i j:Int) (t u:Tok) (s:r0) (Q:i3->r0->Prop) (E:i3->r0->Prop),Q (.bool (g i j)) s->KU (model X.prog X.w) X.A (f (.int i t) (.int j u)) Q E s):
 OpR X f (rI0 λi j=>.bl (g i j)):=by
 intro pins s σ H x y v u Q I rx ry h;obtain⟨i,j,rfl,rfl,q⟩:=h;obtain⟨t,rfl⟩:=rx;obtain⟨t',rfl⟩:=ry;exact rule i j t t' s _ _ ⟨.bl (g i j),H,I,rfl,q⟩
def FU(i j:Int):Prop:=0<=j/\j<=1000000/\i.natAbs<2^64
theorem op_add:OpR X (MV .Add) (rI0 λi j=>.int (i+j)):=t7 λ_ _ _ _ _ _ _ q=>add_int q
theorem CJ:OpR X (MV .Sub) (rI0 λi j=>.int (i-j)):=t7 λ_ _ _ _ _ _ _ q=>sub_int q
theorem CK:OpR X (MV .Mod) (rI (λ_ j=>0<j) λi j=>.int (i%j)):=opI λi j _ _ _ _ _ z q=>by have h1:(0:Int)<j:=z;exact mod_int' ∅ (by rw[Int.fmod_eq_emod_of_nonneg i ∅];exact q)
theorem CL:OpR X (MV .Pow) (rI FU λi j=>.int (i^j.toNat)):=opI λ_ _ _ _ _ _ _ z q=>pow_int_small z.1 z.2.1 z.2.2 q
theorem Az:OpR X (Pb .Add) (rI0 λi j=>.int (i+j)):=t7 λ_ _ _ _ _ _ _ q=>iadd_int q
theorem AA:OpR X (Pb .Sub) (rI0 λi j=>.int (i-j)):=t7 λ_ _ _ _ _ _ _ q=>isub_int q
theorem unI{f:i3->Sem i3}{g:Int->Int}(rule:∀(i:Int) (t:Tok) (s:r0) (Q:i3->r0->Prop) (E:i3->r0->Prop),Q (.int (g i) s.toks) {s with toks:=s.toks+1}->KU (model X.prog X.w) X.A (f (.int i t)) Q E s):
 UnR X f (rU λi=>.int (g i)):=by
 intro pins s σ H x v Q I rx h;obtain⟨i,rfl,q⟩:=h;obtain⟨t,rfl⟩:=rx;exact rule i t s _ _ ⟨.int (g i),H,I.tok _,⟨_,rfl⟩,q⟩
theorem CM:UnR X (unaryOp .USub) (rU λi=>.int (-i)):=unI λ_ _ _ _ _ q=>neg_int q
end
section
variable{X:Cx}{a b c:Expr}{ta tb tc:TE}{pos:Pos}
theorem ED:OpR X (Ny .Lt) (rI0 λi j=>.bl (decide (i<j))):=xG λ_ _ _ _ _ _ _ q=>lt_int q
theorem EE:OpR X (Ny .Gt) (rI0 λi j=>.bl (decide (j<i))):=xG λ_ _ _ _ _ _ _ q=>gt_int q
theorem EF:OpR X (Ny .GtE) (rI0 λi j=>.bl (decide (j<=i))):=xG λ_ _ _ _ _ _ _ q=>ge_int q
theorem OpR.or{r r':R2}(h:OpR X f r)(h':OpR X f r'):OpR X f (λx y H Q=>r x y H Q∨r' x y H Q):=by
 intro pins s σ H x y v u Q I rx ry q
 rcases q with q|q
 ·exact h pins s σ H x y v u Q I rx ry q
 ·exact h' pins s σ H x y v u Q I rx ry q
theorem AB{op:CmpOp}{r:R2}(ho:OpR X (Ny op) r)(j:PE X a ta)(z:PE X b tb)(hm:Pn op b=VP):PE X (.Compare a [op] [b] pos) (tOp r ta tb):=by intro pins s σ H Q I h;exact wpAny_Compare1 (xF j z I h λv u s2 x y H2 B rx ry q=>ho pins s2 σ H2 x y v u Q B rx ry q) hm
noncomputable def zQ(t:TE):TT:=λσ H Q=>t σ H λx H'=>∃k,x=.bl k/\Q k H'
theorem AC{op:CmpOp}{r:R2}(ho:OpR X (Ny op) r)(j:PE X a ta)(B:PE X b tb)(hm:Pn op b=VP):PT X (.Compare a [op] [b] pos) (zQ (tOp r ta tb)):=by
 intro pins s σ H Q I h;refine wpAny_isTrue_Compare1 (thn (j pins s σ H _ I h) λv s1 ⟨x,H1,F,G,J⟩=>thn (B pins s1 σ H1 _ F J) λu s2 ⟨y,H2,L,O,U⟩=>thn (ho pins s2 σ H2 x y v u _ L G O U) λc s3 ⟨z,F2,fv,r3,k,e,q3⟩=>?_) hm
 subst e
 cases r3
 exact O9 ⟨F2,fv,q3⟩
def xH(K:Frag)(x:V)(H:Hp)(k:Bool):Prop:=
 match x with
 |.non=>k=VP
 |.bl b=>k=b
 |.int i=>k=(i != 0)
 |.str y=>y.length<=KJ/\k=((y.length:Int) != 0)
 |.byt y=>y.size<=KJ/\k=((y.size:Int) != 0)
 |.ref p=>(∃xs,SqL K H p xs/\k = !xs.isEmpty)∨(∃xs,SqT K H p xs/\k = !xs.isEmpty)∨∃kvs,H p=Z (.dK kvs)/\k = !kvs.isEmpty
 |_=>False
theorem t8{κ:Type}{kvs:List (κ×V)}{vs:List (κ×i3)}(r:KV kvs vs):(!vs.isEmpty) = !kvs.isEmpty:=by cases r<;>rfl
theorem jz{xs:List V}{its:List i3}(r:Vals xs its):(!its.toArray.isEmpty) = !xs.isEmpty:=by cases r<;>simp
theorem fD:(KJ:Nat)<2^63:=by rw[D0];decide
theorem CN:FT X (λx H Q=>∃k,xH X.K x H k/\Q k H):=by
 intro pins s σ H x v Q I rx h;obtain⟨k,e,q⟩:=h;have F:=fD;have hs:KJ=16777216:=D0
 cases x with
 |non=>
  cases rx
  have e':k=VP:=e;subst e';exact truthy_none ⟨H,I,q⟩
 |bl b=>
  cases rx
  have e':k=b:=e;subst e';exact O9 ⟨H,I,q⟩
 |int i=>obtain⟨t,rfl⟩:=rx;have e':k=(i != 0):=e;subst e';exact PySem.P.truthy_int ⟨H,I,q⟩
 |str y=>obtain⟨t,rfl⟩:=rx;obtain⟨z,e'⟩:y.length<=KJ/\k=((y.length:Int) != 0):=e;subst e';exact PySem.P.truthy_str ∅ ⟨H,I.tok _,q⟩
 |byt y=>obtain⟨t,rfl⟩:=rx;obtain⟨z,e'⟩:y.size<=KJ/\k=((y.size:Int) != 0):=e;subst e';exact PySem.W.truthy_bytes ∅ ⟨H,I.tok _,q⟩
 |ref p=>
  cases rx
  have e':(∃xs,SqL X.K H p xs/\k = !xs.isEmpty)∨(∃xs,SqT X.K H p xs/\k = !xs.isEmpty)∨∃kvs,H p=Z (.dK kvs)/\k = !kvs.isEmpty:=e
  rcases e' with⟨xs,hx,e'⟩|⟨xs,hx,e'⟩|⟨kvs,hx,e'⟩
  ·subst e';obtain⟨its,r,pl,j⟩:=I.list hx;have hlen:=r.length;exact wpAny_truthy_list pl.isList (by simp only[KR];lia) ⟨H,I.tok _,by rw[jz r];exact q⟩
  ·subst e';obtain⟨its,r,pl,j⟩:=I.tuple hx;have hlen:=r.length;exact truthy_tuple pl (by simp only[KR];lia) ⟨H,I.tok _,by rw[jz r];exact q⟩
  ·subst e';obtain⟨j,B,vs,r,m⟩:kvs.length<=KJ/\(p==MP)=VP/\∃vs,KV kvs vs/\s.heap.DictOf (aV X.prog X.w) p vs:=I.hok p _ hx;have hlen:kvs.length=vs.length:=Pk r;exact wpAny_truthy_dict B m ∅ ⟨H,I.tok _,by rw[t8 r];exact q⟩
 |_=>exact(show False from e).elim
theorem xI(j:PE X a ta)(he:∀whole,isTrue a X.env whole=(do let v <-whole;Ri a.pos;holding [v] (truthy v))):
 PT X a (λσ H Q=>ta σ H λx H'=>∃k,xH X.K x H' k/\Q k H'):=by
 intro pins s σ H Q I h;exact isTrue_plain (thn (j pins s σ H _ I h) λv s1 z=>(by obtain⟨x,H1,B,F,G⟩:=z;exact CN pins s1 σ H1 x v Q B F G)) (he _)
theorem t9:OpR X (MV .Add) (λx y H Q=>∃i j,x=.str i/\y=.str j/\i.length+j.length<=KJ/\Q (.str (i++j)) H):=by intro pins s σ H x y v u Q I rx ry h;obtain⟨i,j,rfl,rfl,z,q⟩:=h;obtain⟨t,rfl⟩:=rx;obtain⟨t',rfl⟩:=ry;exact add_str (λt' tk=>⟨.str (i++j),H,I.tok _,⟨_,rfl⟩,q⟩) z
theorem dC{x:V}(r:Vals [x] us):∃u,us=[u]/\RelV x u:=by
 cases r with
 |cons j z=>cases z;exact⟨_,rfl,j⟩
theorem nM{x y:V}(r:Vals [x,y] us):∃u w',us=[u,w']/\RelV x u/\RelV y w':=by
 cases r with
 |cons j z=>
  cases z with
  |cons B F=>cases F;exact⟨_,_,rfl,j,B⟩
theorem xJ:CallR X (.builtin "abs") (λxs H Q=>∃i,xs=[.int i]/\Q (.int (if i<0 then -i else i)) H):=by intro pins s σ H xs us Q I r h;obtain⟨i,rfl,q⟩:=h;obtain⟨u,rfl,t,rfl⟩:=dC r;exact call_abs_int λu tk=>⟨.int (if i<0 then -i else i),H,I.tok _,⟨_,rfl⟩,q⟩
theorem uT(B:X.calm=N3):CallR X (.builtin "max") (λxs H Q=>∃i j,xs=[.int i,.int j]/\Q (.int (if j > i then j else i)) H):=by
 intro pins s σ H xs us Q I r h;obtain⟨i,j,rfl,q⟩:=h;obtain⟨u,w',rfl,⟨t,rfl⟩,⟨t',rfl⟩⟩:=nM r;refine max_two_ints (I.ok.hd B) λh' tk k=>⟨_,H,I.kept k,?_,q⟩
 by_cases z:j > i
 ·rw[if_pos z,if_pos z];exact⟨_,rfl⟩
 ·rw[if_neg z,if_neg z];exact⟨_,rfl⟩
theorem uU(B:X.calm=N3):CallR X (.builtin "min") (λxs H Q=>∃i j,xs=[.int i,.int j]/\Q (.int (if j<i then j else i)) H):=by
 intro pins s σ H xs us Q I r h;obtain⟨i,j,rfl,q⟩:=h;obtain⟨u,w',rfl,⟨t,rfl⟩,⟨t',rfl⟩⟩:=nM r;refine min_two_ints (I.ok.hd B) λh' tk k=>⟨_,H,I.kept k,?_,q⟩
 by_cases z:j<i
 ·rw[if_pos z,if_pos z];exact⟨_,rfl⟩
 ·rw[if_neg z,if_neg z];exact⟨_,rfl⟩
theorem uV:CallR X (.type "int") (λxs H Q=>(∃i,xs=[.int i]/\Q (.int i) H)∨∃k,xs=[.bl k]/\Q (.int (if k then 1 else 0)) H):=by
 intro pins s σ H xs us Q I r h
 rcases h with⟨i,rfl,q⟩|⟨k,rfl,q⟩
 ·obtain⟨u,rfl,t,rfl⟩:=dC r;exact call_int_int ⟨.int i,H,I,⟨_,rfl⟩,q⟩
 ·obtain⟨u,rfl,j⟩:=dC r
  cases j
  exact call_int_bool ⟨.int (if k then 1 else 0),H,I.tok _,⟨_,rfl⟩,q⟩
def FV(K:Frag)(x:V)(H:Hp)(n:Nat):Prop:=
 match x with
 |.str y=>y.length<=KJ/\n=y.length
 |.byt y=>y.size<=KJ/\n=y.size
 |.ref p=>(∃xs,SqL K H p xs/\n=xs.length)∨∃xs,SqT K H p xs/\n=xs.length
 |_=>False
theorem xK:CallR X (.builtin "len") (λxs H Q=>∃x n,xs=[x]/\FV X.K x H n/\Q (.int n) H):=by
 intro pins s σ H xs us Q I r h;obtain⟨x,n,rfl,e,q⟩:=h;obtain⟨u,rfl,rx⟩:=dC r;have B:=fD;have hs:KJ=16777216:=D0
 cases x with
 |str y=>obtain⟨t,rfl⟩:=rx;obtain⟨j,e'⟩:y.length<=KJ/\n=y.length:=e;subst e';exact len_str ∅ ⟨.int _,H,I.tok _,⟨_,rfl⟩,q⟩
 |byt y=>obtain⟨t,rfl⟩:=rx;obtain⟨j,e'⟩:y.size<=KJ/\n=y.size:=e;subst e';exact PySem.W.len_bytes ∅ ⟨.int _,H,I.tok _,⟨_,rfl⟩,q⟩
 |ref p=>
  cases rx
  have e':(∃xs,SqL X.K H p xs/\n=xs.length)∨∃xs,SqT X.K H p xs/\n=xs.length:=e
  rcases e' with⟨xs,hx,e'⟩|⟨xs,hx,e'⟩
  ·subst e';obtain⟨its,r',pl,z⟩:=I.list hx;have hlen:=r'.length;exact Calls.call_len_list pl.isList (by simp only[KR];lia) ⟨.int xs.length,H,I.tok _,⟨_,by simp only[KR];rw[hlen]⟩,q⟩
  ·subst e';obtain⟨its,r',pl,z⟩:=I.tuple hx;have hlen:=r'.length;exact len_tuple pl (by simp only[KR];lia) ⟨.int xs.length,H,I.tok _,⟨_,by simp only[KR];rw[hlen]⟩,q⟩
 |_=>exact(show False from e).elim
end
end
section
structure ObjM(h:Heap)(x dx C:VQ)(mA:Str->Option i3):Prop where
 obj:h.get? x=Z (Sm C dx)
 ns:h.Ns1 dx mA
 ne:dx≠x
theorem uW{dx:VQ}{mA:Str->Option i3}(n:h.Ns1 dx mA):∃od,h.get? dx=Z od/\∀name,SI name od=Z (mA name):=by
 obtain⟨o,es,ep,ho,hd,B,_,hm⟩:=n;refine⟨o,ho,λname=>?_⟩;have e:=hm name;unfold nsFind findBy at e;rw[<-Array.find?_toList]at e;unfold SI;rw[hd];dsimp only
 split
 ·rename_i y q;rw[q]at e;exact congrArg Z e
 ·rename_i q;rw[q]at e;have a:es.toList.any (·.refKey)=VP:=by
   rw[List.any_eq_false];intro y F;obtain⟨z,t,j⟩:=B y (Array.mem_toList_iff.mp F);simp[DictEntry.refKey,j]
  have a':¬es.toList.any (·.refKey)=N3:=by rw[a];exact KW
  rw[if_neg a'];exact congrArg Z e
theorem ObjM.look{x dx C:VQ}{mA:Str->Option i3}(I:ObjM h x dx C mA):∃od,PySem.W.InstAt h x (Sm C dx) C (Z od)/\∀name,SI name od=Z (mA name):=
 let⟨od,ho,j⟩:=uW I.ns
 ⟨od,⟨I.obj,rfl,rfl,ho⟩,j⟩
theorem VH{o:Option i3}(r:RelO (Z v) o):∃u,o=Z u/\RelV v u:=by
 cases o with
 |none=>exact(show False from r).elim
 |some u=>exact⟨u,rfl,r⟩
section
variable{P:Lb}{w:Ly}{H H':Hp}{h h':Heap}{a C dx:VQ}{fs fs':List (Str×V)}
theorem AD(hok:HOk P w H h)(e:H a=Z (.ins C dx fs)):∃mA,ObjM h a dx C mA/\(∀f,RelO (fs.lookup f) (mA f))/\PySem.Within mA (fs.map (·.1))/\fs.length<=1000/\H dx=Z (.own a):=by obtain⟨d,z,ne,ob,mA,n,r,q⟩:=(show ObjOk P w H h a (.ins C dx fs)from hok a _ e);exact⟨mA,⟨ob,n,ne⟩,r,q,z,d⟩
end
structure Cls(K:Frag)(C:VQ):Prop where
 pg:Uo K C Str.empty=N3
 hd:PySem.W.hasDictIn K C=N3
 po:PySem.W.plainOver K C=N3
 sa:PySem.W.findIn K (.ref C) "__setattr__"=Z (Z (.builtin "object.__setattr__"))
theorem Cls.get{C:VQ}(c:Cls K C)(f:Str):Uo K C f=N3:=c.pg
section
variable{X:Cx}{pins:List (VQ×Obj)}{σ:St}{H:Hp}{s:r0}{A:LD}{E:i3->r0->Prop}{Q:i3->r0->Prop}{c:i3}{b:Bool}
inductive cH(K:Frag)(H:Hp):V->i3->Prop where
 |non:cH K H .non (.type "NoneType")
 |bl (x:Bool):cH K H (.bl x) (.type "bool")
 |int (i:Int):cH K H (.int i) (.type "int")
 |str (x:Str):cH K H (.str x) (.type "str")
 |flt (x:UInt64):cH K H (.flt x) (.type "float")
 |lst {a:VQ} {xs:List V} (e:H a=Z (.lst xs)):cH K H (.ref a) (.type "list")
 |frz {a:VQ} {o:Obj} {xs:List V} (e:H a=Z (.frz o (.lst xs))):cH K H (.ref a) (.type "list")
 |tup {a:VQ} {xs:List V} (e:SqT K H a xs):cH K H (.ref a) (.type "tuple")
 |dK {a:VQ} {kvs:List (Key×V)} (e:H a=Z (.dK kvs)):cH K H (.ref a) (.type "dict")
 |dT {a:VQ} {kvs:List (List Key×V)} (e:H a=Z (.dT kvs)):cH K H (.ref a) (.type "dict")
 | ins {a C dx:VQ} {fs:List (Str×V)} (e:H a=Z (.ins C dx fs)) (cl:Cls K C) (ha:PySem.W.findIn K (.ref C) "__class__"=Z (Z (.builtin "object.__class__")))
    (hn:PySem.W.specialIn K (.builtin "object.__class__") "__get__"=Z (Z (.builtin "getset_descriptor.__get__"))) (htk:PySem.W.takesIn K (.builtin "object.__class__")=Z N3)
    (hm:PySem.W.mroIn K C (.type "object")=Z N3):cH K H (.ref a) (.ref C)
theorem uX{x:V}{t:i3}(I:Inv X pins σ H s)(rx:RelV x u)(ty:cH X.K H x t)(e:PySem.W.kitOne X.K t c=Z b)(h:∀tk,Q (.bool b) {s with toks:=tk}):
 KU (model X.prog X.w) A (call (.builtin "isinstance") [u,c]) Q E s:=by
 cases ty with
 |non=>cases(show u=MZ from rx);exact MK PySem.W.kitx_none I.kIn P2 e (λz=>nomatch z) h
 |bl y=>cases(show u=Tv y from rx);exact MK PySem.W.kitx_bool I.kIn P2 e (λz=>nomatch z) h
 |int i=>obtain⟨t,q⟩:=(show ∃t,u=Ul i t from rx);cases q;exact MK PySem.W.kitx_int I.kIn P2 e (λz=>nomatch z) h
 |str y=>obtain⟨t,q⟩:=(show ∃t,u=Um y t from rx);cases q;exact MK PySem.W.kitx_str I.kIn P2 e (λz=>nomatch z) h
 |flt y=>obtain⟨t,q⟩:=(show ∃t,u=Value.float y t from rx);cases q;exact MK PySem.W.kitx_float I.kIn P2 e (λz=>nomatch z) h
 |@lst a xs ea=>
  cases(show u=Lo a from rx)
  obtain⟨_,_,n,_,h1⟩:=(show ObjOk X.prog X.w H s.heap a (.lst xs)from I.hok a _ ea);exact MK TX I.kIn ⟨_,h1,rfl⟩ e (λz=>nomatch z) h
 |@frz a ob xs ea=>
  cases(show u=Lo a from rx)
  obtain⟨_,_,_,n,_,h1⟩:=(show ObjOk X.prog X.w H s.heap a (.frz ob (.lst xs))from I.hok a _ ea);exact MK TX I.kIn ⟨_,h1,rfl⟩ e (λz=>nomatch z) h
 |@tup a xs ea=>
  cases(show u=Lo a from rx)
  obtain⟨_,_,p,_⟩:=I.tuple ea;obtain⟨o,h1,h2,_⟩:=p;exact MK PySem.W.kitx_tuple I.kIn ⟨o,h1,h2⟩ e (λz=>nomatch z) h
 |@dK a kvs ea=>
  cases(show u=Lo a from rx)
  obtain⟨_,_,vs,_,p⟩:=(show ObjOk X.prog X.w H s.heap a (.dK kvs)from I.hok a _ ea);obtain⟨o,es,ep,h1,h2,_⟩:=p;exact MK TY I.kIn ⟨o,h1,h2.1⟩ e (λz=>nomatch z) h
 |@dT a kvs ea=>
  cases(show u=Lo a from rx)
  obtain⟨_,_,xs,_,o,es,ep,h1,h2,_⟩:=(show ObjOk X.prog X.w H s.heap a (.dT kvs)from I.hok a _ ea);exact MK TY I.kIn ⟨o,h1,h2.1⟩ e (λz=>nomatch z) h
 |@ins a C dx fs ea cl ha hn htk hm=>
  cases(show u=Lo a from rx)
  obtain⟨mA,O,_⟩:=AD I.hok ea;obtain⟨od,J,_⟩:=O.look;exact MK (PySem.W.kitx_own (cl.get _) cl.hd ha hn htk hm) I.kIn J e (λz=>nomatch z) h
end
end
variable{mg:Str->Option i3}{base:Heap}{ps:List Str}
section
structure Room(k:Nat)(A:LD):Prop where
 hd:A.handled=Y
 dp:A.depth+3*k+5<recursionLimit
 un:A.units+16*k+200<Oa
theorem Room.deeper{k:Nat}(r:Room (k+1) A)(env:Env):Room k (A.deeper env):=⟨r.hd,by have:=r.dp;show A.depth+1+3*k+5<_;lia,by have:=r.un;show A.units+3+16*k+200<_;lia⟩
theorem Room.depth{k:Nat}(r:Room k A):A.depth<recursionLimit:=by have:=r.dp;lia
theorem Room.units{k:Nat}(r:Room k A):A.units+64<Oa:=by have:=r.un;lia
noncomputable def xL:TA:=λ_ H Q=>Q [] H
noncomputable def tf(ta:TE)(tr:TA):TA:=λσ H Q=>ta σ H λx H1=>tr σ H1 λxs H2=>Q (x::xs) H2
section
variable{X:Cx}{e:Expr}{es:List Expr}{te:TE}{t:TA}{pos:Pos}
theorem jA:PA X [] xL:=λ_ _ _ _ H Q I h=>Rk ⟨[],H,I,.nil,h⟩
theorem dJ(z:PE X e te)(B:PA X es t)(hs:Lg (e::es) X.env=(VP,eval e X.env)::Lg es X.env:=by rfl):PA X (e::es) (tf te t):=by intro pos pins s σ H Q I h;rw[hs];show KU _ _ (spliced ((VP,eval e X.env)::OG pos (Lg es X.env))) _ _ s;refine Pz (thn (z pins s σ H _ I h) λu s1 j=>?_);obtain⟨x,H1,F,G,J⟩:=j;exact thn (B pos pins s1 σ H1 _ F J) λus s2 j=>(by obtain⟨xs,H2,L,O,U⟩:=j;exact⟨x::xs,H2,L,.cons G O,U⟩)
noncomputable def FW(t:TA):TE:=λσ H Q=>t σ H λxs H1=>xs.length<=KJ/\∀p,H1 p=Y->Q (.ref p) (upd H1 p (.tup xs))
noncomputable def FX(t:TA):TE:=λσ H Q=>t σ H λxs H1=>xs.length<=KJ/\∀p,H1 p=Y->Q (.ref p) (upd H1 p (.lst xs))
theorem CO{B}(h:PA X es t):PE X (.Tuple es B pos) (FW t):=by
 intro pins s σ H Q I hq;refine wpAny_Tuple_spliced (thn (h pos pins s σ H _ I hq) λus s1 ⟨xs,H1,j,r,z,q⟩=>⟨by rw[<-r.length];exact z,?_⟩)
 have hf:H1 s1.heap.objs.size=Y:=j.hok.fresh (L3 _);refine⟨.ref s1.heap.objs.size,upd H1 s1.heap.objs.size (.tup xs),j.laid (t':=s1.toks) (λb u e=>p0 _ e) (L3 _) ?_,rfl,q _ hf⟩;exact⟨z,us,r,⟨_,KG _ rfl,rfl,_,rfl⟩⟩
theorem CP(h:PA X es t):PE X (.List es pos) (FX t):=by
 intro pins s σ H Q I hq;refine wpAny_List_spliced (thn (h pos pins s σ H _ I hq) λus s1 ⟨xs,H1,j,r,z,q⟩=>⟨by rw[<-r.length];exact z,?_⟩)
 have hf:H1 s1.heap.objs.size=Y:=j.hok.fresh (L3 _);refine⟨.ref s1.heap.objs.size,upd H1 s1.heap.objs.size (.lst xs),j.laid (t':=s1.toks) (λb u e=>p0 _ e) (L3 _) ?_,rfl,q _ hf⟩;exact⟨z,us,0,r,KG _ rfl⟩
end
noncomputable abbrev Sp:=List V->Hp->VK->XK->Prop
noncomputable abbrev CXT:=List Env->Hp->r0->XK->i3->r0->Prop
structure gK(P:Lb)(w:Ly)(K:Frag)(mg:Str->Option i3)(base:Heap)(A:LD)(outer:List Env)(s:r0)(H:Hp):Prop where
 frames:A.frames=Z outer
 mod:Mod K mg base
 bs:∀b o,base.get? b=Z o->s.heap.get? b=Z o/\H b=Y
 bsz:base.objs.size<=s.heap.objs.size
 funs:s.heap.FunFrames base outer
 frf:∀b∈frs outer,H b=Y
 hok:HOk P w H s.heap
 bare:Rh s.gens
def CE(outer:List Env)(P:Lb)(w:Ly)(H:Hp)(s:r0)(Q:VK)(u:i3)(s':r0):Prop:=∃v H',s'.os=s.os/\Rh s'.gens/\Un (frs outer) [] H H' s.heap s'.heap/\HOk P w H' s'.heap/\RelV v u/\Q v H'
def CR(CX:CXT)(outer:List Env)(P:Lb)(w:Ly)(H:Hp)(s:r0)(Q:VK)(E:XK)(r:V4)(s':r0):Prop:=
 match r with
 |.ok (.ret u)=>CE outer P w H s Q u s'
 |.ok _=>False
 |.error e=>CX outer H s E e s'
structure FnOk(P:Lb)(w:Ly)(K:Frag)(mg:Str->Option i3)(base:Heap)(CX:CXT)(k:Nat)(f:VQ)(fd:N4)(ps:List Str)(sp:Sp):Prop where
 len:∀vs H Q E,sp vs H Q E->vs.length=ps.length
 run:∀(A:LD) (outer:List Env) (s:r0) (H:Hp) (args:Args) (us:List i3) (vs:List V) (Q:VK) (E:XK),Room k A->gK P w K mg base A outer s H->T7 s fd args (ps.zip us)->Vals vs us->sp vs H Q E->
  OH (model P w) A (.call (.ref f) args) (CR CX outer P w H s Q E) s
theorem FnOk.imp{CX:CXT}{k:Nat}{f:VQ}{fd:N4}{sp sp':Sp}(F:FnOk P w K mg base CX k f fd ps sp)(h:∀vs H Q E,sp' vs H Q E->sp vs H Q E):FnOk P w K mg base CX k f fd ps sp':=⟨λvs H Q E q=>F.len vs H Q E (h _ _ _ _ q),λA outer s H args us vs Q E j he z B hs=>F.run A outer s H args us vs Q E j he z B (h _ _ _ _ hs)⟩
section
variable{X:Cx}{pins:List (VQ×Obj)}{σ:St}{H:Hp}{s s':r0}
theorem Inv.env0(I:Inv X pins σ H s):gK X.prog X.w X.K X.mg X.base X.A X.stack s H:=⟨I.ok.frames,I.ok.mod,I.bs,Mu I.ok.bsz I.sz,I.stack,I.stkFree,I.hok,I.bare⟩
theorem Inv.after{Q:VK}(I:Inv X pins σ H s)(h:CE X.stack X.prog X.w H s Q u s'):EP X pins σ Q u s':=by obtain⟨v,H',os,bare,un,hok,r,q⟩:=h;obtain⟨j,g,d,t,os'⟩:=s';obtain rfl:os'=s.os:=os;exact⟨v,H',I.call (h':=j) (g':=g) (d':=d) (t':=t) (ch:=[]) un hok bare (λb z=>absurd z (by simp)),r,q⟩
end
noncomputable def zR(sp:Sp)(dvs:List V)(E:XK)(t:TA):TE:=λσ H Q=>t σ H λvs H1=>sp (vs++dvs) H1 Q E
def Binds(K:Frag)(fd:N4)(ps:List Str)(ds:List i3):Prop:=∀(s:r0) (us:List i3),K.In s.heap->(us++ds).length=ps.length->T7 s fd ⟨us,[]⟩ (ps.zip (us++ds))
theorem Binds.all{fd:N4}(h:∀us:List i3,us.length=ps.length->SJ fd ⟨us,[]⟩=pure (ps.zip us)):Binds K fd ps []:=λs us _ j=>by rw[Mv]at j⊢;exact .of_eq (h us j)
def jB(CX:CXT)(X:Cx)(E:XK):Prop:=∀(pins:List (VQ×Obj)) (σ:St) (H:Hp) (s:r0) (e:i3) (s':r0),Inv X pins σ H s->CX X.stack H s E e s'->X.xe e s'
section
variable{X:Cx}{CX:CXT}{k:Nat}{f C:VQ}{fd:N4}{ps:List Str}{sp:Sp}{dvs:List V}{ds:List i3}{E:XK}{x m:Str}{p pos apos:Pos}{e o:Expr}{es:List Expr}{ta:TE}{t:TA}
theorem uY{Q:VK}{vs:List V}(F:FnOk X.prog X.w X.K X.mg X.base CX k f fd ps sp)(B:Room k X.A)(G:Binds X.K fd ps ds)(hd:Vals dvs ds)(hx:jB CX X E)(I:Inv X pins σ H s)(r:Vals vs us)(h:sp (vs++dvs) H Q E):KU (model X.prog X.w) X.A (call (.ref f) us) (EP X pins σ Q) X.xe s:=by
 have z:Vals (vs++dvs) (us++ds):=r.append hd;have J:(us++ds).length=ps.length:=by rw[<-z.length];exact F.len _ _ _ _ h
 refine Tx (Ob (F.run X.A X.stack s H ⟨us,[]⟩ (us++ds) (vs++dvs) Q E B I.env0 (G s us I.kIn J) z h) λr s' j=>?_)
 cases r with
 |error e=>exact hx pins σ H s e s' I j
 |ok fl=>
  cases fl with
  |ret u=>exact I.after j
  |next=>exact False.elim j
  |brk=>exact False.elim j
  |cont=>exact False.elim j
theorem rE(F:FnOk X.prog X.w X.K X.mg X.base CX k f fd ps sp)(G:Room k X.A)(J:Gl X x)(hm:X.mg x=Z (.ref f))(L:NT X.K (.ref f)=N3)(O:Binds X.K fd ps ds)(hd:Vals dvs ds)(hx:jB CX X E)(U:PA X (e::es) t)(j:(x==("__debug__":Str))=VP:=by decide)(he:Lg (e::es) X.env=(VP,eval e X.env)::Lg es X.env:=by rfl)(z:(OG pos (Lg es X.env)).any (·.1)=VP:=by rfl):
 PE X (.Call (.Name x p) (e::es) [] pos) (zR sp dvs E t):=by
 intro pins s σ H Q I h;refine Np (io I J hm ?_ j);refine Tz (h₀:=X.base) I.ok.mod.kin L (thn (U pos pins s σ H _ I h) λus s1 ⟨vs,H1,B,r,q⟩=>⟨B.kIn,?_⟩) he z;exact uY F G O hd hx B r q
theorem xM(F:FnOk X.prog X.w X.K X.mg X.base CX k f fd ps sp)(z:Room k X.A)(B:Gl X x)(hm:X.mg x=Z (.ref f))(G:NT X.K (.ref f)=N3)(J:Binds X.K fd ps ds)(hd:Vals dvs ds)(hx:jB CX X E)(j:(x==("__debug__":Str))=VP:=by decide):PE X (.Call (.Name x p) [] [] pos) (zR sp dvs E xL):=by intro pins s σ H Q I h;refine Np (io I B hm ?_ j);exact PySem.W.callWith_K0 I.kIn G (uY (us:=[]) F z J hd hx I .nil h)
end
structure cD(N P:List Str)(sc:Scope):Prop where
 kind:sc.kind=.function
 co:sc.isCoroutine=VP
 gen:sc.isGenerator=VP
 nd:N.Nodup
 pre:N.take P.length=P
 par:∀x∈P,sc.names.lookup x=Z .local∨sc.names.lookup x=Z .cell
 nofree:∀y∈sc.names,y.2≠.free
theorem lZ{MQ:Str->Option NU}{x:Str}:∀{binds:List (Str×i3)} {m:Str->Option i3},(∀v,(x,v)∉binds)->V5 MQ binds m x=m x
 |[],_,_=>rfl
 |(n,v)::r,m,h=>by
  unfold V5;rw[lZ λw hw=>h w (L9 _ hw)]
  split
  ·have:x≠n:=by rintro rfl;exact h v Ln
   simp[this]
  ·rfl
theorem m8{MQ:Str->Option NU}{x:Str}:∀{binds:List (Str×i3)} {m:Str->Option i3},(∀v,(x,v)∉binds)->V6 MQ binds m x=m x
 |[],_,_=>rfl
 |(n,v)::r,m,h=>by
  unfold V6;rw[m8 λw hw=>h w (L9 _ hw)]
  split
  ·rfl
  ·have:x≠n:=by rintro rfl;exact h v Ln
   simp[this]
theorem m9{MQ:Str->Option NU}{x:Str}{v:i3}:∀{P:List Str} {vs:List i3} {i:Nat} {m:Str->Option i3},P.Nodup->P[i]?=Z x->vs[i]?=Z v->MQ x=Z .local->
 V5 MQ (P.zip vs) m x=Z v
 |[],_,_,_,_,h,_,_=>by simp at h
 |_::_,[],_,_,_,_,h,_=>by simp at h
 |p::P,w::vs,0,m,nd,h1,h2,j=>by simp at h1 h2;subst h1;subst h2;show V5 MQ ((p,w)::P.zip vs) m p=_;unfold V5;rw[lZ λv z=>(Mn.mp nd).1 (O6 z).1,if_pos j];simp
 |p::P,w::vs,i+1,m,nd,h1,h2,j=>by show V5 MQ ((p,w)::P.zip vs) m x=_;unfold V5;exact m9 (i:=i) (Mn.mp nd).2 (by simpa using h1) (by simpa using h2) j
theorem md{MQ:Str->Option NU}{x:Str}{v:i3}:∀{P:List Str} {vs:List i3} {i:Nat} {m:Str->Option i3},P.Nodup->P[i]?=Z x->vs[i]?=Z v->MQ x≠Z .local->
 V6 MQ (P.zip vs) m x=Z v
 |[],_,_,_,_,h,_,_=>by simp at h
 |_::_,[],_,_,_,_,h,_=>by simp at h
 |p::P,w::vs,0,m,nd,h1,h2,j=>by simp at h1 h2;subst h1;subst h2;show V6 MQ ((p,w)::P.zip vs) m p=_;unfold V6;rw[m8 λv z=>(Mn.mp nd).1 (O6 z).1,if_neg j];simp
 |p::P,w::vs,i+1,m,nd,h1,h2,j=>by show V6 MQ ((p,w)::P.zip vs) m x=_;unfold V6;exact md (i:=i) (Mn.mp nd).2 (by simpa using h1) (by simpa using h2) j
noncomputable def bE(N:List Str)(vs:List V):St:=vs.map Z++KD (N.length-vs.length) Y
noncomputable def cz(CX:CXT)(P:Lb)(w:Ly)(K:Frag)(mg:Str->Option i3)(base:Heap)(N:List Str)(qual:Str)(scope:Scope)(f:VQ)(cd:i3)(A:LD)(outer:List Env)(s:r0)(H:Hp)(E:XK):Cx where
 prog:=P
 w:=w
 K:=K
 mg:=mg
 base:=base
 A:=A.deeper (Qi qual scope s.heap.objs.size f cd)
 N:=N
 s₀:=s
 H₀:=H
 env:=Qi qual scope s.heap.objs.size f cd
 outer:=outer
 stack:=Qi qual scope s.heap.objs.size f cd::outer
 ex:=[]
 calm:=N3
 fn:=λ_=>N3
 pn:=[]
 xe:=λe s'=>KU (model P w) (A.deeper (Qi qual scope s.heap.objs.size f cd)) (leaving (Qi qual scope s.heap.objs.size f cd) e) (λ_ s''=>CX outer H s E e s'') (λe' s''=>CX outer H s E e' s'') s'
theorem oF{sc:Scope}{n:Nat}(h:sc.names.lookup x=Z .cell):∃c,(Nq n sc.names []).lookup x=Z c:=by have q:=OI sc.names n [] (.inl h);exact Oj.mp q
theorem mf{CX:CXT}{qual:Str}{scope:Scope}{f:VQ}{cd:i3}{outer:List Env}{s1:r0}{E:XK}{vs:List V}(S:cD N ps scope)(hd:A.handled=Y)(j:gK P w K mg base A outer s H)(U:vs.length=ps.length)(r:Vals vs us)(x:InCallC s s.heap.objs.size (V5 (Qi qual scope s.heap.objs.size f cd).kindOf (ps.zip us) λ_=>Y) (Nq (s.heap.objs.size+1) scope.names []) (V6 (Qi qual scope s.heap.objs.size f cd).kindOf (ps.zip us) λ_=>Y) s1):
 Inv (cz CX P w K mg base N qual scope f cd A outer s H E) [] (bE N vs) H s1:=by
 have L:ps.length<=N.length:=by have:=congrArg LP S.pre;rw[Lk]at this;lia
 obtain⟨h1,tk,rfl,G⟩:=x.done;have noA:∀b:VQ,b∉(cz CX P w K mg base N qual scope f cd A outer s H E).ex:=λb z=>absurd (show b∈([]:List VQ)from z) (by simp)
 refine⟨⟨j.mod,S.kind,rfl,rfl,L3 _,λy z c h1 h2=>?_,λy B=>?_,λy c _ h=>?_,λ_=>hd,SK j.frames,.inr ⟨rfl,rfl⟩,λb z=>absurd z (noA b),j.bs,j.bsz,λb _ _=>noA b,λb z=>absurd z (noA b),j.funs,j.frf⟩,
  rfl,j.bare,Un.kept G,⟨_,x.toInCall.ns,λi y v h1 h2 F2=>?_⟩,λy c h=>⟨_,x.cell y c h⟩,j.hok.fresh (L3 _),λy c h=>?_,λp F=>absurd (show p∈([]:List (VQ×Obj))from F) (by simp),j.hok.kept G,?_⟩
 ·exact name_of_addr x.apart (LL h1) (LL h2)
 ·have B:scope.names.lookup y=Z .cell∨scope.names.lookup y=Z .free:=B
  rcases B with B|B
  ·exact oF B
  ·exact absurd rfl (S.nofree _ (LL B))
 ·exact OF (x.above y c (LL h))
 ·have hi:i<vs.length:=by
   unfold bE at h2
   by_cases hi:i<vs.length
   ·exact hi
   ·rw[z0 (by simpa using hi)]at h2
    rw[RB]at h2
    split at h2<;>cases h2
  have O:vs[i]?=Z v:=by
   unfold bE at h2;rw[KS (by simpa using hi),KL]at h2
   cases e:vs[i]? with
   |none=>rw[e]at h2;cases h2
   |some a=>rw[e]at h2;cases h2;rfl
  obtain⟨u,J,rv⟩:=r.get O;have F:ps[i]?=Z y:=by rw[<-S.pre,Ol ∅];exact h1
  have ndP:ps.Nodup:=by rw[<-S.pre];exact S.nd.sublist (List.take_sublist _ _)
  refine⟨u,rv,?_⟩
  rcases S.par y (L5 F)with k|k
  ·exact .inl ⟨k,m9 ndP F J k⟩
  ·obtain⟨c,e⟩:=oF (n:=s.heap.objs.size+1) k;refine .inr ⟨.inl k,c,e,?_⟩;have q:=x.cell y c e;rw[md ndP F J (by show scope.names.lookup y≠_;rw[k];decide)]at q
   exact q
 ·exact j.hok.fresh (OF (x.above y c (LL h)))
 ·unfold bE;show _=N.length;rw[D1,q7,List.length_replicate];lia
theorem zS {CX:CXT}{k:Nat}{f:VQ}{name qual:Str}{params:OW}{scope:Scope}{dV kV doc pm cdv ct oc:i3}{an od:Option VQ}{osl:Array (Option i3)}{sp:Sp}(lk:K.lookup f=Z ⟨oc,od,.func (Nr name qual params body scope dV kV doc pm an cdv ct),osl⟩)(G:P4 K cdv qual=N3)(S:cD N ps scope)(len:∀vs H Q E,sp vs H Q E->vs.length=ps.length)(j:∀(A:LD) (outer:List Env) (s:r0) (H:Hp) (vs:List V) (Q:VK) (E:XK),Room k (A.deeper (Qi qual scope s.heap.objs.size f cdv))->sp vs H Q E->
   ∃t,PSs (cz CX P w K mg base N qual scope f cdv A outer s H E) body t/\t {nx:=λ_ H'=>Q .non H',rt:=Q} (bE N vs) H):
 FnOk P w K mg base CX (k+1) f (Nr name qual params body scope dV kV doc pm an cdv ct) ps sp:=by
 refine⟨len,λA outer s H args us vs Q E L B O r F=>?_⟩;have U:=len _ _ _ _ F;have KX:K.In s.heap:=B.mod.kin.keeps λb o e=>(B.bs b o e).1;have lim:s.heap.NoLimit:=B.mod.nolimit.keeps λb o e=>(B.bs b o e).1;have z:∀y∈ps.zip us,scope.names.lookup y.1=Z .local∨(scope.names.lookup y.1=Z .cell/\((Nq (s.heap.objs.size+1) scope.names []).lookup y.1).isSome=N3):=λ⟨n,v⟩ hy=>by
  rcases S.par n (O6 hy).1 with q|q
  ·exact .inl q
  ·exact .inr ⟨q,OI _ _ _ (.inl q)⟩
 refine SA L.depth (KX _ _ lk) rfl S.co S.gen rfl (TB KX G) (O _ _ _ _ ?_);refine QU S.kind z λenv he s1 x=>?_;subst he;refine⟨lim.keeps x.toInCall.keep,codeAny_func ?_⟩;obtain⟨t,F2,fv⟩:=j A outer s H vs Q E (L.deeper _) F;have I:Inv (cz CX P w K mg base N qual scope f cdv A outer s H E) [] (bE N vs) H s1:=mf S L.hd B U r x;refine Mj (F2 [] s1 (bE N vs) H _ I fv) (λfl s' hs=>?_) λe s' hs=>hs;have fin:∀{σ':St} {H':Hp} {v:V} {u:i3},Inv (cz CX P w K mg base N qual scope f cdv A outer s H E) [] σ' H' s'->RelV v u->Q v H'->CE outer P w H s Q u s':=λ{σ' H' v u} J rv q=>⟨v,H',J.os,J.bare,J.base,J.hok,rv,q⟩
 cases fl with
 |ret u=>obtain⟨v,σ',H',J,rv,q⟩:=hs;exact fin J rv q
 |next=>obtain⟨σ',H',J,q⟩:=hs;exact fin (v:=V.non) (u:=MZ) J rfl q
 |brk=>obtain⟨_,_,_,q⟩:=hs;exact False.elim q
 |cont=>obtain⟨_,_,_,q⟩:=hs;exact False.elim q
end
section
section
variable{X:Cx}{x:Str}{p pos:Pos}{e:Expr}{es:List Expr}{t:TA}{id T:String}{r:List V->Hp->VK->Prop}
noncomputable def tCB(r:List V->Hp->VK->Prop)(t:TA):TE:=λσ H Q=>t σ H λvs H1=>r vs H1 Q
theorem bY(B:CallR X (.builtin id) r)(F:Gl X x)(hm:X.mg x=Y)(G:OE x=Z (.builtin id))(J:PA X (e::es) t)(L:x≠"__name__":=by decide)(j:(x==("__debug__":Str))=VP:=by decide)(he:Lg (e::es) X.env=(VP,eval e X.env)::Lg es X.env:=by rfl)(z:(OG pos (Lg es X.env)).any (·.1)=VP:=by rfl):PE X (.Call (.Name x p) (e::es) [] pos) (tCB r t):=by intro pins s σ H Q I h;refine Np (dX I F hm G ?_ L j);exact Qj (thn (J pos pins s σ H _ I h) λus s1 O=>(by obtain⟨vs,H1,U,F2,fv⟩:=O;exact B pins s1 σ H1 vs us Q U F2 fv)) he z
theorem gL(B:CallR X (.type T) r)(F:Gl X x)(hm:X.mg x=Y)(G:OE x=Z (.type T))(J:PA X (e::es) t)(L:x≠"__name__":=by decide)(j:(x==("__debug__":Str))=VP:=by decide)(he:Lg (e::es) X.env=(VP,eval e X.env)::Lg es X.env:=by rfl)(z:(OG pos (Lg es X.env)).any (·.1)=VP:=by rfl):PE X (.Call (.Name x p) (e::es) [] pos) (tCB r t):=by intro pins s σ H Q I h;refine Np (dX I F hm G ?_ L j);exact NJ (thn (J pos pins s σ H _ I h) λus s1 O=>(by obtain⟨vs,H1,U,F2,fv⟩:=O;exact B pins s1 σ H1 vs us Q U F2 fv)) he z
end
end
end L2
namespace HT
open PySem PyProof.Rows
section
variable{prog:Lb}{w:Ly}{A:LD}{E:i3->r0->Prop}{s:r0}
theorem cat_tup{t b:VQ}{vs ws:List i3}{Q:i3->r0->Prop}(F2:IsTup s.heap t vs.toArray)(fv:IsTup s.heap b ws.toArray)(J:vs≠[])(h1:ws=[]->Q (.ref t) s)(h2:ws≠[]->Q (.ref s.heap.objs.size) {s with heap:=s.heap.push {cls:=.type "tuple",data:=.seq (vs++ws).toArray}})(hsz:vs.length+ws.length<=KJ):KU (model prog w) A (MV .Add (.ref t) (.ref b)) Q E s:=by
 obtain⟨⟨cls,dd,data,sl⟩,ho,L,n,hd⟩:=id F2;obtain⟨⟨O,z,data2,B⟩,j,G,U,hd2⟩:=id fv;simp only at L hd G hd2;subst L hd G hd2;have e:vs.toArray++ws.toArray=(vs++ws).toArray:=by simp
 by_cases hw:ws=[]
 ·exact TZ ⟨_,ho,rfl⟩ ⟨_,j,rfl⟩ RC Th PU PN (Po _ _)
   (tuple_addW1 t b vs.toArray ws.toArray n U dd z sl B (by simpa using J) (by simp[hw])) ⟨ho,j,h1 hw⟩
 ·refine TZ ⟨_,ho,rfl⟩ ⟨_,j,rfl⟩ RC Th PU PN (Po _ _)
   (tuple_addW2 t b vs.toArray ws.toArray n U dd z sl B (by simpa using J) (by simpa using hw) (by rw[KR,KR];exact hsz)) ⟨ho,j,?_⟩
  rw[e];exact h2 hw
noncomputable def sIx(n d:Nat):Option Int->Nat
 |none=>d
 |some v=>if v<0 then(v+(n:Int)).toNat else min v.toNat n
theorem sIx_none(n d:Nat):sIx n d Y=d:=rfl
theorem sIx_nat(n d k:Nat):sIx n d (Z (k:Int))=min k n:=by
 show(if(k:Int)<0 then((k:Int)+(n:Int)).toNat else min (k:Int).toNat n)=min k n
 rw[if_neg ∅,KO]
theorem CQ(n d:Nat)(hd:d<=n)(o:Option Int):sIx n d o<=n:=by
 cases o with
 |none=>exact hd
 |some v=>
  show(if v<0 then(v+(n:Int)).toNat else min v.toNat n)<=n
  by_cases hv:v<0
  ·rw[if_pos hv];lia
  ·rw[if_neg hv];exact Nat.min_le_right _ _
theorem rF(v:Int)(n d:Nat):(if v<0 then max (v+(n:Int)) 0 else min v (n:Int))=((sIx n d (Z v):Nat):Int):=by
 show(if v<0 then max (v+(n:Int)) 0 else min v (n:Int))=(((if v<0 then(v+(n:Int)).toNat else min v.toNat n):Nat):Int)
 by_cases hv:v<0
 ·simp only[if_pos hv];lia
 ·simp only[if_neg hv];lia
theorem tj(lo hi:Option Int)(n:Nat):Pj lo hi 1 (n:Int)=(((sIx n 0 lo:Nat):Int),((sIx n n hi:Nat):Int)):=by
 have h1:¬((1:Int)<0):=∅
 unfold Pj;simp only[h1,if_false];refine V7 ?_ ?_
 ·cases lo with
  |none=>rfl
  |some v=>exact rF v n 0
 ·cases hi with
  |none=>rfl
  |some v=>exact rF v n n
theorem tq(i j:Nat):O0 (i:Int) (j:Int) 1=j-i:=by
 unfold O0;have h1:(1:Int) > 0:=∅
 simp only[h1,if_true,Int.ediv_one]
 split<;>lia
theorem jC{v:i3}{o:Option Int}{Q:Option Int->r0->Prop}(p:S4 v o)(h:Q o s):KU (model prog w) A (Builtin.Slice.slicePartIndex v) Q E s:=by
 cases p with
 |none=>exact slicePart_none h
 |int i t=>exact slicePart_int h
theorem dY{sl:VQ}{vl vu:i3}{lo hi:Option Int}{n:Nat}{Q:Int×Int×Nat->r0->Prop}(hs:s.heap.IsSliceOf sl vl vu .none)(pl:S4 vl lo)(pu:S4 vu hi)(h:Q (((sIx n 0 lo:Nat):Int),1,sIx n n hi-sIx n 0 lo) s):KU (model prog w) A (QV (.ref sl) (pure (n:Int))) Q E s:=by
 obtain⟨os,j,B,z⟩:=id hs;unfold QV Builtin.Slice.sliceFields;refine gV (gV (LG j z (x:=vl) rfl (gV (LG j z (x:=vu) rfl (gV (LG j z (x:=.none) rfl (y4 ?_)))))));refine gV (slicePart_none ?_);show KU _ _ (if((1:Int)==0)=N3 then _ else _) _ _ s
 rw[if_neg (by decide)]
 refine gV (jC pl (gV (jC pu (gV (y4 ?_)))));show KU _ _ (match Pj lo hi 1 (n:Int)with|(lo,hi)=>pure (lo,(1:Int),O0 lo hi 1)) _ _ s
 rw[tj lo hi n];show KU _ _ (pure (((sIx n 0 lo:Nat):Int),(1:Int),O0 ((sIx n 0 lo:Nat):Int) ((sIx n n hi:Nat):Int) 1)) _ _ s;rw[tq];exact y4 h
theorem xN(xs:Array i3)(i k:Nat):((KA k).filterMap λ(m:Nat)=>xs[((i:Int)+(m:Int)*1).toNat]?).toArray=((xs.toList.drop i).take k).toArray:=by
 have e:(λ(m:Nat)=>xs[((i:Int)+(m:Int)*1).toNat]?)=λm=>xs[i+m]?:=by
  funext m
  have:((i:Int)+(m:Int)*1).toNat=i+m:=∅
  rw[this]
 rw[e];have:=pick_run xs i k;rw[List.filterMap_map]at this;have j:((λx=>xs[x]?)∘λx=>i+x)=λm=>xs[i+m]?:=rfl;rw[j]at this;rw[this]
theorem getItem_tuple_cut{t sl:VQ}{items:Array i3}{vl vu:i3}{lo hi:Option Int}{Q:i3->r0->Prop}(z:IsTup s.heap t items)(hs:s.heap.IsSliceOf sl vl vu .none)(pl:S4 vl lo)(pu:S4 vu hi)(hw:¬(sIx items.size 0 lo=0/\sIx items.size items.size hi=items.size))(h:Q (.ref s.heap.objs.size) {s with heap:=s.heap.push {cls:=.type "tuple",data:=.seq ((items.toList.drop (sIx items.size 0 lo)).take (sIx items.size items.size hi-sIx items.size 0 lo)).toArray}})(hsz:items.size<=KJ):KU (model prog w) A (Rj (.ref t) (.ref sl)) Q E s:=by
 have j:sizeOk (.seq ((items.toList.drop (sIx items.size 0 lo)).take (sIx items.size items.size hi-sIx items.size 0 lo)).toArray):=by show((items.toList.drop (sIx items.size 0 lo)).take (sIx items.size items.size hi-sIx items.size 0 lo)).toArray.size<=KJ;rw[KR,Lk,N5,Lm];lia
 have O:sIx items.size items.size hi<=items.size:=CQ _ _ (L3 _) hi;obtain⟨os,B,F,L⟩:=id hs;have G:s.TypeIs (.ref sl) "slice":=⟨os,B,F⟩;unfold Rj
 try with_reducible refine LU ?_
 first|refine gV (y4 ?_)|skip
 refine gV (U0 z.typeIs (by decide) ?_)
 refine gV (Lr (name:=Ll "__getitem__") z.typeIs Nk
  (LB Nk z.typeIs Tb ?_ (TF _ _)))
 show KU _ _ (QW (.ref t)>>=_) _ _ s;refine gV (tupleItemsOf_ z ?_);refine gV (Pc G ?_);rw[if_pos (by decide)]
 refine gV (dY hs pl pu ?_);have J:¬((((sIx items.size 0 lo:Nat):Int)==0&&(1:Int)==1&&(sIx items.size items.size hi-sIx items.size 0 lo)==items.size)=N3):=by intro q;rw[tv,tv]at q;have U:((sIx items.size 0 lo:Nat):Int)=0:=O7 q.1.1;have F2:sIx items.size items.size hi-sIx items.size 0 lo=items.size:=O7 q.2;exact hw ⟨∅,∅⟩
 show KU _ _ (if(((sIx items.size 0 lo:Nat):Int)==0&&(1:Int)==1&&(sIx items.size items.size hi-sIx items.size 0 lo)==items.size)=N3 then _ else _) _ _ s
 rw[if_neg J,xN]
 first
  |exact gV (m:=Om _) (Ms (y4 ⟨_,rfl,y4 h⟩) j)
  |exact gV (m:=Om _) (Ms (gV (y4 (y4 ⟨_,rfl,y4 h⟩))) j)
  |exact gV (gV (m:=Om _) (Ms (y4 (y4 ⟨_,rfl,y4 h⟩)) j))
  |exact gV (gV (m:=Om _) (Ms (y4 ⟨_,rfl,y4 h⟩) j))
end
end HT
namespace L2
open PySem PySem.Spec PyProof.Rows
section
noncomputable abbrev TO:=St->Hp->(Option Int->Hp->Prop)->Prop
def PO(X:Cx)(e:Option Expr)(t:TO):Prop:=
 ∀(pins:List (VQ×Obj)) (s:r0) (σ:St) (H:Hp) (Q:Option Int->Hp->Prop),Inv X pins σ H s->t σ H Q->
  KU (model X.prog X.w) X.A (evalPart e X.env) (λu s'=>∃o H',Inv X pins σ H' s'/\S4 u o/\Q o H') X.xe s
noncomputable def AE:TO:=λ_ H Q=>Q Y H
noncomputable def EG(t:TE):TO:=λσ H Q=>t σ H λx H1=>∃i,x=.int i/\Q (Z i) H1
section
variable{X:Cx}{e:Expr}{te:TE}{lo hi:Option Expr}{tl th:TO}{pos p2:Pos}
theorem AF:PO X Y AE:=by intro pins s σ H Q I h;rw[evalPart_none];exact y4 ⟨Y,H,I,.none,h⟩
theorem AG(h:PE X e te):PO X (Z e) (EG te):=by intro pins s σ H Q I hw;rw[evalPart_some];refine thn (h pins s σ H _ I hw) λu s1 j=>?_;obtain⟨x,H1,z,B,F⟩:=j;obtain⟨i,rfl,q⟩:=F;obtain⟨t,rfl⟩:=B;exact⟨Z i,H1,z,.int i t,q⟩
def SlR(X:Cx)(r:V->Option Int->Option Int->Hp->VK->Prop):Prop:=
 ∀(pins:List (VQ×Obj)) (s:r0) (σ:St) (H:Hp) (x:V) (v vl vu:i3) (lo hi:Option Int) (sl:VQ) (Q:VK),Inv X pins σ H s->RelV x v->s.heap.IsSliceOf sl vl vu .none->S4 vl lo->S4 vu hi->r x lo hi H Q->
  ∃T id,typeLookup (.type T) "__getitem__"=pure (Z (.builtin id))/\s.TypeIs v T/\KU (model X.prog X.w) X.A (Rj v (.ref sl)) (EP X pins σ Q) X.xe s
theorem SlR.or{r r':V->Option Int->Option Int->Hp->VK->Prop}(h:SlR X r)(h':SlR X r'):SlR X (λx lo hi H Q=>r x lo hi H Q∨r' x lo hi H Q):=by
 intro pins s σ H x v vl vu lo hi sl Q I rx hs pl pu q
 rcases q with q|q
 ·exact h pins s σ H x v vl vu lo hi sl Q I rx hs pl pu q
 ·exact h' pins s σ H x v vl vu lo hi sl Q I rx hs pl pu q
noncomputable def tSl(r:V->Option Int->Option Int->Hp->VK->Prop)(te:TE)(tl th:TO):TE:=λσ H Q=>te σ H λx H1=>tl σ H1 λl H2=>th σ H2 λu H3=>r x l u H3 Q
theorem xO{r:V->Option Int->Option Int->Hp->VK->Prop}(B:SlR X r)(he:PE X e te)(F:PO X lo tl)(G:PO X hi th):PE X (.Subscript e (.Slice lo hi Y p2) pos) (tSl r te tl th):=by
 intro pins s σ H Q I h;refine Subscript_ (thn (he pins s σ H _ I h) λv s1 j=>?_);obtain⟨x,H1,J,L,O⟩:=j;refine wpAny_Slice (thn (F pins s1 σ H1 _ J O) λvl s2 ⟨l,H2,U,pl,F2⟩=>thn (G pins s2 σ H2 _ U F2) λvu s3 j=>?_);obtain⟨u,z,fv,pu,q3⟩:=j;rw[evalPart_none];refine y4 ?_;have I4:Inv X pins σ z {s3 with heap:=s3.heap.push {cls:=.type "slice",data:=.fields #[vl,vu,.none]}}:=fv.kept (t':=s3.toks) λb ob q=>p0 _ q
 obtain⟨T,id,hT,ht,hg⟩:=B pins {s3 with heap:=s3.heap.push {cls:=.type "slice",data:=.fields #[vl,vu,.none]}} σ z x v vl vu l u s3.heap.objs.size Q I4 L (Heap.IsSliceOf.new ..) pl pu q3
 show KU (model X.prog X.w) X.A (subscriptTail e (.Slice lo hi Y p2) v (.ref s3.heap.objs.size)) (EP X pins σ Q) X.xe {s3 with heap:=s3.heap.push {cls:=.type "slice",data:=.fields #[vl,vu,.none]}}
 exact tail_any (ops:=[.ref s3.heap.objs.size,v]) ht hT hg (by with_unfolding_all rfl)
noncomputable def gN(xs:List V)(lo hi:Option Int):List V:=(xs.drop (HT.sIx xs.length 0 lo)).take (HT.sIx xs.length xs.length hi-HT.sIx xs.length 0 lo)
theorem iV(xs:List V)(lo hi:Option Int):(gN xs lo hi).length<=xs.length:=by unfold gN;rw[Lk,N5];lia
noncomputable def FY(K:Frag):V->Option Int->Option Int->Hp->VK->Prop:=λx lo hi H Q=>∃a xs,x=.ref a/\SqT K H a xs /\
 ¬(HT.sIx xs.length 0 lo=0/\HT.sIx xs.length xs.length hi=xs.length)/\∀p,H p=Y->Q (.ref p) (upd H p (.tup (gN xs lo hi)))
theorem sl_tup:SlR X (FY X.K):=by
 intro pins s σ H x v vl vu lo hi sl Q I rx hs pl pu h;obtain⟨a,xs,rfl,hx,hw,q⟩:=h
 cases rx
 obtain⟨its,r,j,z⟩:=I.tuple hx;have hlen:its.toArray.size=xs.length:=by rw[KR];exact r.length.symm
 refine⟨"tuple",_,PyProof.Rows.slot_tuple_getitem.lookup,j.typeIs,?_⟩;refine HT.getItem_tuple_cut j hs pl pu (by rw[hlen];exact hw) ?_ (by rw[hlen];exact z)
 rw[hlen];refine⟨.ref s.heap.objs.size,_,I.laid (t':=s.toks) (o:=.tup (gN xs lo hi)) (λb ob q=>p0 _ q) (L3 _) ?_,rfl,q _ (I.hok.fresh (L3 _))⟩;exact⟨Mu (iV xs lo hi) z,_,(r.drop (HT.sIx xs.length 0 lo)).take (HT.sIx xs.length xs.length hi-HT.sIx xs.length 0 lo),QR _ _⟩
noncomputable def zT(K:Frag):R2:=λx y H Q=>∃a b xs ys,x=.ref a/\y=.ref b/\SqT K H a xs/\SqT K H b ys/\xs≠[]/\xs.length+ys.length<=KJ /\
 (ys=[]->Q (.ref a) H)/\(ys≠[]->∀p,H p=Y->Q (.ref p) (upd H p (.tup (xs++ys))))
theorem Vals.nil_iff{xs:List V}{us:List i3}(r:Vals xs us):us=[]↔xs=[]:=by
 cases r with
 |nil=>simp
 |cons _ _=>simp
theorem op_catT:OpR X (MV .Add) (zT X.K):=by
 intro pins s σ H x y v u Q I rx ry h;obtain⟨a,b,xs,ys,rfl,rfl,J,L,hx,F,O,U⟩:=h
 cases rx
 cases ry
 obtain⟨its,B,F2,_⟩:=I.tuple J;obtain⟨G,j,p2,_⟩:=I.tuple L;refine HT.cat_tup F2 p2 (λz=>hx (B.nil_iff.mp z)) (λz=>⟨.ref a,H,I,rfl,O (j.nil_iff.mp z)⟩) (λz=>?_) (by rw[<-B.length,<-j.length];exact F)
 refine⟨.ref s.heap.objs.size,_,I.laid (t':=s.toks) (o:=.tup (xs++ys)) (λb ob q=>p0 _ q) (L3 _) ?_,rfl,U (λw=>z (j.nil_iff.mpr w)) _ (I.hok.fresh (L3 _))⟩;exact⟨by rw[D1];exact F,_,B.append j,QR _ _⟩
end
end
variable{n:Nat}{its:List i3}
section
noncomputable def ixN(n:Nat)(i:Int):Option Nat:=if 0<=i then(if i<n then Z i.toNat else Y)else if -(n:Int)<=i then Z (i+n).toNat else Y
noncomputable def atI{α:Type}(xs:List α)(i:Int):Option α:=(ixN xs.length i).bind λj=>xs[j]?
theorem rG{i:Int}{j:Nat}(h:ixN n i=Z j):seqIndex? i n=Z j/\j<n /\ -(n:Int)<=i/\i<n:=by
 unfold ixN at h
 by_cases h0:0<=i
 ·rw[if_pos h0]at h
  by_cases h1:i<n
  ·rw[if_pos h1]at h;have e:i.toNat=j:=N1.inj h;exact⟨by rw[SM h0 h1,e],∅,∅,h1⟩
  ·rw[if_neg h1]at h;cases h
 ·rw[if_neg h0]at h
  by_cases h1:-(n:Int)<=i
  ·rw[if_pos h1]at h;have e:(i+n).toNat=j:=N1.inj h;exact⟨by rw[S8 ∅ h1,e],∅,h1,∅⟩
  ·rw[if_neg h1]at h;cases h
theorem kN{α:Type}{xs:List α}{i:Int}{v:α}(h:atI xs i=Z v):∃j,seqIndex? i xs.length=Z j/\xs[j]?=Z v/\j<xs.length /\ -(xs.length:Int)<=i/\i<xs.length:=by
 unfold atI at h
 cases e:ixN xs.length i with
 |none=>rw[e]at h;cases h
 |some j=>rw[e]at h;obtain⟨h1,h2,z,B⟩:=rG e;exact⟨j,h1,h,h2,z,B⟩
def kP(b:Expr):Prop:=∀o i,subscripted b VP o i=operate [o,i] (Rj o i)
def IxR(X:Cx)(r:R2):Prop:=
 ∀(value slice:Expr) (pins:List (VQ×Obj)) (s:r0) (σ:St) (H:Hp) (x y:V) (v u:i3) (Q:VK),Inv X pins σ H s->RelV x v->RelV y u->r x y H Q->
  subscripted slice VP v u=operate [v,u] (Rj v u)->KU (model X.prog X.w) X.A (subscriptTail value slice v u) (EP X pins σ Q) X.xe s
def MtR(X:Cx)(id:String)(r:V->List V->Hp->VK->Prop):Prop:=
 ∀(pins:List (VQ×Obj)) (s:r0) (σ:St) (H:Hp) (x:V) (xs:List V) (v:i3) (us:List i3) (Q:VK),Inv X pins σ H s->RelV x v->Vals xs us->r x xs H Q->
  KU (model X.prog X.w) X.A (call (.builtin id) (v::us)) (EP X pins σ Q) X.xe s
section
variable{X:Cx}{a b:Expr}{ta tb:TE}{pos:Pos}
theorem IxR.or{r r':R2}(h:IxR X r)(h':IxR X r'):IxR X (λx y H Q=>r x y H Q∨r' x y H Q):=by
 intro value slice pins s σ H x y v u Q I rx ry q hs
 rcases q with q|q
 ·exact h value slice pins s σ H x y v u Q I rx ry q hs
 ·exact h' value slice pins s σ H x y v u Q I rx ry q hs
theorem EH{r:R2}(j:IxR X r)(z:PE X a ta)(B:PE X b tb)(hs:kP b):PE X (.Subscript a b pos) (tOp r ta tb):=by intro pins s σ H Q I h;exact Subscript_ (xF z B I h λv u s2 x y H2 F rx ry q=>j a b pins s2 σ H2 x y v u Q F rx ry q (hs _ _))
noncomputable def FZ(K:Frag):R2:=λx y H Q=>∃p xs i v,x=.ref p/\y=.int i/\SqL K H p xs/\atI xs i=Z v/\Q v H
noncomputable def G0(K:Frag):R2:=λx y H Q=>∃p xs i v,x=.ref p/\y=.int i/\SqT K H p xs/\atI xs i=Z v/\Q v H
theorem ix_list:IxR X (FZ X.K):=by
 intro value slice pins s σ H x y v u Q I rx ry h hs;obtain⟨p,xs,i,z,rfl,rfl,F,he,q⟩:=h
 cases rx
 obtain⟨t,rfl⟩:=ry;obtain⟨its,r,pl,O⟩:=I.list F;obtain⟨j,h1,h2,U,G,J⟩:=kN he;obtain⟨w,ew,rw'⟩:=r.get h2;have L:=r.length;have F2:=fD;have fin:EP X pins σ Q w s:=⟨z,H,I,rw',q⟩
 by_cases h0:0<=i
 ·have B:i.toNat=j:=by
   rw[SM h0 J]at h1;exact N1.inj h1
  exact item_listR pl.isList h0 ∅ (by rw[B];simpa using ew) fin hs
 ·have B:(i+(its.toArray.size:Int)).toNat=j:=by
   rw[S8 ∅ G]at h1
   rw[KR,<-L];exact N1.inj h1
  exact S9 (x:=w) pl.isList.typeIs slot_list_getitem.lookup
   (Sa (Q:=λr s'=>r=w/\EP X pins σ Q r s') pl.isList ∅ (by rw[KR]<;>lia) ∅ (by rw[B];simpa using ew) ⟨rfl,fin⟩) hs
theorem ix_tup:IxR X (G0 X.K):=by
 intro value slice pins s σ H x y v u Q I rx ry h hs;obtain⟨p,xs,i,z,rfl,rfl,B,he,q⟩:=h
 cases rx
 obtain⟨t,rfl⟩:=ry;obtain⟨its,r,pl,G⟩:=I.tuple B;obtain⟨j,h1,h2,J,L,O⟩:=kN he;obtain⟨w,ew,rw'⟩:=r.get h2;have F:=r.length;have U:=fD;have fin:EP X pins σ Q w s:=⟨z,H,I,rw',q⟩;exact S9 (x:=w) pl.typeIs slot_tuple_getitem.lookup
  (getItem_tuple (j:=j) (Q:=λr s'=>r=w/\EP X pins σ Q r s') pl ∅ ∅ (by rw[KR,<-F];exact h1) (by simpa using ew) ⟨rfl,fin⟩) hs
theorem tt(its:List i3)(n j:Nat)(u:i3):Na (·.setIfInBounds j u) {cls:=.type "list",data:=.seq its.toArray n}={cls:=.type "list",data:=.seq (its.set j u).toArray n}:=by simp[Na]
theorem Inv.lst{pins:List (VQ×Obj)}{σ:St}{H:Hp}{s:r0}{p:VQ}{xs:List V}(I:Inv X pins σ H s)(h:H p=Z (.lst xs)):
 ∃(its:List i3) (n:Nat),Vals xs its/\s.heap.get? p=Z {cls:=.type "list",data:=.seq its.toArray n}/\xs.length<=KJ:=by
 obtain⟨z,its,n,r,e⟩:=I.hok p _ h;exact⟨its,n,r,e,z⟩
theorem Inv.lstUpd{pins:List (VQ×Obj)}{σ:St}{H:Hp}{s:r0}{p:VQ}{xs ys:List V}{its':List i3}{n':Nat}{f:Obj->Obj}(I:Inv X pins σ H s)(h:H p=Z (.lst xs))(ho:s.heap.get? p=Z {cls:=.type "list",data:=.seq its.toArray n})(hf:f {cls:=.type "list",data:=.seq its.toArray n}={cls:=.type "list",data:=.seq its'.toArray n'})(r:Vals ys its')(j:ys.length<=KJ)(t:Nat):
 Inv X pins σ (upd H p (.lst ys)) {s with heap:=s.heap.update p f,toks:=t}:=by
 have e:(s.heap.update p f).get? p=Z {cls:=.type "list",data:=.seq its'.toArray n'}:=by rw[SD f ho (by rw[hf]<;>rfl),hf]
 refine I.write (x:=p) (e:=p) (by rw[h];trivial) (.inl rfl) (λb u z q=>(Sb _ _ (Ne.symm z)).trans q) ⟨_,e⟩ ?_
 exact⟨j,its',n',r,e⟩
noncomputable def zU:V->V->V->Hp->(Hp->Prop)->Prop:=λo i v H Q=>∃p xs k j,o=.ref p/\i=.int k/\H p=Z (.lst xs)/\ixN xs.length k=Z j/\Q (upd H p (.lst (xs.set j v)))
theorem oG:PSet X zU:=by
 intro pins s σ H o i v ov iv u Q I ro ri rv h;obtain⟨p,xs,k,j,rfl,rfl,F,L,q⟩:=h
 cases ro
 obtain⟨t,rfl⟩:=ri;obtain⟨its,n,r,ho,O⟩:=I.lst F;obtain⟨h1,h2,G,J⟩:=rG L;have z:=r.length;have U:=fD;have I':Inv X pins σ (upd H p (.lst (xs.set j v))) {s with heap:=s.heap.update p (Na (·.setIfInBounds j u))}:=I.lstUpd F ho (tt its n j u) (r.set rv j) (by rw[So];exact O) s.toks
 by_cases h0:0<=k
 ·have B:k.toNat=j:=by
   rw[SM h0 J]at h1;exact N1.inj h1
  exact PySem.W.ki_setAt ho h0 ∅ (by rw[KR,<-z];exact J) (by rw[B];exact⟨_,I',q⟩)
 ·have B:(k+(its.toArray.size:Int)).toNat=j:=by
   rw[S8 ∅ G]at h1
   rw[KR,<-z];exact N1.inj h1
  exact PySem.W.ki_setBack ho ∅ (by rw[KR,<-z];exact G) ∅ (by rw[B];exact⟨_,I',q⟩)
theorem oH(lo hi:Option Int)(n:Nat):(PQ lo hi Y n).1=((HT.sIx n 0 lo:Nat):Int)/\(PQ lo hi Y n).2.1=((HT.sIx n n hi:Nat):Int)/\(PQ lo hi Y n).2.2=1:=by
 refine⟨?_,?_,rfl⟩
 ·cases lo with
  |none=>simp[PQ,HT.sIx]
  |some i=>
   simp only[PQ,HT.sIx,RE,show(1:Int) > 0 by decide,if_true]
   by_cases h:i<0
   ·simp only[h,if_true]<;>lia
   ·simp only[h,if_false]<;>lia
 ·cases hi with
  |none=>simp[PQ,HT.sIx]
  |some i=>
   simp only[PQ,HT.sIx,RE,show(1:Int) > 0 by decide,if_true]
   by_cases h:i<0
   ·simp only[h,if_true]<;>lia
   ·simp only[h,if_false]<;>lia
theorem nJ(its:List i3)(lo hi:Option Int):slicePick its.toArray lo hi Y=((its.drop (HT.sIx its.length 0 lo)).take (HT.sIx its.length its.length hi-HT.sIx its.length 0 lo)).toArray:=by obtain⟨h1,h2,j⟩:=oH lo hi its.toArray.size;unfold slicePick;rw[h1,h2,j];simp only[sliceRange_one,pick_run,KR]<;>rfl
noncomputable def G1(K:Frag):V->Option Int->Option Int->Hp->VK->Prop:=λx lo hi H Q=>∃a xs,x=.ref a/\SqL K H a xs/\∀p,H p=Y->Q (.ref p) (upd H p (.lst (gN xs lo hi)))
theorem sl_list:SlR X (G1 X.K):=by
 intro pins s σ H x v vl vu lo hi sl Q I rx hs pl pu h;obtain⟨a,xs,rfl,hx,q⟩:=h
 cases rx
 obtain⟨its,r,j,z⟩:=I.list hx;have hlen:=r.length;refine⟨"list",_,slot_list_getitem.lookup,j.isList.typeIs,?_⟩;refine wpAny_getItem_list_slice j.isList hs pl pu .none (by simp) ?_ (by rw[KR]<;>lia)
 rw[nJ,<-hlen];refine⟨.ref s.heap.objs.size,_,I.laid (t':=s.toks) (o:=.lst (gN xs lo hi)) (λb ob q=>p0 _ q) (L3 _) ?_,rfl,q _ (I.hok.fresh (L3 _))⟩;exact⟨Mu (iV xs lo hi) z,_,0,(r.drop (HT.sIx xs.length 0 lo)).take (HT.sIx xs.length xs.length hi-HT.sIx xs.length 0 lo),KG _ rfl⟩
theorem oI:CallR X (.type "list") (λxs H Q=>∃p ys,xs=[.ref p]/\(SqL X.K H p ys∨SqT X.K H p ys)/\∀l,H l=Y->Q (.ref l) (upd H l (.lst ys))):=by
 intro pins s σ H xs us Q I r h;obtain⟨p,ys,rfl,j,q⟩:=h;obtain⟨u,rfl,rx⟩:=dC r
 cases rx
 have fin:∀(its:List i3),Vals ys its->ys.length<=KJ->∀(h':Heap) (c':Nat),(∀b o',s.heap.get? b=Z o'->h'.get? b=Z o')->
  h'.get? s.heap.objs.size=Z {cls:=.type "list",dict:=Y,data:=.seq its.toArray c',slots:=#[]}->EP X pins σ Q (.ref s.heap.objs.size) {s with heap:=h'}:=λits r' z h' c' kp e=>
  ⟨.ref s.heap.objs.size,_,I.laid (t':=s.toks) kp (L3 _) (show ObjOk X.prog X.w _ h' _ (.lst ys)from⟨z,its,c',r',e⟩),rfl,q _ (I.hok.fresh (L3 _))⟩
 rcases j with j|j
 ·obtain⟨its,r',pl,z⟩:=I.list j;have hlen:=r'.length;obtain⟨o,ho,B,n,hd⟩:=pl.isList;exact call_list_seq p (.inl rfl) ho B hd (λh' c' kp e=>fin its r' z h' c' kp e) (by simp only[KR]<;>lia)
 ·obtain⟨its,r',pl,z⟩:=I.tuple j;have hlen:=r'.length;obtain⟨o,ho,B,n,hd⟩:=pl;exact call_list_seq p (.inr rfl) ho B hd (λh' c' kp e=>fin its r' z h' c' kp e) (by simp only[KR]<;>lia)
theorem nK:CallR X (.type "tuple") (λxs H Q=>∃p ys,xs=[.ref p]/\((SqL X.K H p ys/\∀l,H l=Y->Q (.ref l) (upd H l (.tup ys)))∨(SqT X.K H p ys/\Q (.ref p) H))):=by
 intro pins s σ H xs us Q I r h;obtain⟨p,ys,rfl,h⟩:=h;obtain⟨u,rfl,rx⟩:=dC r
 cases rx
 rcases h with⟨j,q⟩|⟨j,q⟩
 ·obtain⟨its,r',pl,z⟩:=I.list j;have hlen:=r'.length;refine call_tuple_list pl.isList (λh' kp=>?_) (by simp only[KR]<;>lia)
  have B:Inv X pins σ H {s with heap:=h'}:=I.kept (t':=s.toks) kp
  have F:Inv X pins σ (upd H h'.objs.size (.tup ys)) {s with heap:=h'.push {cls:=.type "tuple",data:=.seq its.toArray}}:=B.laid (t':=s.toks) (λb o e=>p0 _ e) (L3 _) (show ObjOk X.prog X.w _ _ _ (.tup ys)from⟨z,its,r',QR _ _⟩)
  exact⟨.ref h'.objs.size,_,F,rfl,q _ (B.hok.fresh (L3 _))⟩
 ·obtain⟨its,r',pl,z⟩:=I.tuple j;exact call_tuple_same pl ⟨.ref p,H,I,rfl,q⟩
def tyV(K:Frag)(T:String)(x:V)(H:Hp):Prop:=match x with
 |.str _=>T="str"
 |.int _=>T="int"
 |.ref p=>(T="list"/\∃xs,SqL K H p xs)∨(T="tuple"/\∃o,K.lookup p=Z o/\o.cls=.type "tuple"/\o.dict=Y) ∨
  (T="dict"/\((∃kvs,H p=Z (.dK kvs))∨∃kvs,H p=Z (.dT kvs)))∨(T="set"/\∃S n,H p=Z (.set S n))
 |_=>False
theorem CS{pins:List (VQ×Obj)}{σ:St}{H:Hp}{s:r0}{T:String}{x:V}{v:i3}(I:Inv X pins σ H s)(r:RelV x v)(ty:tyV X.K T x H):
 s.TypeIs v T/\∀a,v=.ref a->∃ob,s.heap.get? a=Z ob/\ob.dict=Y:=by
 cases x with
 |str z=>
  obtain⟨t,rfl⟩:=r
  cases(show T="str" from ty)
  exact⟨typeIs_str s z t,λ_ e=>nomatch e⟩
 |int i=>
  obtain⟨t,rfl⟩:=r
  cases(show T="int" from ty)
  exact⟨Sd s i t,λ_ e=>nomatch e⟩
 |ref p=>
  cases r
  rcases ty with⟨rfl,xs,F⟩|⟨rfl,o,j,G,hd⟩|⟨rfl,j⟩|⟨rfl,S,n,j⟩
  ·obtain⟨its,_,pl,_⟩:=I.list F;refine⟨pl.isList.typeIs,λa e=>?_⟩
   cases e
   obtain⟨o,n,e,c,hd,_⟩:=pl;exact⟨o,e,hd⟩
  ·refine⟨⟨o,I.kIn p o j,G⟩,λa e=>?_⟩
   cases e
   exact⟨o,I.kIn _ o j,hd⟩
  ·have z:∃o,s.heap.get? p=Z o/\o.ExactDict:=by
    rcases j with⟨kvs,j⟩|⟨kvs,j⟩
    ·obtain⟨_,_,_,_,o,_,_,e,ex,_⟩:=I.hok p _ j;exact⟨o,e,ex⟩
    ·obtain⟨_,_,_,_,o,_,_,e,ex,_⟩:=I.hok p _ j;exact⟨o,e,ex⟩
   obtain⟨o,e,ex⟩:=z;refine⟨⟨o,e,ex.1⟩,λa B=>?_⟩
   cases B
   exact⟨o,e,ex.2.1⟩
  ·obtain⟨o,_,_,_,e,ex,_⟩:=I.hok p _ j;refine⟨⟨o,e,ex.1⟩,λa B=>?_⟩
   cases B
   exact⟨o,e,ex.2.1⟩
 |_=>exact False.elim ty
noncomputable def tBM(K:Frag)(T:String)(r:V->List V->Hp->VK->Prop)(to:TE)(t:TA):TE:=λσ H Q=>to σ H λx H1=>tyV K T x H1/\t σ H1 λxs H2=>r x xs H2 Q
variable{o e:Expr}{es:List Expr}{to:TE}{t:TA}{name:Str}{apos cpos:Pos}{T id:String}{r:V->List V->Hp->VK->Prop}
theorem zV (pa:PlainAttrs T)(slot:Slot T name id)(G:typeOf (.builtin id)=pure (.type "method_descriptor"))(hm:MtR X id r)(ho:PE X o to)(F2:PA X (e::es) t)(z:Rt o name X.env (eval o X.env)=eval o X.env:=by rfl)(F:((OG cpos (Lg (e::es) X.env)).all (fun x=>!x.1)&&(V8 cpos (SN [] X.env)).all (fun x=>x.1.isSome)
   && decide ((e::es).length+([]:List QJ).length+(if([]:List QJ).isEmpty then 0 else 1)<30))=N3:=by rfl)(B:(apos.endLine==cpos.line)=N3:=by rfl)(hs:Lg (e::es) X.env=(VP,eval e X.env)::Lg es X.env:=by rfl)(j:(OG cpos (Lg es X.env)).any (·.1)=VP:=by rfl):
 PE X (.Call (.Attribute o name apos) (e::es) [] cpos) (tBM X.K T r to t):=by
 intro pins s σ H Q I h;refine wpAny_Call_method_late z F B rfl (thn (ho pins s σ H _ I h) λv s1 J=>?_);obtain⟨x,H1,L,O,ty,fv⟩:=J;obtain⟨h1,h2⟩:=CS L O ty;refine⟨T,id,pa,slot,G,h1,h2,?_⟩;have U:=F2 cpos pins s1 σ H1 _ L fv;rw[hs]at U⊢;refine PV (by show(VP || (OG cpos (Lg es X.env)).any (·.1))=VP;rw[j]<;>rfl) (Qu ?_)
 exact thn U λus s2 J=>(by obtain⟨vs,H2,I2,r2,q2⟩:=J;exact hm pins s2 σ H2 x vs v us Q I2 O r2 q2)
end
end
section
def MtM(X:Cx)(id:String)(r:V->List V->Hp->VK->Prop):Prop:=
 ∀(pins:List (VQ×Obj)) (s:r0) (σ:St) (H:Hp) (x:V) (xs:List V) (v:i3) (us:List i3) (Q:VK),Inv X pins σ H s->RelV x v->Vals xs us->r x xs H Q->
  KU (model X.prog X.w) X.A (call (.builtin id) (v::us)) (EP X pins σ Q) X.xe s
theorem Vals.one:∀{x:V} {us:List i3},Vals [x] us->∃u,us=[u]/\RelV x u
 |_,_,.cons r .nil=>⟨_,rfl,r⟩
theorem Vals.rep{xs:List V}{us:List i3}(h:Vals xs us):∀k:Nat,Vals (KD k xs).flatten (KD k us).flatten
 |0=>.nil
 |k+1=>by rw[LY,LY,LI,LI];exact Vals.append h (Vals.rep h k)
theorem gO(its:List i3):∀(k:Nat) (acc:List i3),
 Qk (λj z=>j++z) acc.toArray (KD k its.toArray)=(acc++(KD k its).flatten).toArray
 |0,acc=>by simp
 |k+1,acc=>by
  have e:acc.toArray++its.toArray=(acc++its).toArray:=by simp
  have B:(acc++its)++(KD k its).flatten=acc++(KD (k+1) its).flatten:=by rw[LY,LI,L7]
  rw[<-B,<-gO its k (acc++its),<-e,LY,Sr]
section
variable{X:Cx}{pins:List (VQ×Obj)}{σ:St}{H:Hp}{s:r0}{l b:VQ}{xs ys zs:List V}
theorem Inv.lset{its':List i3}{f:Array i3->Array i3}{t':Nat}(I:Inv X pins σ H s)(j:H l=Z (.lst xs))(e:s.heap.get? l=Z {cls:=.type "list",data:=.seq its.toArray n})(hf:f its.toArray=its'.toArray)(z:Vals ys its')(B:ys.length<=KJ):
 Inv X pins σ (upd H l (.lst ys)) {s with heap:=s.heap.update l (Na f),toks:=t'}:=by
 have q:=PySem.IsL.update e f;rw[hf]at q;refine I.write (x:=l) (e:=l) (by rw[j];exact trivial) (.inl rfl) (λb' u F G=>(Sb s.heap (Na f) (Ne.symm F)).trans G) ⟨_,q⟩ ?_
 exact⟨B,its',_,z,q⟩
theorem Inv.lnew{t':Nat}(I:Inv X pins σ H s)(j:Vals ys its)(z:ys.length<=KJ):
 Inv X pins σ (upd H s.heap.objs.size (.lst ys)) {s with heap:=s.heap.push {cls:=.type "list",data:=.seq its.toArray},toks:=t'}:=
 I.laid (λ_ _ q=>p0 _ q) (L3 _) ⟨z,its,0,j,KG _ rfl⟩
theorem Inv.fresh(I:Inv X pins σ H s):H s.heap.objs.size=Y:=I.hok.fresh (L3 _)
theorem Inv.lstM(I:Inv X pins σ H s)(j:H l=Z (.lst xs)):xs.length<=KJ/\∃(its:List i3) (n:Nat),Vals xs its/\xs.length=its.length/\s.heap.get? l=Z {cls:=.type "list",data:=.seq its.toArray n}:=by obtain⟨z,its,n,r,e⟩:=I.hok l _ j;exact⟨z,its,n,r,r.length,e⟩
theorem xP(h:n<=KJ):Pp n=VP:=by unfold Pp;exact decide_eq_false ∅
end
section
variable{X:Cx}
noncomputable def rH:V->List V->Hp->VK->Prop:=λx vs H Q=>∃l xs y,x=.ref l/\vs=[y]/\H l=Z (.lst xs)/\xs.length<KJ/\Q .non (upd H l (.lst (xs++[y])))
theorem mj:MtM X "list.append" rH:=by
 intro pins s σ H x vs v us Q I rx rv h;obtain⟨l,xs,y,rfl,rfl,j,B,q⟩:=h
 cases rx
 obtain⟨u,rfl,ru⟩:=rv.one;obtain⟨z,its,n,r,G,e⟩:=I.lstM j;refine QX F.slot_list_append ⟨_,e,rfl⟩ F.entry_list_append (F.args_list_append_2 _ _) (PySem.list_append l its.toArray n u (by rw[KR];lia)) ⟨e,?_⟩
 refine⟨.non,_,I.lset (its':=its++[u]) j e (by simp) (r.append (.cons ru .nil)) ?_,rfl,q⟩
 rw[D1,MU];lia
noncomputable def G2:R2:=λx y H Q=>∃l b xs zs,x=.ref l/\y=.ref b/\H l=Z (.lst xs)/\H b=Z (.lst zs)/\xs.length+zs.length<=KJ/\∀p,H p=Y->Q (.ref p) (upd H p (.lst (xs++zs)))
theorem op_cat:OpR X (MV .Add) G2:=by
 intro pins s σ H x y v u Q I rx ry h;obtain⟨l,b,xs,zs,rfl,rfl,B,F,O,q⟩:=h
 cases rx
 cases ry
 obtain⟨z,its,n,r,U,e⟩:=I.lstM B;obtain⟨F2,j,fv,G,J,L⟩:=I.lstM F;refine PySem.P.add_list e L ?_ (by rw[KR,KR];lia)
 have ea:its.toArray++j.toArray=(its++j).toArray:=by simp
 rw[ea];exact⟨.ref _,_,I.lnew (t':=s.toks) (r.append G) (by rw[D1];lia),rfl,q _ I.fresh⟩
noncomputable def G3:R2:=λx y H Q=>∃l k xs,x=.ref l/\y=.int k/\H l=Z (.lst xs) /\ -(2^63)<=k/\k<2^63/\xs.length*k.toNat<=KJ /\
 ∀p,H p=Y->Q (.ref p) (upd H p (.lst (KD k.toNat xs).flatten))
theorem rJ{α:Type}(xs:List α)(k:Nat):(KD k xs).flatten.length=k*xs.length:=by
 induction k with
 |zero=>simp
 |succ k ih=>rw[LY,LI,D1,ih,Oc,Nat.add_comm]
theorem op_rep:OpR X (MV .Mult) G3:=by
 intro pins s σ H x y v u Q I rx ry h;obtain⟨l,k,xs,rfl,rfl,fv,h1,h2,F2,q⟩:=h
 cases rx
 obtain⟨t,rfl⟩:=ry;obtain⟨z,its,n,r,hl,e⟩:=I.lstM fv;have hlen:its.toArray.size*k.toNat<=KJ:=by rw[KR,<-hl];exact F2
 have B:¬its.toArray.size*k.toNat > (2^63-1) / 8:=by
  have:(KJ:Nat)<=(2^63-1) / 8:=by decide
  lia
 have G:¬(!Builtin.List.listFitsIndex k)=N3:=by rw[fitsIndex_both h1 h2];exact KW
 have j:¬Pp (its.toArray.size*k.toNat)=N3:=by rw[xP hlen];exact KW
 have J:Qk (λL O=>L++O) #[] (KD (if its.toArray.isEmpty=N3 then 0 else k.toNat) its.toArray)=(KD k.toNat its).flatten.toArray:=by
  have f0:∀m:Nat,Qk (λL O=>L++O) #[] (KD m its.toArray)=(KD m its).flatten.toArray:=λm=>by have:=gO its m [];rw[Pu]at this;exact this
  rw[f0]
  cases its with
  |nil=>simp
  |cons a r'=>rw[if_neg (by simp)]
 refine Ra (T:="list") (U:="int") (by decide) ⟨_,e,rfl⟩ (λs'=>Sd s' k t) noFill_list_mul UT Qy repeat_list F.slot_int_index.lookup
  (QX Qy (Sd s k t) Up (U1 _ _) (int___rmul___int_list k t l its.toArray n)
    ⟨e,rfl,⟨_,e,rfl⟩,QX F.slot_list_mul ⟨_,e,rfl⟩ F.entry_list_mul (F.args_list_mul_2 _ _) (AutoListH.list___mul___list_int_3 l its.toArray n k t G B j) ⟨e,?_⟩⟩)
 rw[J];exact⟨.ref _,_,I.lnew (t':=s.toks) (r.rep k.toNat) (by rw[rJ,Nt];exact F2),rfl,q _ I.fresh⟩
end
end
end L2
namespace Att
open PySem PySem.W PySem.Calls PyProof.Rows
theorem jD{P:Params}{h:Heap}:∀(ns:List Int) (vs:List i3),WellAll P h vs (ns.map WData.int)->V0 vs ns:=by
 intro ns
 induction ns with
 |nil=>
  intro vs w;rw[Od]at w
  cases w
  exact .nil
 |cons n ns ih=>
  intro vs w;rw[KY]at w
  cases w with
  |cons a b=>
   cases a
   exact .cons _ _ (ih _ b)
theorem uZ{l:OpenLaw}{n:Nat}(O:l.most=Z n){P:Params}{h:Heap}{args:List WData}{vals:List i3}(j:l.row.toRowW.claim.pre args=N3)(G:WellAll P h vals args):
 ∃a vs ns,vals=[Lo a]/\args=[WData.list (ns.map WData.int)]/\h.get? a=Z {cls:=.type "list",data:=.seq vs.toArray}/\V0 vs ns/\ns.length<=n:=by
 have J:WShape.hasAll [] args [.list .int]=N3:=(pre_splitW j).1;have L:l.pre.holds [] {args:=args}=N3:=(pre_splitW j).2;obtain⟨d,r,rfl,h1,h2⟩:=hasAllW_cons J;obtain rfl:=hasAllW_nil h2;obtain⟨xs,rfl,U⟩:=hasW_list h1;obtain⟨ns,rfl⟩:=items_int U;have hlen:ns.length<=n:=by
  unfold OpenLaw.pre at L;have B:(WTm.not (.lt (.lit (.int (n:Int))) (.len (.arg 0)))).holds [] {args:=[.list (ns.map .int)]}=N3:=by have B:=(holds_andW L).1;rw[O]at B;exact B
  have F:=condW_of B (w_not (w_lt w_lit (w_len_list (w_arg rfl))));rw[q7]at F;refine Nat.le_of_not_lt λq=>?_;have q':(n:Int)<((ns.length:Nat):Int):=∅
  first
   |(rw[decide_eq_true q']at F;exact absurd F (by decide))
   |(simp at F;lia)
 cases G with
 |cons F2 fv=>
  cases fv
  cases F2 with
  |list ho z=>exact⟨_,_,ns,rfl,rfl,ho,jD ns _ z,hlen⟩
theorem v6(l:OpenLaw)(args:List WData):l.row.toRowW.claim.post args (.bool N3) args=N3:=
 postW_of (r:=l.row.toRowW) (X:=(N3==N3))
  (show WShape.has [] (.bool N3) .bool=N3 by first|rfl|decide|simp[WShape.has,WShape.arms,WShape.armsAll])
  (show(WTm.eq .res (.lit (.bool N3))).value [] {args:=args,res:=Z (.bool N3),after:=args}=Z (.bool (N3==N3))from w_eq_bool (w_res rfl) w_lit) rfl
theorem attach_call {l:OpenLaw}{n:Nat}{q:Lb}{loose:List Str}{XP:(Str->Option i3)->Heap->Prop}{YP:Ly->Heap->Prop}{d:DefRec}(fv:l.most=Z n)(B:d.params.defaults=[])(call:∀(w:Ly) (s₀ s₁:r0) (mg mb:Str->Option i3) (fa:VQ) (o:Obj) (pm cd doc:i3) (a:VQ) (vs:List i3) (ns:List Int),
   Ground q loose [] XP w s₀ mg mb s₁.heap->YP w s₁.heap->
   s₁.heap.get? fa=Z o->o.data=.func (docDef d.name d.params d.body d.scope pm cd doc)->s₁.heap.CodeRec cd d.name->mg d.name=Z (.ref fa)->
   s₁.heap.get? a=Z {cls:=.type "list",data:=.seq vs.toArray}->V0 vs ns->ns.length<=n->s₁.gens=#[]->
   OH (model l.prog w) T8 (.call (.ref fa) ⟨[.ref a],[]⟩) (λr s'=>r=.ok (.ret (.bool N3))/\OldK s₁.heap s'.heap/\s'.os=s₁.os/\Rh s'.gens) s₁):
 WalkO q loose XP YP l.row.toRowW d [] (λf vs=>V9 f vs):=by
 intro w s₀ s₁ mg mb G F2 fa o pm cd doc dV kV ho hd F O J hg args vals as j U Iq L Ir;obtain rfl:dV=.none:=Dflts.none O B;obtain rfl:kV=.none:=Dflts.noKw O;obtain⟨a,vs,ns,rfl,rfl,z,hints,hlen⟩:=uZ fv j L;refine enter_call (Ob (call w s₀ s₁ mg mb fa o pm cd doc a vs ns G F2 ho (fd_plain hd) F J z hints hlen hg) λr s' hq=>?_);obtain⟨rfl,h2,h3,h4⟩:=hq;exact⟨.inl ⟨.bool N3,.bool N3,[],rfl,λ_=>rfl,.bool N3,v6 l _,λ_=>⟨Rl,λ_ hm=>(nomatch hm)⟩⟩,h2,h3,h4⟩
section
variable{prog:Lb}{w:Ly}{A:LD}{E:i3->r0->Prop}{s:r0}{K:Frag}
noncomputable def Hg(h:Heap)(L d:VQ):List (VQ×Obj):=(KA h.objs.size).filterMap λa=>if a=L∨a=d then Y else(h.get? a).map λo=>(a,o)
end
end Att
namespace L2
open PySem PySem.Spec PyProof.Rows
section
theorem mn:∀{vs:List i3} {ns:List Int},V0 vs ns->Vals (ns.map V.int) vs
 |_,_,.nil=>.nil
 |_,_,.cons n t h=>.cons ⟨t,rfl⟩ (mn h)
end
variable{x qual:Str}{st:Stmt}{f:VQ}
section
noncomputable def cV(s:Stmt):OW:=match s with
 |.FunctionDef _ a _ _ _ _ _ _ _ _=>a
 |_=>{posonlyargs:=[],args:=[],vararg:=Y,kwonlyargs:=[],kw_defaults:=[],kwarg:=Y,defaults:=[]}
noncomputable def bv(s:Stmt):List Stmt:=match s with
 |.FunctionDef _ _ b _ _ _ _ _ _ _=>b
 |_=>[]
noncomputable def al(s:Stmt):Scope:=match s with
 |.FunctionDef _ _ _ _ _ _ sc _ _ _=>sc
 |_=>{kind:=.function,names:=[],isGenerator:=VP,isCoroutine:=VP}
noncomputable abbrev CX0:CXT:=λ_ _ _ _ _ _=>False
noncomputable abbrev E0:XK:=λ_ _ _=>False
theorem tu{X:Cx}:jB CX0 X E0:=λ_ _ _ _ _ _ _ h=>h.elim
structure Fun(K:Frag)(x qual:Str)(st:Stmt)(f:VQ)(fd:N4):Prop where
 ex:∃(oc:i3) (od:Option VQ) (kV doc pm:i3) (an:Option VQ) (cdv ct:i3) (osl:Array (Option i3)),
  fd=Nr x qual (cV st) (bv st) (al st) .none kV doc pm an cdv ct/\K.lookup f=Z ⟨oc,od,.func fd,osl⟩/\P4 K cdv qual=N3
 kp:NT K (.ref f)=N3
section
variable{P:Lb}{w:Ly}{K:Frag}{mg:Str->Option i3}{base:Heap}
theorem Fun.ok {fd:N4}{N ps:List Str}{k:Nat}{sp:Sp}(F:Fun K x qual st f fd)(S:cD N ps (al st))(len:∀vs H Q E,sp vs H Q E->vs.length=ps.length)(j:∀(cdv:i3) (A:LD) (outer:List Env) (s:r0) (H:Hp) (vs:List V) (Q:VK) (E:XK),Room k (A.deeper (Qi qual (al st) s.heap.objs.size f cdv))->sp vs H Q E->
   ∃t,PSs (cz CX0 P w K mg base N qual (al st) f cdv A outer s H E).nox (bv st) t/\t {nx:=λ_ H'=>Q .non H',rt:=Q} (bE N vs) H):FnOk P w K mg base CX0 (k+1) f fd ps sp:=by
 obtain⟨oc,od,kV,doc,pm,an,cdv,ct,osl,rfl,lk,z⟩:=F.ex;refine zS lk z S len λA outer s H vs Q E G B=>?_;obtain⟨t,h,q⟩:=j cdv A outer s H vs Q E G B;exact⟨t,h.nox,q⟩
theorem Fun.binds{fd:N4}{ps:List Str}(F:Fun K x qual st f fd)(h:∀(kV doc pm:i3) (an:Option VQ) (cdv ct:i3) (us:List i3),us.length=ps.length->SJ (Nr x qual (cV st) (bv st) (al st) .none kV doc pm an cdv ct) ⟨us,[]⟩=pure (ps.zip us)):Binds K fd ps []:=by obtain⟨oc,od,kV,doc,pm,an,cdv,ct,osl,rfl,lk,j⟩:=F.ex;exact .all (h kV doc pm an cdv ct)
theorem ah{oc:i3}{od an:Option VQ}{osl:Array (Option i3)}{kV doc pm cdv ct:i3}(l:K.lookup f=Z ⟨oc,od,.func (Nr x qual (cV st) (bv st) (al st) .none kV doc pm an cdv ct),osl⟩)(c:P4 K cdv qual=N3)(k:NT K (.ref f)=N3):Fun K x qual st f (Nr x qual (cV st) (bv st) (al st) .none kV doc pm an cdv ct):=⟨⟨oc,od,kV,doc,pm,an,cdv,ct,osl,rfl,l,c⟩,k⟩
end
end
end L2
namespace HT
open PySem PySem.Spec PyProof.Rows
section
variable{prog:Lb}{w:Ly}{A:LD}{E:i3->r0->Prop}{s:r0}
theorem getItem_tuple_whole{t sl:VQ}{items:Array i3}{vl vu:i3}{lo hi:Option Int}{Q:i3->r0->Prop}(j:IsTup s.heap t items)(hs:s.heap.IsSliceOf sl vl vu .none)(pl:S4 vl lo)(pu:S4 vu hi)(hw:sIx items.size 0 lo=0/\sIx items.size items.size hi=items.size)(h:Q (.ref t) s):KU (model prog w) A (Rj (.ref t) (.ref sl)) Q E s:=by
 obtain⟨os,z,B,J⟩:=id hs;have F:s.TypeIs (.ref sl) "slice":=⟨os,z,B⟩;unfold Rj
 try with_reducible refine LU ?_
 first|refine gV (y4 ?_)|skip
 refine gV (U0 j.typeIs (by decide) ?_)
 refine gV (Lr (name:=Ll "__getitem__") j.typeIs Nk
  (LB Nk j.typeIs Tb ?_ (TF _ _)))
 show KU _ _ (QW (.ref t)>>=_) _ _ s;refine gV (tupleItemsOf_ j ?_);refine gV (Pc F ?_);rw[if_pos (by decide)]
 refine gV (dY hs pl pu ?_);have G:(((sIx items.size 0 lo:Nat):Int)==0&&(1:Int)==1&&(sIx items.size items.size hi-sIx items.size 0 lo)==items.size)=N3:=by rw[hw.1,hw.2];simp
 show KU _ _ (if(((sIx items.size 0 lo:Nat):Int)==0&&(1:Int)==1&&(sIx items.size items.size hi-sIx items.size 0 lo)==items.size)=N3 then _ else _) _ _ s
 rw[if_pos G];refine gV (m:=QY (.ref t)) ?_;unfold QY;refine gV (Pc j.typeIs (y4 ?_));show KU _ _ (if N3=N3 then _ else _) _ _ s
 rw[if_pos rfl];exact gV (Nl (y4 ⟨_,rfl,y4 h⟩))
end
end HT
namespace L2
open PySem PySem.Spec PyProof.Rows
section
section
variable{X:Cx}
noncomputable def G4(K:Frag):V->Option Int->Option Int->Hp->VK->Prop:=λx lo hi H Q=>∃a xs,x=.ref a/\SqT K H a xs/\(HT.sIx xs.length 0 lo=0/\HT.sIx xs.length xs.length hi=xs.length)/\Q x H
theorem xQ:SlR X (G4 X.K):=by
 intro pins s σ H x v vl vu lo hi sl Q I rx hs pl pu h;obtain⟨a,xs,rfl,hx,hw,q⟩:=h
 cases rx
 obtain⟨its,r,j,z⟩:=I.tuple hx;have hlen:=r.length;refine⟨"tuple",_,slot_tuple_getitem.lookup,j.typeIs,?_⟩;refine HT.getItem_tuple_whole j hs pl pu (by rw[KR,<-hlen];exact hw) ⟨.ref a,H,I,rfl,q⟩
end
end
variable{u:i3}{y:V}{P:Lb}{w:Ly}{H H':Hp}{kvs:List (List Key×V)}{xs:List (List Key×VQ×i3)}{b a:VQ}{h':Heap}{t':Nat}{X:Cx}{pins:List (VQ×Obj)}{σ:St}{s:r0}
section
section
variable{κ:Type}[DecidableEq κ]
noncomputable def bZ(kvs:List (κ×V))(k:κ):Option V:=(kvs.find? λkv=>decide (kv.1=k)).map (·.2)
noncomputable def cn(kvs:List (κ×V))(k:κ)(v:V):List (κ×V):=if(kvs.any λkv=>decide (kv.1=k))=N3 then kvs.map (λkv=>if kv.1=k then(kv.1,v)else kv)else kvs++[(k,v)]
theorem fV{p:κ×V}{r:List (κ×V)}{k:κ}(e:p.1=k):bZ (p::r) k=Z p.2:=by simp[bZ,MM,e]
theorem fW{p:κ×V}{r:List (κ×V)}{k:κ}(e:¬p.1=k):bZ (p::r) k=bZ r k:=by simp[bZ,MM,e]
theorem oJ(k:κ):∀kvs:List (κ×V),(kvs.any λkv=>decide (kv.1=k))=(bZ kvs k).isSome
 |[]=>rfl
 |p::r=>by
  rw[Oo]
  by_cases e:p.1=k
  ·simp only[fV e,decide_eq_true e,Bool.true_or,TH]
  ·rw[fW e,decide_eq_false e,Ru];exact oJ k r
theorem iW(kvs:List (κ×V))(k:κ)(v:V):(cn kvs k v).length<=kvs.length+1:=by
 unfold cn
 split
 ·rw[q7];lia
 ·rw[D1,LF,Nj];lia
theorem RelO.isSome_eq{o:Option V}{u:Option i3}(r:RelO o u):o.isSome=u.isSome:=by
 cases o with
 | none=>cases u with
   |none=>rfl
   |some _=>exact(show False from r).elim
 | some _=>cases u with
   |none=>exact(show False from r).elim
   |some _=>rfl
theorem RelO.getD{o:Option V}{u:Option i3}{d:V}{d':i3}(r:RelO o u)(rd:RelV d d'):RelV (o.getD d) (u.getD d'):=by
 cases o with
 | none=>cases u with
   |none=>exact rd
   |some _=>exact(show False from r).elim
 | some _=>cases u with
   |none=>exact(show False from r).elim
   |some _=>exact r
theorem KV.val{kvs:List (κ×V)}{vs:List (κ×i3)}(r:KV kvs vs)(k:κ):RelO (bZ kvs k) (T9 vs k):=by
 unfold KV at r
 induction r with
 |nil=>exact P2
 |@cons p q ps qs h t ih=>
  obtain⟨h1,h2⟩:=h
  by_cases e:p.1=k
  ·have e':q.1=k:=h1.symm.trans e;have b:T9 (q::qs) k=Z q.2:=by simp[T9,MM,e']
   rw[fV e,b];exact h2
  ·have e':¬q.1=k:=λz=>e (h1.trans z);have b:T9 (q::qs) k=T9 qs k:=by simp[T9,MM,e']
   rw[fW e,b];exact ih
theorem KV.any{kvs:List (κ×V)}{vs:List (κ×i3)}(r:KV kvs vs)(k:κ):(kvs.any λkv=>decide (kv.1=k))=vs.any λkv=>decide (kv.1=k):=by
 unfold KV at r
 induction r with
 |nil=>rfl
 |cons h t ih=>rw[Oo,Oo,ih,h.1]
theorem KV.repl{kvs:List (κ×V)}{vs:List (κ×i3)}(r:KV kvs vs)(k:κ)(ry:RelV y u):
 KV (kvs.map λkv=>if kv.1=k then(kv.1,y)else kv) (vs.map λkv=>if kv.1=k then(kv.1,u)else kv):=by
 unfold KV at r⊢
 induction r with
 |nil=>exact .nil
 |@cons p q ps qs h t ih=>
  rw[KY,KY];refine .cons ?_ ih;obtain⟨h1,h2⟩:=h
  by_cases e:p.1=k
  ·rw[if_pos e,if_pos (h1.symm.trans e)];exact⟨h1,ry⟩
  ·rw[if_neg e,if_neg (λz=>e (h1.trans z))];exact⟨h1,h2⟩
theorem KV.put{kvs:List (κ×V)}{vs:List (κ×i3)}(r:KV kvs vs)(k:κ)(ry:RelV y u):KV (cn kvs k y) (stored vs k u):=by
 unfold cn stored;rw[r.any k]
 by_cases e:(vs.any λkv=>decide (kv.1=k))=N3
 ·rw[if_pos e,if_pos e];exact r.repl k ry
 ·rw[if_neg e,if_neg e];exact Paired.snoc r ⟨rfl,ry⟩
theorem KV.length{kvs:List (κ×V)}{vs:List (κ×i3)}(r:KV kvs vs):kvs.length=vs.length:=Pk r
end
theorem jE{k:Key}(r:RelV (kV k) u):(aV P w).is k u=N3:=by
 cases k with
 |inl i=>obtain⟨t,e⟩:=(show ∃t,u=Ul i t from r);subst e;exact qX P w i t
 |inr x=>obtain⟨t,e⟩:=(show ∃t,u=Um x t from r);subst e;exact qY P w x t
theorem mq{P:Lb}{w:Ly}:∀{ks:List Key} {us:List i3},Vals (ks.map kV) us->ItemsAre (aV P w) ks us
 |[],_,r=>by rw[Od]at r;cases r;exact .nil
 |k::ks,_,r=>by
  rw[KY]at r
  cases r with
  |cons h t=>exact .cons (jE h) (mq t)
noncomputable abbrev KT(H:Hp):List (List Key×V)->List (List Key×VQ×i3)->Prop:=Mo λp q=>p.1=q.1/\H q.2.1=Z (.tup (p.1.map kV))/\RelV p.2 q.2.2
theorem KT.val(r:KT H kvs xs)(k:List Key):RelO (bZ kvs k) ((UJ xs k).map (·.2)):=by
 induction r with
 |nil=>exact P2
 |@cons p q ps qs h t ih=>
  obtain⟨h1,_,h2⟩:=h
  by_cases e:p.1=k
  ·have e':q.1=k:=h1.symm.trans e;have b:UJ (q::qs) k=Z q.2:=by simp[UJ,MM,e']
   rw[fV e,b];exact h2
  ·have e':¬q.1=k:=λz=>e (h1.trans z);have b:UJ (q::qs) k=UJ qs k:=by simp[UJ,MM,e']
   rw[fW e,b];exact ih
theorem KT.repl(r:KT H kvs xs)(k:List Key)(ry:RelV y u):
 KT H (kvs.map λkv=>if kv.1=k then(kv.1,y)else kv) (xs.map (putAt k u)):=by
 induction r with
 |nil=>exact .nil
 |@cons p q ps qs h t ih=>
  rw[KY,KY];refine .cons ?_ ih;obtain⟨h1,h2,j⟩:=h;unfold putAt
  by_cases e:p.1=k
  ·rw[if_pos e,if_pos (h1.symm.trans e)];exact⟨h1,h2,ry⟩
  ·rw[if_neg e,if_neg (λz=>e (h1.trans z))];exact⟨h1,h2,j⟩
theorem KT.put(r:KT H kvs xs)(k:List Key)(j:H b=Z (.tup (k.map kV)))(ry:RelV y u):
 KT H (cn kvs k y) (storedH xs k b u):=by
 have e:(kvs.any λkv=>decide (kv.1=k))=(UJ xs k).isSome:=by rw[oJ,(r.val k).isSome_eq,U2]
 unfold cn storedH;rw[e]
 by_cases q:(UJ xs k).isSome=N3
 ·rw[if_pos q,if_pos q];exact r.repl k ry
 ·rw[if_neg q,if_neg q];exact Paired.snoc r ⟨rfl,j,ry⟩
theorem KT.keeps(r:KT H kvs xs)(j:∀b ys,H b=Z (.tup ys)->H' b=Z (.tup ys)):KT H' kvs xs:=Vx r λ_ _ z=>⟨z.1,j _ _ z.2.1,z.2.2⟩
section
variable{P:Lb}{w:Ly}{H:Hp}{h:Heap}{a:VQ}
theorem zW{u:HO}(ok:HOk P w H h)(e:Rd H a u):ObjOk P w H h a u:=e.ok ok
theorem jF{kvs:List (Key×V)}(ok:HOk P w H h)(e:Rd H a (.dK kvs)):kvs.length<=KJ/\(a==MP)=VP/\∃vs,KV kvs vs/\h.DictOf (aV P w) a vs:=show ObjOk P w H h a (.dK kvs)from zW ok e
theorem EI{kvs:List (Key×V)}(ok:HOk P w H h)(e:H a=Z (.dK kvs)):kvs.length<=KJ/\(a==MP)=VP/\∃vs,KV kvs vs/\h.DictOf (aV P w) a vs:=jF ok (.inl e)
theorem gP{ks:List Key}(ok:HOk P w H h)(e:H a=Z (.tup (ks.map kV))):(QP (aV P w)).is h ks a:=by obtain⟨_,its,r,o,h1,h2,n,j⟩:=(show ObjOk P w H h a (.tup (ks.map kV))from ok a _ e);exact⟨o,its.toArray,n,h1,h2,j,by simpa using mq r⟩
theorem jG(ok:HOk P w H h)(e:Rd H a (.dT kvs)):kvs.length<=KJ/\(a==MP)=VP /\
 ∃xs,KT H kvs xs/\h.DictOfH (QP (aV P w)) a xs:=by
 obtain⟨z,y,xs,r,o,es,ep,h1,h2,j,B,F⟩:=(show ObjOk P w H h a (.dT kvs)from zW ok e);refine⟨z,y,xs,r,o,es,ep,h1,h2,j,B,λx hx=>?_,F⟩;have all:∀{l:List (List Key×V)} {m:List (List Key×VQ×i3)},KT H l m->∀x∈m,(QP (aV P w)).is h x.1 x.2.1:=by
  intro l m q
  induction q with
  |nil=>intro x hx;exact nomatch hx
  |@cons p q ps qs hq t ih=>
   intro x hx
   rcases KH.mp hx with e|hx
   ·subst e;exact gP ok (by rw[<-hq.1];exact hq.2.1)
   ·exact ih x hx
 exact all r x hx
theorem EJ(ok:HOk P w H h)(e:H a=Z (.dT kvs)):kvs.length<=KJ/\(a==MP)=VP /\
 ∃xs,KT H kvs xs/\h.DictOfH (QP (aV P w)) a xs:=jG ok (.inl e)
end
def DGet(H:Hp)(a:VQ)(y:V)(r:Option V):Prop:=(∃kvs k,Rd H a (.dK kvs)/\y=kV k/\r=bZ kvs k)∨∃kvs k b,Rd H a (.dT kvs)/\y=.ref b/\H b=Z (.tup (k.map kV))/\r=bZ kvs k
def DPut(H:Hp)(a:VQ)(y v:V)(H':Hp):Prop:=
 (∃kvs k,H a=Z (.dK kvs)/\y=kV k/\kvs.length<KJ/\H'=upd H a (.dK (cn kvs k v))) ∨
 ∃kvs k b,H a=Z (.dT kvs)/\y=.ref b/\H b=Z (.tup (k.map kV))/\kvs.length<KJ/\H'=upd H a (.dT (cn kvs k v))
theorem DGet.k{kvs:List (Key×V)}{k:Key}(e:H a=Z (.dK kvs)):DGet H a (kV k) (bZ kvs k):=.inl ⟨kvs,k,.inl e,rfl,rfl⟩
theorem DPut.k{kvs:List (Key×V)}{k:Key}{v:V}(e:H a=Z (.dK kvs))(j:kvs.length<KJ):DPut H a (kV k) v (upd H a (.dK (cn kvs k v))):=.inl ⟨kvs,k,e,rfl,j,rfl⟩
theorem DPut.t{k:List Key}{v:V}(e:H a=Z (.dT kvs))(eb:H b=Z (.tup (k.map kV)))(j:kvs.length<KJ):DPut H a (.ref b) v (upd H a (.dT (cn kvs k v))):=.inr ⟨kvs,k,b,e,rfl,eb,j,rfl⟩
section
variable{X:Cx}{pins:List (VQ×Obj)}{σ:St}{H:Hp}{s:r0}{a:VQ}{y v:V}{u r:i3}{o:Option V}{A:LD}{E:i3->r0->Prop}
theorem Inv.big(I:Inv X pins σ H s):MP<s.heap.objs.size:=by have h:Me<s.heap.objs.size:=(I.mod.glob.keeps I.bk).lt;exact Nat.lt_trans (by decide) h
theorem v7{Q:i3->r0->Prop}(B:A.units+1<Oa)(I:Inv X pins σ H s)(g:DGet H a y (Z v))(ry:RelV y u)(h:∀w' s',Inv X pins σ H s'->RelV v w'->Q w' s'):
 KU (model X.prog X.w) A (Rj (.ref a) u) Q E s:=by
 rcases g with⟨kvs,k,e,ey,l⟩|⟨kvs,k,b,e,ey,eb,l⟩
 ·subst ey;obtain⟨z,hd,vs,rel,dd⟩:=jF I.hok e;obtain⟨w',hw,rw'⟩:=VH (v:=v) (o:=T9 vs k) (by rw[l];exact rel.val k)
  exact wpAny_getItem_of (jE ry) dd.mapOf hw (h w' _ (I.tok _) rw')
 ·subst ey
  cases(show u=Lo b from ry)
  obtain⟨z,hd,xs,rel,dd⟩:=jG I.hok e;obtain⟨w',hw,rw'⟩:=VH (v:=v) (o:=(UJ xs k).map (·.2)) (by rw[l];exact rel.val k)
  obtain⟨p,F,j⟩:=Se.mp hw;refine wpAny_getItem_heap (PD B) (gP I.hok eb) dd F ?_;rw[j];exact h w' _ (I.tok _) rw'
theorem AH{Q:i3->r0->Prop}(j:A.units+1<Oa)(I:Inv X pins σ H s)(g:DGet H a y o)(ry:RelV y u)(h:∀s',Inv X pins σ H s'->Q (.bool (!o.isSome)) s'):
 KU (model X.prog X.w) A (Ny .NotIn u (.ref a)) Q E s:=by
 rcases g with⟨kvs,k,e,ey,l⟩|⟨kvs,k,b,e,ey,eb,l⟩
 ·subst ey;obtain⟨z,hd,vs,rel,dd⟩:=jF I.hok e;refine wpAny_notIn_of (jE ry) hd dd.mapOf ?_;rw[<-(rel.val k).isSome_eq,<-l];exact h _ (I.tok _)
 ·subst ey
  cases(show u=Lo b from ry)
  obtain⟨z,hd,xs,rel,dd⟩:=jG I.hok e;refine wpAny_notIn_heap (PD j) (gP I.hok eb) hd dd ?_;have q:=(rel.val k).isSome_eq;rw[U2]at q;rw[<-q,<-l];exact h _ (I.tok _)
theorem rK{ob:HO}(I:Inv X pins σ H s)(mu:Mut (H a))(hs:My a s.heap h')(he:∃q,h'.get? a=Z q)(new:ObjOk X.prog X.w (upd H a ob) h' a ob):
 Inv X pins σ (upd H a ob) {s with heap:=h',toks:=t'}:=
 I.write (x:=a) (e:=a) mu (.inl rfl) (λb q j z=>(hs.2 b j).trans z) he new
theorem CT{kvs:List (Key×V)}{vs:List (Key×i3)}(z:kvs.length<=KJ)(hd:(a==MP)=VP)(rel:KV kvs vs)(dd:h'.DictOf (aV P w) a vs):ObjOk P w H' h' a (.dK kvs):=⟨z,hd,vs,rel,dd⟩
theorem v8{Q:Unit->r0->Prop}(G:A.units+1<Oa)(I:Inv X pins σ H s)(g:DPut H a y v H')(ry:RelV y u)(rv:RelV v r)(h:∀s',Inv X pins σ H' s'->Q () s'):
 KU (model X.prog X.w) A (T6 (.ref a) u r) Q E s:=by
 rcases g with⟨kvs,k,e,ey,l,eH⟩|⟨kvs,k,b,e,ey,eb,l,eH⟩
 ·subst ey eH;obtain⟨z,hd,vs,rel,dd⟩:=EI I.hok e;have B:vs.length<=KJ:=by rw[<-rel.length];exact z
  have F:(cn kvs k v).length<=KJ:=by have:=iW kvs k v;lia
  refine wpAny_setItem_pairs (hsz:=B) (jE ry) dd λh' dd' hs=>h _ ?_;have he:∃q,h'.get? a=Z q:=let⟨q,_,_,j,_⟩:=dd'; ⟨q,j⟩;exact rK I (by rw[e];exact P2) hs he (CT F hd (rel.put k rv) dd')
 ·subst ey eH
  cases(show u=Lo b from ry)
  obtain⟨z,hd,xs,rel,dd⟩:=EJ I.hok e;have B:xs.length<=KJ:=by rw[<-Pk rel];exact z
  have F:(cn kvs k v).length<=KJ:=by have:=iW kvs k v;lia
  refine wpAny_setItem_heap (hsz:=B) (PD G) (gP I.hok eb) dd λh' dd' hs=>h _ ?_;obtain⟨q,es,ep,j,h2,J,L,_,O⟩:=dd';refine rK I (by rw[e];exact P2) hs ⟨q,j⟩ ⟨F,hd,_,(rel.put k eb rv).keeps λc ys ec=>?_,q,es,ep,j,h2,J,L,O⟩
  rw[ak (Er ec e (λz=>nomatch z))];exact ec
end
theorem xR(h:Heap)(j:MP<h.objs.size):ObjOk P w H (h.push {cls:=.type "dict",data:=.dict #[]}) h.objs.size (.dK []):=⟨Nv _,beq_eq_false_iff_ne.mpr (Ne.symm (Lc j)),[],.nil,Heap.DictOf.new h⟩
theorem xS(h:Heap)(j:MP<h.objs.size):ObjOk P w H (h.push {cls:=.type "dict",data:=.dict #[]}) h.objs.size (.dT []):=⟨Nv _,beq_eq_false_iff_ne.mpr (Ne.symm (Lc j)),[],.nil,_,#[],0,KG _ rfl,⟨rfl,rfl,rfl⟩,rfl,rfl,List.nodup_nil⟩
noncomputable def CU:TE:=λ_ H Q=>∀p,H p=Y->Q (.ref p) (upd H p (.dK []))
noncomputable def CV:TE:=λ_ H Q=>∀p,H p=Y->Q (.ref p) (upd H p (.dT []))
section
variable{X:Cx}{pos:Pos}
theorem xT:PE X (.Dict [] [] pos) CU:=λpins s σ H Q I h=>Uq ⟨.ref s.heap.objs.size,_,I.laid (a:=s.heap.objs.size) (o:=.dK []) (t':=s.toks) (λ_ _ q=>p0 _ q) (L3 _) (xR s.heap I.big),rfl,h _ (I.hok.fresh (L3 _))⟩
theorem xU:PE X (.Dict [] [] pos) CV:=λpins s σ H Q I h=>Uq ⟨.ref s.heap.objs.size,_,I.laid (a:=s.heap.objs.size) (o:=.dT []) (t':=s.toks) (λ_ _ q=>p0 _ q) (L3 _) (xS s.heap I.big),rfl,h _ (I.hok.fresh (L3 _))⟩
end
structure M2(X:Cx)(o:Expr)(m:Str)(apos:Pos)(e f:Expr)(cpos:Pos):Prop where
 base:Rt o m X.env (eval o X.env)=eval o X.env
 few:((OG cpos (Lg [e,f] X.env)).all (λx=>!x.1)&&(V8 cpos (SN [] X.env)).all (λx=>x.1.isSome)
  && decide (([e,f]:List Expr).length+([]:List QJ).length+(if([]:List QJ).isEmpty then 0 else 1)<30))=N3
 line:(apos.endLine==cpos.line)=N3
 trees:OG cpos (Lg [e,f] X.env)=[(VP,eval e X.env),(VP,eval f X.env)]
def IsD(H:Hp)(a:VQ):Prop:=(∃kvs,Rd H a (.dK kvs))∨∃kvs,Rd H a (.dT kvs)
theorem jH(I:Inv X pins σ H s)(d:IsD H a):
 s.TypeIs (.ref a) "dict"/\(∀b,Lo a=.ref b->∃ob,s.heap.get? b=Z ob/\ob.dict=Y)/\(a==MP)=VP:=by
 rcases d with⟨kvs,e⟩|⟨kvs,e⟩
 ·obtain⟨_,hd,vs,_,dd⟩:=jF I.hok e;refine⟨dd.typeIs,λb q=>?_,hd⟩
  cases q
  obtain⟨ob,_,_,h1,h2,_⟩:=dd;exact⟨ob,h1,h2.2.1⟩
 ·obtain⟨_,hd,xs,_,dd⟩:=jG I.hok e;refine⟨dd.typeIs,λb q=>?_,hd⟩
  cases q
  obtain⟨ob,_,_,h1,h2,_⟩:=dd;exact⟨ob,h1,h2.2.1⟩
section
variable{X:Cx}{pins:List (VQ×Obj)}{σ:St}{H:Hp}{s:r0}{a:VQ}{y d:V}{u r:i3}{o:Option V}{A:LD}{E:i3->r0->Prop}
theorem CW{Q:i3->r0->Prop}(j:A.units+1<Oa)(I:Inv X pins σ H s)(g:DGet H a y o)(ry:RelV y u)(rd:RelV d r)(h:∀w' s',Inv X pins σ H s'->RelV (o.getD d) w'->Q w' s'):
 KU (model X.prog X.w) A (call (.builtin "dict.get") [.ref a,u,r]) Q E s:=by
 rcases g with⟨kvs,k,e,ey,l⟩|⟨kvs,k,b,e,ey,eb,l⟩
 ·subst ey;obtain⟨z,hd,vs,rel,dd⟩:=jF I.hok e;refine call_meetsIn Qg dd.typeIs Sf (RF _ _ _) (meets_dict_get_default (aV X.prog X.w) a (jE ry) hd r) ⟨_,dd.mapOf,h _ _ (I.tok _) ?_⟩;rw[l];exact(rel.val k).getD rd
 ·subst ey
  cases(show u=Lo b from ry)
  obtain⟨z,hd,xs,rel,dd⟩:=jG I.hok e;refine call_meetsIn Qg dd.typeIs Sf (RF _ _ _) (meetsH_dict_get_default (QP (aV X.prog X.w)) a b hd r) ⟨PD j,k,xs,gP I.hok eb,dd,h _ _ (I.tok _) ?_⟩;rw[l];exact(rel.val k).getD rd
end
noncomputable def CY(td ty tx:TE):TE:=λσ H Q=>td σ H λx H1=>∃a,x=.ref a/\IsD H1 a/\ty σ H1 λy H2=>tx σ H2 λz H3=>∃o,DGet H3 a y o/\Q (o.getD z) H3
section
variable{X:Cx}{o e f:Expr}{apos cpos:Pos}{td ty tx:TE}
theorem xV(B:X.A.units+1<Oa)(ho:PE X o td)(he:PE X e ty)(hf:PE X f tx)(m:M2 X o "get" apos e f cpos):PE X (.Call (.Attribute o "get" apos) [e,f] [] cpos) (CY td ty tx):=by
 intro pins s σ H Q I h;refine wpAny_Call_method m.base m.few m.line PySem.F.plainAttrs_dict Qg PySem.F.type_dict_get (thn (ho pins s σ H _ I h) λu s1 G=>?_);obtain⟨x,H1,j,rx,a,ex,d,J⟩:=G;subst ex;obtain rfl:u=Lo a:=rx;obtain⟨t1,L,_⟩:=jH j d;refine⟨t1,L,?_⟩;rw[m.trees];refine PV rfl (Qu (Pz (thn (he pins s1 σ H1 _ j J) λiv s2 ⟨y,H2,O,ry,U⟩=>Pz (thn (hf pins s2 σ H2 _ O U) λfv s3 ⟨z,F2,fv,rz,ov,g,q3⟩=>Rk ?_))))
 exact CW B fv g ry rz λw' s4 I4 rw'=>⟨_,F2,I4,rw',q3⟩
end
end
variable{d:Nat}{ifs:List Expr}{elt target iter:Expr}{gens:List LZ}{scope:Scope}{pos pos':Pos}{acc:i3}{g:TG}{env:Env}{wi:TI}{x:Str}
section
noncomputable def bg(elt:Expr)(gens:List LZ)(scope:Scope)(pos:Pos)(d:Nat)(acc:i3)(env:Env)(k:Sem Fin):Sem Fin:=
 match gens[d+1]? with
 |some g'=>eval g'.iter env>>=fun x=>Ri g'.iter.pos>>=fun _=>Nx g'.iter env x>>=fun x=>holding [x] (S0 x)>>=fun it'=>runOwn (.compStart (.ListComp elt gens scope pos) (d+1) it' acc env) env>>=λ_=>k
 |none=>(eval elt env>>=λx=>call (.builtin "list.append") [acc,x]>>=λ_=>pure ())>>=λ_=>k
noncomputable def bw(ifs:List Expr)(env:Env):Sem Bool:=forIn ifs N3 λc r=>if r=N3 then do let ok <-isTrue c env (eval c env);pure (OO ok)else pure (OO r)
theorem oK(elt target iter:Expr)(ifs:List Expr)(gens:List LZ)(scope:Scope)(pos:Pos)(d:Nat)(it acc:i3)(env:Env)(hd:gens[d]?=Z ⟨target,iter,ifs,0⟩)(j:∀g',gens[d+1]?=Z g'->g'.is_async=0):
 compTurn (.ListComp elt gens scope pos) d it acc env=(Ri iter.pos>>=λ_=>NS it>>=λr=>match r with
  |none=>pure (.done .next)
  |some v=>Qx target it v>>=fun _=>assign target env v>>=fun _=>bw ifs env>>=fun ok=>(if ok=N3 then bg elt gens scope pos d acc env (again (.compLoop (.ListComp elt gens scope pos) d it acc env))else again (.compLoop (.ListComp elt gens scope pos) d it acc env))):=by
 unfold compTurn;simp only[hd];unfold bg bw
 cases hn:gens[d+1]? with
 |none=>rfl
 |some g'=>obtain⟨t',i',f',a'⟩:=g';have e:a'=0:=j _ hn;subst e;rfl
noncomputable abbrev TC:=St->Hp->(St->Hp->Prop)->Prop
def cI(J:It)(g:TG)(tb:TC)(N:St->Hp->Prop)(σ:St)(H:Hp):Prop:=
 ∃W:Nat->Nat->St->Hp->Prop,(∃m,W 0 m σ H)/\∀i m σ H,W i m σ H->
  (J.stop i H/\N σ H)∨(J.go i H/\∃N':St->Hp->Prop,(∀σ' H',N' σ' H'->∃m',m'<m/\W (i+1) m' σ' H')/\∀x H',J.yld i H x H'->g x σ H' λσ2 H2=>tb σ2 H2 N')
def PB(X:Cx)(F:Sem Fin->Sem Fin)(t:TC):Prop:=
 ∀(pins:List (VQ×Obj)) (s:r0) (σ:St) (H:Hp) (N:St->Hp->Prop) (k:Sem Fin) (Q:Fin->r0->Prop) (E:i3->r0->Prop),Inv X pins σ H s->t σ H N->
  (∀s' σ' H',Inv X pins σ' H' s'->N σ' H'->KU (model X.prog X.w) X.A k Q E s')->KU (model X.prog X.w) X.A (F k) Q E s
section
variable{X:Cx}
theorem nox{α:Type}{m:Sem α}{Q:α->r0->Prop}{E:i3->r0->Prop}(hx:∀e s,X.xe e s->False)(h:KU (model X.prog X.w) X.A m Q X.xe s):KU (model X.prog X.w) X.A m Q E s:=Mj h (λ_ _ q=>q) λe s' q=>(hx e s' q).elim
noncomputable def jI(ts:List TT)(tb:TC):TC:=match ts with
 |[]=>tb
 |t::r=>λσ H N=>t σ H λb H1=>if b=N3 then jI r tb σ H1 N else N σ H1
theorem jJ{env:Env}{M:Qf}{A:LD}{Q:Bool->r0->Prop}{E:i3->r0->Prop}{s:r0}(h:Q VP s):∀ifs:List Expr,
 KU M A (forIn ifs VP λc r=>if r=N3 then do let ok <-isTrue c env (eval c env);pure (OO ok)else pure (OO r)) Q E s
 |[]=>y4 h
 |c::r=>by rw[OP];simp only[MB,if_false];exact gV (y4 (jJ h r))
theorem oM(hx:∀e s,X.xe e s->False){tb:TC}{N:St->Hp->Prop}:∀{ifs:List Expr} {ts:List TT},Mo (λc t=>PT X c t) ifs ts->
 ∀(pins:List (VQ×Obj)) (s:r0) (σ:St) (H:Hp) (E:i3->r0->Prop),Inv X pins σ H s->jI ts tb σ H N->
 KU (model X.prog X.w) X.A (bw ifs X.env) (λok s'=>∃H',Inv X pins σ H' s'/\if ok=N3 then tb σ H' N else N σ H') E s
 |_,_,.nil=>λpins s σ H E I h=>y4 ⟨H,I,by rw[if_pos rfl];exact h⟩
 |c::ifs,_,.cons (b:=t) B hr=>by
  intro pins s σ H E I h;have ih:=oM hx hr (tb:=tb) (N:=N) pins;unfold bw at ih⊢;rw[OP];simp only[if_true];refine gV (gV (nox hx (thn (B pins s σ H _ I h) λb s1 F=>?_)));obtain⟨H1,z,j⟩:=F;refine y4 ?_
  cases b with
  |false=>rw[if_neg KW]at j;exact jJ ⟨H1,z,by rw[if_neg KW];exact j⟩ ifs
  |true=>rw[if_pos rfl]at j;exact ih s1 σ H1 E z j
theorem xW(hx:∀e s,X.xe e s->False){F:Sem Fin->Sem Fin}{tb:TC}(B:PB X F tb){ts:List TT}(G:Mo (λc t=>PT X c t) ifs ts):
 PB X (λk=>bw ifs X.env>>=λok=>if ok=N3 then F k else k) (jI ts tb):=by
 intro pins s σ H N k Q E I h hk;refine gV (thn (oM hx G pins s σ H E I h) λok s1 J=>?_);obtain⟨H1,z,j⟩:=J
 cases ok with
 |false=>rw[if_neg KW]at j⊢;exact hk s1 σ H1 z j
 |true=>rw[if_pos rfl]at j⊢;exact B pins s1 σ H1 N k Q E z j hk
noncomputable def zX(p:VQ)(te:TE):TC:=λσ H N=>te σ H λx H1=>∃xs,H1 p=Z (.lst xs)/\xs.length<KJ/\N σ (upd H1 p (.lst (xs++[x])))
theorem kQ(hx:∀e s,X.xe e s->False){p:VQ}{te:TE}(he:PE X elt te)(hd:gens[d+1]?=Y):
 PB X (bg elt gens scope pos d (.ref p) X.env) (zX p te):=by
 intro pins s σ H N k Q E I h z;unfold bg;rw[hd];refine gV (gV (nox hx (thn (he pins s σ H _ I h) λu s1 j=>?_)));obtain⟨x,H1,B,F,xs,G,l1,J⟩:=j;refine gV (nox hx (thn (mj (X:=X) pins s1 σ H1 (.ref p) [x] (.ref p) [u] (λ_ H2=>N σ H2) B rfl (.cons F .nil) ⟨p,xs,x,rfl,rfl,G,l1,J⟩) λv s2 j=>?_));obtain⟨_,H2,L,_,O⟩:=j;exact y4 (z s2 σ H2 L O)
theorem mv(hx:∀e s,X.xe e s->False)(hc:X.calm=N3)(hd:gens[d]?=Z ⟨target,iter,ifs,0⟩)(ha:∀g',gens[d+1]?=Z g'->g'.is_async=0)(hg:PG X target g){tb:TC}(j:PB X (λk=>bw ifs X.env>>=λok=>if ok=N3 then bg elt gens scope pos d acc X.env k else k) tb){N:St->Hp->Prop}{it:VQ}{fp:List VQ}{tn:Nat->Heap->Prop}{J:It}(I:Inv X pins σ H s)(T:j8 X.prog X.w X.K target J fp it tn)(t0:tn 0 s.heap)(f2:∀b∈fp,cG X pins H b)(h:cI J g tb N σ H):
 OH (model X.prog X.w) X.A (.compLoop (.ListComp elt gens scope pos) d (.ref it) acc X.env) (λr s'=>match r with|.ok _=>∃σ' H',Inv X pins σ' H' s'/\N σ' H'|.error _=>False) s:=by
 obtain⟨W,⟨m0,w0⟩,turn⟩:=h;have stat:∀{H':Hp},(∀b∈fp,H' b=Y)->∀b∈fp,cG X pins H' b:=λhn b j=>⟨hn b j,(f2 b j).2⟩;refine codeAny_loop rfl (λn s'=>∃i σ' H',Inv X pins σ' H' s'/\tn i s'.heap/\(∀b∈fp,H' b=Y)/\W i n σ' H') ?_ m0 ⟨0,σ,H,I,t0,λb j=>(f2 b j).1,w0⟩;rintro n s3 ⟨i,σ3,L,I3,F,G,w3⟩;show KU _ _ ((compTurn (.ListComp elt gens scope pos) d (.ref it) acc X.env).onRaise (λx=>do noteFrame x X.env;theTreesLotGoes x)) _ _ s3
 refine wpAny_noted ?_;rw[oK elt target iter ifs gens scope pos d (.ref it) acc X.env hd ha];refine gV (Oh (gV ?_));show KU (model X.prog X.w) X.A _ _ _ s3
 rcases turn i n σ3 L w3 with⟨stop,qn⟩|⟨go,N',hN,step⟩
 ·refine thn (T.done X rfl rfl rfl hc i pins s3 σ3 L _ I3 (stat G) F stop) λr s4 z=>?_;obtain⟨O,I4⟩:=z;subst O;exact y4 ⟨σ3,L,I4,qn⟩
 ·refine thn (T.item X rfl rfl rfl hc i pins s3 σ3 L _ I3 (stat G) F go) λr s4 z=>?_;obtain⟨u,O,h4⟩:=z;subst O;refine gV (thn h4 λ_ s5 z=>?_);obtain⟨x,H5,I5,r5,y5,B,U⟩:=z;have F2:=I5.pinned (stat U) (T.obj _ _ B);refine gV (nox hx (thn (hg _ s5 σ3 H5 x u _ F2 r5 (step x H5 y5)) λ_ s6 z=>?_));obtain⟨σ6,H6,I6,q6⟩:=z;refine j _ s6 σ6 H6 N' (again (.compLoop (.ListComp elt gens scope pos) d (.ref it) acc X.env)) _ _ I6 q6 λs7 σ7 H7 fv n7=>?_;obtain⟨m',hm,w7⟩:=hN σ7 H7 n7;refine y4 ⟨rfl,m',hm,i+1,σ7,H7,fv.unpinned,T.keep _ _ _ B λb j o e=>(fv.pin (b,o) (Ld _ (Ld _ (dB j e)))).1,λb j=>?_,w7⟩;obtain⟨o,e,dd⟩:=T.obj _ _ B b j;exact(fv.pin (b,o) (Ld _ (Ld _ (dB j e)))).2.1
theorem jK {it:i3}{prog:Lb}{A:LD}{R:V4->r0->Prop}(hd:gens[d]?=Z ⟨target,iter,ifs,0⟩)(h0:OH (model prog w) A (.compLoop (.ListComp elt gens scope pos) d it acc env) R s)(h:KU (model prog w) A (S0 it) (fun it' s'=>OH (model prog w) A (.compLoop (.ListComp elt gens scope pos) d it' acc env) R s')
   (notedBy (model prog w) A env λx s'=>R (.error x) s') s):
 OH (model prog w) A (.compStart (.ListComp elt gens scope pos) d it acc env) R s:=by
 refine codeAny_of_tree ?_;show KU _ _ ((compStart (.ListComp elt gens scope pos) d it acc env).onRaise (λx=>do noteFrame x env;Ri theWindowsPlace)) _ _ s
 refine wpAny_notedAt ?_;unfold compStart;have j:(clausesOf (.ListComp elt gens scope pos))[d]?=Z ⟨target,iter,ifs,0⟩:=hd;rw[j];show KU _ _ (ask>>=_) _ _ s;refine gV (wpAny_askSetting (wpAny_ite ?_))
 split
 ·first
   |exact gV (y4 (y4 (Ql rfl h0)))
   |exact y4 (Ql rfl h0)
 ·first
   |exact gV (Nl (gV (Oh (gV (Mj h (λit' s' h'=>y4 (Ql rfl h')) λ_ _ x=>x)))))
   |(refine gV (Nl ?_);show KU _ _ (Ri iter.pos>>=_) _ _ s;exact gV (Oh (gV (Mj h (λit' s' h'=>y4 (Ql rfl h')) λ_ _ x=>x))))
theorem mw(hx:∀e s,X.xe e s->False)(B:X.calm=N3)(hd:gens[d+1]?=Z ⟨target,iter,ifs,0⟩)(F:∀g',gens[d+1+1]?=Z g'->g'.is_async=0)(hi:PI X target iter wi)(G:PG X target g){tb:TC}(L:PB X (λk=>bw ifs X.env>>=λok=>if ok=N3 then bg elt gens scope pos (d+1) acc X.env k else k) tb)(hs:∀x,Nx iter X.env x=pure x):
 PB X (bg elt gens scope pos d acc X.env) (λσ H N=>wi σ H λJ H1=>cI J g tb N σ H1):=by
 intro pins s σ H N k Q E I h hk;unfold bg;rw[hd];refine gV (nox hx (thn (hi pins s σ H _ I h) λv s1 h1=>?_));refine gV (Oh (gV (P5 (hs v) ?_)));refine gV (LU (nox hx (thn h1 λitv s2 h2=>?_)));obtain⟨it,fp,tn,J,H2,e,O,T,j,f2,hw⟩:=h2;subst e;have loop:=mv (acc:=acc) hx B hd F G L O T j f2 hw;refine gV (wpAny_runOwn (Ob (jK (R:=λr s'=>match r with|.ok _=>∃σ' H',Inv X pins σ' H' s'/\N σ' H'|.error _=>False) hd loop (T.self _ 0 _ _ _ j loop)) λr s3 z=>?_))
 cases r with
 |error e=>exact z.elim
 |ok f=>obtain⟨σ3,U,F2,fv⟩:=z;exact hk s3 σ3 U F2 fv
noncomputable def aC(cells:List (Str×VQ)):List (Str×NU)->List (Str×VQ)->List (Str×VQ)
 |[],acc=>acc
 |(n,k)::r,acc=>if k==.free then(match cells.lookup n with|some c=>aC cells r ((n,c)::acc)|none=>aC cells r acc)else aC cells r acc
theorem iX{env:Env}:∀(names:List (Str×NU)) (acc:List (Str×VQ)),(∀x∈names,x.2=.free->(env.cells.lookup x.1).isSome=N3)->
 (forIn names acc λ(x:Str×NU) (r:List (Str×VQ))=>(match x with|(name,kind)=>if(kind==Lz)=N3 then do let c <-cellOf env name;pure (OO ((name,c)::r))else pure (OO r):Sem (ForInStep (List (Str×VQ)))))=(pure (aC env.cells names acc):Sem (List (Str×VQ)))
 |[],acc,_=>rfl
 |(n,k)::r,acc,h=>by
  rw[OP];have ih:=λacc'=>iX r acc' λx hx=>h x (L9 _ hx);unfold aC
  by_cases hk:(k==Lz)=N3
  ·obtain⟨c,z⟩:=Oj.mp (h (n,k) Ln (beq_iff_eq.mp hk));have j:env.cells.lookup n=Z c:=z;have B:cellOf env n=pure c:=by unfold cellOf;rw[j]
   simp only[hk,if_true,B,j,pure_bind];exact ih _
  ·simp only[hk,if_false,pure_bind];exact ih _
theorem fX(h:∀x∈scope.names,x.2=.free->(env.cells.lookup x.1).isSome=N3):closureFor scope env=pure (aC env.cells scope.names []):=by unfold closureFor;have e:=iX (env:=env) scope.names [] h;simp only[bind_pure];exact e
theorem cJ{cells:List (Str×VQ)}{y:Str}{c:VQ}:∀{names:List (Str×NU)} {acc:List (Str×VQ)},(y,c)∈aC cells names acc->(y,c)∈acc∨(cells.lookup y=Z c/\(y,Lz)∈names)
 |[],acc,h=>.inl h
 |(n,k)::r,acc,h=>by
  unfold aC at h
  by_cases hk:(k==Lz)=N3
  ·rw[if_pos hk]at h;have F:k=.free:=beq_iff_eq.mp hk;subst F
   cases G:cells.lookup n with
   |none=>
    rw[G]at h
    rcases cJ h with z|⟨j,B⟩
    ·exact .inl z
    ·exact .inr ⟨j,L9 _ B⟩
   |some c'=>
    rw[G]at h
    rcases cJ h with z|⟨j,B⟩
    ·rcases KH.mp z with e|z
     ·cases e
      exact .inr ⟨G,Ln⟩
     ·exact .inl z
    ·exact .inr ⟨j,L9 _ B⟩
  ·rw[if_neg hk]at h
   rcases cJ h with z|⟨j,B⟩
   ·exact .inl z
   ·exact .inr ⟨j,L9 _ B⟩
theorem cK{cells:List (Str×VQ)}{y:Str}{c:VQ}(j:cells.lookup y=Z c):∀{names:List (Str×NU)} {acc:List (Str×VQ)},((y,c)∈acc∨(y,Lz)∈names)->(y,c)∈aC cells names acc
 |[],acc,h=>by
  rcases h with h|h
  ·exact h
  ·simp at h
 |(n,k)::r,acc,h=>by
  unfold aC
  by_cases hk:(k==Lz)=N3
  ·rw[if_pos hk];have z:k=.free:=beq_iff_eq.mp hk;subst z
   cases hl:cells.lookup n with
   |none=>
    refine cK j ?_
    rcases h with h|h
    ·exact .inl h
    ·rcases KH.mp h with e|h
     ·cases e;rw[hl]at j;cases j
     ·exact .inr h
   |some c'=>
    refine cK j ?_
    rcases h with h|h
    ·exact .inl (L9 _ h)
    ·rcases KH.mp h with e|h
     ·cases e;rw[hl]at j;cases j;exact .inl Ln
     ·exact .inr h
  ·rw[if_neg hk];refine cK j ?_
   rcases h with h|h
   ·exact .inl h
   ·rcases KH.mp h with e|h
    ·cases e;exact absurd rfl hk
    ·exact .inr h
theorem dy:∀(names:List (Str×NU)) (n:Nat) (acc acc':List (Str×VQ)),Nq n names (acc++acc')=Nq n names acc++acc'
 |[],_,_,_=>rfl
 |(x,k)::r,n,acc,acc'=>by
  unfold Nq
  by_cases j:(k==Nu)=N3
  ·rw[if_pos j,if_pos j];exact dy r (n+1) ((x,n)::acc) acc'
  ·rw[if_neg j,if_neg j];exact dy r n acc acc'
theorem dz:∀{names:List (Str×NU)} {n:Nat} {acc:List (Str×VQ)} {y:Str} {c:VQ},(y,c)∈Nq n names acc->(y,c)∈acc∨(n<=c/\(y,Nu)∈names)
 |[],_,_,_,_,h=>.inl h
 |(x,k)::r,n,acc,y,c,h=>by
  unfold Nq at h
  by_cases hk:(k==Nu)=N3
  ·rw[if_pos hk]at h;have j:k=.cell:=beq_iff_eq.mp hk;subst j
   rcases dz h with z|⟨B,F⟩
   ·rcases KH.mp z with e|z
    ·cases e;exact .inr ⟨L3 _,Ln⟩
    ·exact .inl z
   ·exact .inr ⟨Nat.le_of_succ_le B,L9 _ F⟩
  ·rw[if_neg hk]at h
   rcases dz h with z|⟨B,F⟩
   ·exact .inl z
   ·exact .inr ⟨B,L9 _ F⟩
structure bh(sc osc:Scope)(oN N':List Str)(fr:List (Option Nat)):Prop where
 kind:sc.kind=.function
 nd:(sc.names.map (·.1)).Nodup
 ndN:N'.Nodup
 free:∀x∈sc.names,x.2=.free->osc.names.lookup x.1=Z .cell∨osc.names.lookup x.1=Z .free
 len:fr.length=N'.length
 fr:∀(i j:Nat) (x:Str),N'[i]?=Z x->fr[i]?=Z (Z j)->oN[j]?=Z x/\(x,Lz)∈sc.names
noncomputable def inh(fr:List (Option Nat))(σ:St):St:=fr.map λo=>o.bind λj=>(σ[j]?).join
noncomputable def bj(X:Cx)(sc:Scope)(L:VQ):Env:={scope:=relabel sc X.env,locals:=L,globals:=X.env.globals,cells:=Nq (L+1) sc.names (aC X.env.cells sc.names []),qual:=X.env.qual,func:=Y,code:=X.env.code,frame:=X.env.frame,builtins:=X.env.builtins}
noncomputable def aR(X:Cx)(sc:Scope)(N':List Str)(s:r0)(H:Hp)(fp:List VQ):Cx:={X with N:=N',s₀:=s,H₀:=H,env:=bj X sc s.heap.objs.size,outer:=X.stack,stack:=X.stack,ex:=fp,fn:=λx=>sc.names.lookup x==Z .cell,pn:=[],xe:=λ_ _=>False}
theorem aZ:∀{l:List (Str×NU)} {x:Str} {k:NU},(l.map (·.1)).Nodup->(x,k)∈l->l.lookup x=Z k
 |(y,k')::r,x,k,nd,h=>by
  have nd':(y::r.map (·.1)).Nodup:=nd;obtain⟨z,B⟩:=Mn.mp nd';rw[NP]
  rcases KH.mp h with e|hm
  ·cases e;simp
  ·have j:(x==y)=VP:=by
    refine beq_eq_false_iff_ne.mpr λe=>?_;subst e;exact z (KP.mpr ⟨(x,k),hm,rfl⟩)
   rw[j];exact aZ B hm
theorem cL{env:Env}:∀{names:List (Str×NU)} {x:Str},
 (names.map fun (n,k)=>if(k==Lz&&env.scope.kind==.function&&env.kindOf n==Z .cell)then(n,Nu)else(n,k)).lookup x =
   (names.lookup x).map λk=>if(k==Lz&&env.scope.kind==.function&&env.kindOf x==Z .cell)then Nu else k
 |[],_=>rfl
 |(n,k)::r,x=>by
  have ih:=cL (env:=env) (names:=r) (x:=x);show P6 x ((if(k==Lz&&env.scope.kind==.function&&env.kindOf n==Z .cell)=N3 then(n,Nu)else(n,k))::_)=_
  rw[NP (a:=x) (b:=k)]
  by_cases hx:x=n
  ·subst hx;simp only[beq_self_eq_true];show _=Z (if(k==Lz&&env.scope.kind==.function&&env.kindOf x==Z .cell)=N3 then Nu else k)
   by_cases j:(k==Lz&&env.scope.kind==.function&&env.kindOf x==Z .cell)=N3
   ·rw[if_pos j,if_pos j,NP];simp only[beq_self_eq_true]
   ·rw[if_neg j,if_neg j,NP];simp only[beq_self_eq_true]
  ·have z:(x==n)=VP:=beq_eq_false_iff_ne.mpr hx;rw[z]
   by_cases j:(k==Lz&&env.scope.kind==.function&&env.kindOf n==Z .cell)=N3
   ·rw[if_pos j,NP,z];exact ih
   ·rw[if_neg j,NP,z];exact ih
section
variable{pins:List (VQ×Obj)}{σ:St}{H:Hp}{s:r0}{sc:Scope}{N':List Str}{fr:List (Option Nat)}{fp:List VQ}
theorem gQ(I:Inv X pins σ H s)(B:bh sc X.env.scope X.N N' fr):∀x∈sc.names,x.2=.free->(X.env.cells.lookup x.1).isSome=N3:=λx hx e=>by obtain⟨c,j⟩:=I.ok.has x.1 (B.free x hx e);rw[j];rfl
theorem v9(I:Inv X pins σ H s)(f2:∀b∈fp,cG X pins H b)(Iq:∀b∈fp,b<s.heap.objs.size)(B:bh sc X.env.scope X.N N' fr):
 Inv (aR X sc N' s H fp) [] (inh fr σ) H {s with heap:=Ur (s.heap.push {cls:=.type "dict",data:=.dict #[]}) sc.names}:=by
 have G:∀b o,s.heap.get? b=Z o->(Ur (s.heap.push {cls:=.type "dict",data:=.dict #[]}) sc.names).get? b=Z o:=λb o e=>Ss _ _ b o (p0 _ e);have ok:=cellsFrom_ok sc.names (s.heap.push {cls:=.type "dict",data:=.dict #[]}) (s.heap.objs.size+1) [] ⟨λ_ _ hm=>(nomatch hm),Rl⟩ (by rw[MD];exact L3 _)
 rw[MD]at ok;have capp:Nq (s.heap.objs.size+1) sc.names (aC X.env.cells sc.names [])=Nq (s.heap.objs.size+1) sc.names []++aC X.env.cells sc.names []:=dy sc.names _ [] _;have cof:∀x c,(bj X sc s.heap.objs.size).cells.lookup x=Z c->((x,c)∈Nq (s.heap.objs.size+1) sc.names []/\s.heap.objs.size<c)∨(X.env.cells.lookup x=Z c/\(x,Lz)∈sc.names):=λx c e=>by
  have m:=LL e;have m':(x,c)∈Nq (s.heap.objs.size+1) sc.names (aC X.env.cells sc.names []):=m;rw[capp]at m'
  rcases KQ.mp m' with z|z
  ·exact .inl ⟨z,(ok.empty x c z).2⟩
  ·rcases cJ z with q|q
   ·simp at q
   ·exact .inr q
 have cOld:∀x c,X.env.cells.lookup x=Z c->c<s.heap.objs.size:=λx c e=>by obtain⟨v,q⟩:=I.cell x c e;exact q.lt
 have kindF:∀x,(x,Lz)∈sc.names->(bj X sc s.heap.objs.size).kindOf x=Z .cell∨(bj X sc s.heap.objs.size).kindOf x=Z .free:=λx hx=>by
  have e1:sc.names.lookup x=Z .free:=aZ B.nd hx;have O:(bj X sc s.heap.objs.size).kindOf x=_:=cL (env:=X.env) (names:=sc.names) (x:=x);rw[e1]at O;rw[O]
  by_cases J:(Lz==Lz&&X.env.scope.kind==.function&&X.env.kindOf x==Z .cell)=N3
  ·exact .inl (by simp only[O8,if_pos J])
  ·exact .inr (by simp only[O8,if_neg J])
 have cellF:∀x c,(x,Lz)∈sc.names->X.env.cells.lookup x=Z c->(bj X sc s.heap.objs.size).cells.lookup x=Z c:=λx c hx J=>by
  have m:=cK (acc:=[]) J (.inr hx);have m2:(x,c)∈(bj X sc s.heap.objs.size).cells:=by show(x,c)∈Nq (s.heap.objs.size+1) sc.names (aC X.env.cells sc.names []);rw[capp];exact Ld _ m
  cases F:(bj X sc s.heap.objs.size).cells.lookup x with
  |none=>
   exfalso
   have:∀{l:List (Str×VQ)},(x,c)∈l->l.lookup x=Y->False:=by
    intro l
    induction l with
    |nil=>intro h;simp at h
    |cons a r ih=>
     intro h e;obtain⟨y,d⟩:=a;rw[NP]at e
     rcases KH.mp h with z|z
     ·cases z;simp at e
     ·by_cases hxy:(x==y)=N3
      ·rw[hxy]at e;cases e
      ·simp only[Qm]at hxy;rw[hxy]at e;exact ih z e
   exact this m2 F
  |some c'=>
   rcases cof x c' F with⟨z,_⟩|⟨z,_⟩
   ·rcases dz z with q|⟨_,q⟩
    ·simp at q
    ·have a1:=aZ B.nd hx;have a2:=aZ B.nd q;rw[a1]at a2;cases a2
   ·rw[J]at z;rw[z]
 have kindC:∀x,(bj X sc s.heap.objs.size).kindOf x=Z .cell->(x,Nu)∈sc.names∨(x,Lz)∈sc.names:=λx e=>by
  have O:(bj X sc s.heap.objs.size).kindOf x=_:=cL (env:=X.env) (names:=sc.names) (x:=x);rw[O]at e
  cases F:sc.names.lookup x with
  |none=>rw[F]at e;cases e
  |some k=>
   rw[F]at e;have m:=LL F
   cases k with
   |cell=>exact .inl m
   |free=>exact .inr m
   |«local»=>simp at e
   |globalImplicit=>simp at e
   |globalExplicit=>simp at e
 have kindFr:∀x,(bj X sc s.heap.objs.size).kindOf x=Z .free->(x,Lz)∈sc.names:=λx e=>by
  have O:(bj X sc s.heap.objs.size).kindOf x=_:=cL (env:=X.env) (names:=sc.names) (x:=x);rw[O]at e
  cases F:sc.names.lookup x with
  |none=>rw[F]at e;cases e
  |some k=>
   rw[F]at e;have m:=LL F
   cases k with
   |free=>exact m
   |cell=>simp at e
   |«local»=>simp at e
   |globalImplicit=>simp at e
   |globalExplicit=>simp at e
 refine⟨⟨I.ok.mod,B.kind,I.ok.glob,I.ok.blt,L3 _,λy z c h1 h2=>?_,λy hy=>?_,λy c hf h=>?_,I.ok.hd,I.ok.frames,.inl rfl,λb U=>⟨?_,λx c e=>?_⟩,λb o e=>I.bs b o e,?_,λb o e U=>?_,λb U=>?_,I.stack,I.stkFree⟩,
  rfl,I.bare,Un.kept G,⟨_,(Heap.Ns.new s.heap (.type "dict")).keeps (Ss _ _),λi x v h1 h2 h3=>?_⟩,λy c h=>?_,I.hok.fresh (L3 _),λy c h=>?_,λp hp=>absurd (show p∈([]:List (VQ×Obj))from hp) (by simp),I.hok.kept G,?_⟩
 ·rcases cof y c h1 with⟨a1,a2⟩|⟨a1,a2⟩
  ·rcases cof z c h2 with⟨fv,b2⟩|⟨fv,b2⟩
   ·exact name_of_addr ok.apart a1 fv
   ·exact absurd (cOld z c fv) (Va.mpr (OF a2))
  ·rcases cof z c h2 with⟨fv,b2⟩|⟨fv,b2⟩
   ·exact absurd (cOld y c a1) (Va.mpr (OF b2))
   ·exact I.ok.inj y z c a1 fv
 ·have Iu:(y,Nu)∈sc.names∨(y,Lz)∈sc.names:=by
   rcases hy with hy|hy
   ·exact kindC y hy
   ·exact .inr (kindFr y hy)
  rcases Iu with q|q
  ·exact Oj.mp (OI sc.names _ _ (.inl (aZ B.nd q)))
  ·obtain⟨c,J⟩:=Oj.mp (gQ I B _ q rfl);exact⟨c,cellF y c q J⟩
 ·have Iv:(sc.names.lookup y==Z .cell)=N3:=hf;have Ir:sc.names.lookup y=Z .cell:=by simpa using Iv
  rcases cof y c h with⟨_,a2⟩|⟨_,a2⟩
  ·exact OF a2
  ·rw[aZ B.nd a2]at Ir;cases Ir
 ·exact Lc (Iq b U)
 ·rcases cof x c e with⟨_,a2⟩|⟨a1,_⟩
  ·exact Ml (Nat.lt_trans (Iq b U) a2)
  ·exact(f2 b U).2.2.2.2.1 x c a1
 ·exact Mu I.ok.bsz I.sz
 ·obtain⟨f0,f1,f3,f4,f5,f6⟩:=f2 b U
  rcases f4 with z|z
  ·exact I.ok.noex b o e z
  ·exact absurd (Lh (Lh (z4 e) I.ok.bsz) z) (Mh _)
 ·obtain⟨f0,f1,f3,f4,f5,f6⟩:=f2 b U;exactλz=>(KH.mp (I.stkSub b z)).elim f1 f3
 ·have hi:∃j,fr[i]?=Z (Z j)/\σ[j]?=Z (Z v):=by
   unfold inh at h2;rw[KL]at h2
   cases e:fr[i]? with
   |none=>rw[e]at h2;cases h2
   |some o=>
    rw[e]at h2
    cases o with
    |none=>cases h2
    |some j=>
     refine⟨j,rfl,?_⟩;have L:Z ((σ[j]?).join)=Z (Z v):=h2
     cases e':σ[j]? with
     |none=>rw[e']at L;cases L
     |some w=>rw[e']at L;cases L;rfl
  obtain⟨j,e1,O⟩:=hi;obtain⟨n1,n2⟩:=B.fr i j x h1 e1;obtain⟨m,hn,F⟩:=I.loc;have hv:Vis X.env.scope x:=.inr (B.free (x,.free) n2 rfl);obtain⟨u,ru,lk⟩:=F j x v n1 O hv;refine⟨u,ru,.inr ⟨kindF x n2,?_⟩⟩
  rcases lk with⟨k1,_⟩|⟨_,c,J,F2⟩
  ·have Is:X.env.scope.names.lookup x=Z .local:=k1
   rcases B.free (x,.free) n2 rfl with z|z
   ·rw[Is]at z;cases z
   ·rw[Is]at z;cases z
  ·exact⟨c,cellF x c n2 J,F2.keeps G⟩
 ·rcases cof y c h with⟨a1,a2⟩|⟨a1,a2⟩
  ·exact⟨_,(ok.empty y c a1).1⟩
  ·obtain⟨v,q⟩:=I.cell y c a1;exact⟨v,q.keeps G⟩
 ·rcases cof y c h with⟨a1,a2⟩|⟨a1,a2⟩
  ·exact I.hok.fresh (OF a2)
  ·exact I.freeC y c a1
 ·show(inh fr σ).length=N'.length;unfold inh;rw[q7];exact B.len
theorem mz{σ':St}{s':r0}(I:Inv X pins σ H s)(f2:∀b∈fp,cG X pins H b)(J:Inv (aR X sc N' s H fp) [] σ' H' s')(hs:My s.heap.objs.size s'.heap h'):
 Inv X pins σ H' {s' with heap:=h'}:=by
 have u:Un (frs X.stack) fp H H' s.heap s'.heap:=J.base;have ne:∀b o,s.heap.get? b=Z o->b≠s.heap.objs.size:=λb o e=>Lc (z4 e);refine I.call' (s':={s' with heap:=h'}) (ch:=fp) J.os ⟨λb o e n j hx=>?_,λb o e n j hx=>?_,u.free,λb o e hx=>?_,u.tups,u.frzs,u.tbls⟩ (λb v e=>?_) J.bare λb j=>?_
 ·exact(hs.2 b (ne b o e)).trans (u.keep b o e n j hx)
 ·obtain⟨sl,q⟩:=u.slot b o e n j hx;exact⟨sl,(hs.2 b (ne b o e)).trans q⟩
 ·obtain⟨o',q⟩:=u.there b o e hx;exact⟨o',(hs.2 b (ne b o e)).trans q⟩
 ·refine(J.hok b v e).stay (λc w F q=>(hs.2 c ?_).trans q) (λ_ q=>q) λ_ _ q=>q;have fr:H' s.heap.objs.size=Y:=J.free
  rcases F with z|z
  ·rw[z];intro B;rw[B,fr]at e;cases e
  ·intro B;rw[B,fr]at z;cases z
 ·obtain⟨f0,f1,O,f4,G,L⟩:=f2 b j;exact⟨f4,f1,G,L⟩
theorem nL {Q:Env->r0->Prop}{E:i3->r0->Prop}{M:Qf}{A:LD}(h:Q {scope:=sc,locals:=s.heap.objs.size,globals:=X.env.globals,cells:=Nq (s.heap.objs.size+1) sc.names (aC X.env.cells sc.names []),qual:=X.env.qual,func:=Y,code:=X.env.code,frame:=X.env.frame,builtins:=X.env.builtins}
   {s with heap:=Ur (s.heap.push {cls:=.type "dict",data:=.dict #[]}) sc.names}):
 KU M A (SO sc X.env.globals (aC X.env.cells sc.names []) [] X.env.qual Y .none (Z X.env)) Q E s:=by
 simp only[SO,TH,if_true];refine gV (wpAny_alloc ?_);refine gV (wpAny_layCells _ (λname kind cells=>by cases hkc:kind==Nu<;>simp[hkc]) _ _ _ _ ?_)
 rw[show({s with heap:=s.heap.push {cls:=.type "dict",data:=.dict #[]}}:r0).heap.objs.size=s.heap.objs.size+1 from MD ..]
 exact gV (y4 (y4 h))
theorem oO(hc:X.calm=N3){rest:List LZ}{E:i3->r0->Prop}(hx:∀e s,X.xe e s->False)(B:bh sc X.env.scope X.N N' fr)(ha:∀g',rest[0]?=Z g'->g'.is_async=0)(hi:PI X target iter wi){tb:VQ->TC}(hg:∀s H fp,PG (aR X sc N' s H fp) target g)(j:∀s H fp p,PB (aR X sc N' s H fp) (λk=>bw ifs (aR X sc N' s H fp).env>>=λok=>if ok=N3 then bg elt (⟨target,iter,ifs,0⟩::rest) sc pos 0 (.ref p) (aR X sc N' s H fp).env k else k) (tb p)){Nn:VQ->St->Hp->Prop}{RR:i3->VQ->V4->r0->Prop}(I:Inv X pins σ H s)(h:wi σ H λJ H1=>∀p,H1 p=Y->cI J g (tb p) (Nn p) (inh fr σ) (upd H1 p (.lst [])))(hR:∀p fp s3 O s' σ' H' f,Inv X pins σ O s3->(∀b∈fp,cG X pins O b)->Inv (aR X sc N' s3 O fp) [] σ' H' s'->Nn p σ' H'->RR (.ref p) s3.heap.objs.size (.ok f) s'):
 KU (model X.prog X.w) X.A (eval iter X.env) (λx s₁=>KU (model X.prog X.w) X.A (S0 x) (λit s₂=>KU (model X.prog X.w) X.A (newList []) (λacc s₃=>
  KU (model X.prog X.w) X.A (SO sc X.env.globals (aC X.env.cells sc.names []) [] X.env.qual Y .none (Z X.env)) (λcenv s₄=>OH (model X.prog X.w) X.A (.compStart (.ListComp elt (⟨target,iter,ifs,0⟩::rest) sc pos) 0 it acc {cenv with scope:=relabel sc X.env}) (RR acc cenv.locals) s₄) E s₃) E s₂) E s₁) E s:=by
 refine nox hx (thn (hi pins s σ H _ I h) λv s1 h1=>nox hx (thn h1 λitv s2 h2=>?_));obtain⟨it,fp,tn,J,H2,e,I2,T,F,f2,hw⟩:=h2;subst e;have hf:H2 s2.heap.objs.size=Y:=I2.hok.fresh (L3 _);refine Qr ?_;have I3:Inv X pins σ (upd H2 s2.heap.objs.size (.lst [])) {s2 with heap:=s2.heap.push {cls:=.type "list",dict:=Y,data:=.seq ([]:List i3).toArray}}:=I2.laid (t':=s2.toks) (λb u e=>p0 _ e) (L3 _) ⟨Nv _,[],0,.nil,KG _ rfl⟩
 have fneq:∀b∈fp,b≠s2.heap.objs.size:=λb j z=>by obtain⟨o,e,_⟩:=T.obj _ _ F b j;exact absurd (z4 e) (by rw[z];exact Mh _)
 have U:∀b∈fp,cG X pins (upd H2 s2.heap.objs.size (.lst [])) b:=λb j=>⟨by rw[ak (fneq b j)];exact(f2 b j).1,(f2 b j).2⟩
 have F2:∀b∈fp,b<(s2.heap.push {cls:=.type "list",dict:=Y,data:=.seq ([]:List i3).toArray}).objs.size:=λb j=>by obtain⟨o,e,_⟩:=T.obj _ _ F b j;rw[MD];exact Rm (z4 e)
 have fv:tn 0 (s2.heap.push {cls:=.type "list",dict:=Y,data:=.seq ([]:List i3).toArray}):=T.keep _ _ _ F λb _ o e=>p0 _ e;refine nL ?_;have L:=v9 (N':=N') I3 U F2 B;have G:=T.keep _ (h':=Ur (({s2 with heap:=s2.heap.push {cls:=.type "list",dict:=Y,data:=.seq ([]:List i3).toArray}}:r0).heap.push {cls:=.type "dict",data:=.dict #[]}) sc.names) _ fv λb _ o e=>Ss _ _ b o (p0 _ e)
 have f4:∀b∈fp,cG (aR X sc N' {s2 with heap:=s2.heap.push {cls:=.type "list",dict:=Y,data:=.seq ([]:List i3).toArray}} (upd H2 s2.heap.objs.size (.lst [])) fp) [] (upd H2 s2.heap.objs.size (.lst [])) b:=λb j=>⟨(U b j).1,(L.ok.exf b j).1,L.ok.exfs b j,.inl j,(L.ok.exf b j).2,λp hp=>absurd (show p∈([]:List (VQ×Obj))from hp) (by simp)⟩
 have loop:=mv (X:=aR X sc N' {s2 with heap:=s2.heap.push {cls:=.type "list",dict:=Y,data:=.seq ([]:List i3).toArray}} (upd H2 s2.heap.objs.size (.lst [])) fp) (λ_ _ z=>z) hc
  (elt:=elt) (pos:=pos) (scope:=sc) (gens:=⟨target,iter,ifs,0⟩::rest) (d:=0) (acc:=.ref s2.heap.objs.size) rfl (λg' e=>ha g' (by simpa using e)) (hg _ _ _) (j _ _ _ _) L T G f4 (hw _ hf)
 refine Ob (jK (R:=λr s'=>match r with|.ok _=>∃σ' H',Inv (aR X sc N' {s2 with heap:=s2.heap.push {cls:=.type "list",dict:=Y,data:=.seq ([]:List i3).toArray}} (upd H2 s2.heap.objs.size (.lst [])) fp) [] σ' H' s'/\Nn s2.heap.objs.size σ' H'|.error _=>False)
  (gens:=⟨target,iter,ifs,0⟩::rest) (d:=0) rfl loop (T.self _ 0 _ _ _ G loop)) λr s5 hr=>?_
 cases r with
 |error e=>exact hr.elim
 |ok f=>obtain⟨σ5,H5,I5,n5⟩:=hr;exact hR _ fp _ _ s5 σ5 H5 f I3 U I5 n5
noncomputable def tw(wi:TI)(g:TG)(tb:VQ->TC)(fr:List (Option Nat)):TE:=λσ H Q=>wi σ H λJ H1=>∀p,H1 p=Y->cI J g (tb p) (λ_ H2=>Q (.ref p) H2) (inh fr σ) (upd H1 p (.lst []))
theorem mC(B:bh sc X.env.scope X.N N' fr):∀x∈sc.names,x.2=.local->sc.names.lookup x.1=Z .local:=λx hx e=>by obtain⟨n,k⟩:=x;have e':k=.local:=e;subst e';exact aZ B.nd hx
theorem iY(z:X.calm=N3){rest:List LZ}(hx:∀e s,X.xe e s->False)(B:bh sc X.env.scope X.N N' fr)(F:∀g',rest[0]?=Z g'->g'.is_async=0)(hi:PI X target iter wi){tb:VQ->TC}(G:∀s H fp,PG (aR X sc N' s H fp) target g)(L:∀s H fp p,PB (aR X sc N' s H fp) (λk=>bw ifs (aR X sc N' s H fp).env>>=λok=>if ok=N3 then bg elt (⟨target,iter,ifs,0⟩::rest) sc pos 0 (.ref p) (aR X sc N' s H fp).env k else k) (tb p))(hs:∀x,Nx iter X.env x=pure x):
 PE X (.ListComp elt (⟨target,iter,ifs,0⟩::rest) sc pos) (tw wi g tb fr):=by
 intro pins s σ H Q I h;rw[eval_ListComp];refine Rx (use:=Y) rfl hs (fX (gQ I B)) B.kind (mC B) (oO (Nn:=λp _ H2=>Q (.ref p) H2) (RR:=λacc C=>compPost (model X.prog X.w) X.A X.xe Y (EP X pins σ Q) acc C) z hx B F hi G L I h ?_);intro p fp s3 fv s' σ' H' f O U J q;obtain⟨m,F2,_⟩:=J.loc;exact⟨m,F2,λh' j=>⟨.ref p,H',mz O U J j,rfl,q⟩⟩
theorem jL(hc:X.calm=N3){rest:List LZ}{spos:Pos}{i:Nat}(hx:∀e s,X.xe e s->False)(B:bh sc X.env.scope X.N N' fr)(ha:∀g',rest[0]?=Z g'->g'.is_async=0)(hi:PI X target iter wi){tb:VQ->TC}(hg:∀s H fp,PG (aR X sc N' s H fp) target g)(F:∀s H fp p,PB (aR X sc N' s H fp) (λk=>bw ifs (aR X sc N' s H fp).env>>=λok=>if ok=N3 then bg elt (⟨target,iter,ifs,0⟩::rest) sc pos 0 (.ref p) (aR X sc N' s H fp).env k else k) (tb p))(hs:∀x,Nx iter X.env x=pure x)(G:PG X (.Name x pos') (jx i))(L:Pa (.ListComp elt (⟨target,iter,ifs,0⟩::rest) sc pos) (Z (.Name x pos')) spos.line X.env=pure N3):
 PS X (.Assign [.Name x pos'] (.ListComp elt (⟨target,iter,ifs,0⟩::rest) sc pos) spos) (oD (tw wi g tb fr) (jx i)):=by
 intro pins s σ H D I h;rw[exec_Assign_Name_used _ _ _ _ L];refine gV (Oh (gV ?_));show KU _ X.A (do let _ <-comprehension (.ListComp elt (⟨target,iter,ifs,0⟩::rest) sc pos) sc X.env _ (newList []) VP (eval iter X.env) (Z (assign (.Name x pos') X.env))) _ _ s
 refine gV (Mj (Rx (use:=Z (assign (.Name x pos') X.env)) (Q:=λ_ s'=>SP X pins D .next s') rfl hs (fX (gQ I B)) B.kind (mC B)
  (oO (Nn:=λp _ H2=>D.nx (σ.set i (Z (.ref p))) H2) (RR:=λacc C=>compPost (model X.prog X.w) X.A X.xe (Z (assign (.Name x pos') X.env)) (λ_ s'=>SP X pins D .next s') acc C) hc hx B ha hi hg F I h ?_)) (λ_ s' hq=>y4 (y4 hq)) λ_ _ e=>e)
 intro p fp s3 H3 s' σ' H' f j f3 J q;obtain⟨m,⟨o,es,ep,ho,hd,hk,hm⟩,_⟩:=J.loc;have I4:Inv X pins σ H' s':=mz (h':=s'.heap) j f3 J ⟨rfl,λ_ _=>rfl⟩;have hL:(aR X sc N' s3 H3 fp).env.locals=s3.heap.objs.size:=rfl;rw[hL]at ho;have O:H' s3.heap.objs.size=Y:=J.free;have neL:s3.heap.objs.size≠X.env.locals:=Ml j.lt;have nfs:s3.heap.objs.size∉X.fs:=j.nofs (L3 _);have I5:Inv X (pins++[(s3.heap.objs.size,o)]) σ H' s':=I4.pins_of λpr U=>by
  rcases KQ.mp U with z|z
  ·exact I4.pin pr (Ld _ z)
  ·have e:pr=(s3.heap.objs.size,o):=by simpa using z
   subst e;exact⟨ho,O,neL,nfs,λv z=>by rw[hd]at z;cases z⟩
 show KU _ X.A (assign (.Name x pos') X.env (.ref p)) _ _ _;refine thn (G _ s' σ H' (.ref p) (.ref p) D.nx I5 rfl q) λ_ s6 g9=>?_;obtain⟨σ6,H6,I6,q6⟩:=g9;obtain⟨F2,fv,_⟩:=I6.pin (s3.heap.objs.size,o) (Ld _ (Ld _ (by simp)))
 refine⟨m,⟨o,es,ep,F2,hd,hk,hm⟩,λh' Iq=>⟨σ6,H6,?_,q6⟩⟩;refine(I6.unpinned).turned (t':=s6.toks) (it:=s3.heap.objs.size) (λb o F e=>(Iq.2 b F).trans e) fv neL (.inr j.sz) (λy c e z=>?_) λpr U z=>?_
 ·obtain⟨v,q⟩:=j.cell y c e;exact absurd q.lt (by rw[z];exact Mh _)
 ·exact absurd (z4 (j.pin pr U).1) (by rw[z];exact Mh _)
end
end
end
section
open PySem.W (CodeHd tabObj kla_fn kla_obj)
noncomputable def fzO(a:VQ)(o:Obj):HO:=.frz o (.ext λh=>h.get? a=Z o)
theorem va{h:Heap}{o:Obj}(e:h.get? a=Z o):ObjOk P w H h a (fzO a o):=⟨e,e,⟨o,e⟩,λ_ _ z k=>k _ z⟩
def oP(H:Hp)(P:VQ)(pos:Pos)(q:Str):Prop:=∃ps,H P=Z (.tbl ps)/\(ps=#[]∨∃c' oc vs t,ps=#[Nm pos.line,Nm pos.col,.ref c']/\H c'=Z (fzO c' oc)/\oc.data=.fields vs/\vs[1]?=Z (.str q t))
def FnAt(H:Hp)(a:VQ)(q:Str)(params:OW)(body:Expr)(scope:Scope)(cl:List (Str×VQ)):Prop:=∃pm c' ctv oc vs t,H a=Z (fzO a (kla_obj "<lambda>" q params body scope cl pm c' ctv))/\H c'=Z (fzO c' oc)/\oc.data=.fields vs/\vs[1]?=Z (.str q t)
def fj(mg:Str->Option i3)(base:Heap):Prop:=∃bm ob,mg "__builtins__"=Z (.ref bm)/\bm≠RY/\base.get? bm=Z ob/\ob.cls=.type "module"/\ob.dict=Z RY/\ob.data=.plain
section
variable{X:Cx}{pins:List (VQ×Obj)}{σ:St}{H:Hp}{s:r0}{c P:VQ}{params:OW}{body:Expr}{scope:Scope}{pos:Pos}{Q:i3->r0->Prop}{E:i3->r0->Prop}{q:Str}
theorem xX(I:Inv X pins σ H s)(F2:X.env.code=.ref c)(hC:CodeHd X.base c P)(hB:fj X.mg X.base)(hq:X.env.qual++"<lambda>"=q)(T:oP H P pos q)(O:∀x∈scope.names,x.2=.free->(X.env.cells.lookup x.1).isSome=N3)(fv:defaultsOf params X.env=([],[]))(h:∀(a:VQ) (H':Hp) (s':r0),Inv X pins σ H' s'->H a=Y->(∀b o,b≠P->H b=Z o->H' b=Z o)->oP H' P pos q->FnAt H' a q params body scope (aC X.env.cells scope.names [])->Q (.ref a) s'):
 KU (model X.prog X.w) X.A (eval (.Lambda params body scope pos) X.env) Q E s:=by
 obtain⟨ps,B,Iv⟩:=T;obtain⟨bm,ob,b1,b2,b3,b4,b5,b6⟩:=hB;have F:s.heap.get? P=Z (tabObj ps):=I.hok P _ B;have hg:s.heap.Ns Me X.mg:=I.mod.glob.keeps I.bk;have Iw:Me≠P:=λz=>by obtain⟨o,es,ep,e,hd,_⟩:=hg;rw[z,F]at e;cases e;cases hd
 have G:=I.bk _ _ b3;have Ix:bm≠P:=λz=>by rw[z,F]at G;cases G;cases b4
 have Iy:bm≠Me:=λz=>by obtain⟨o,es,ep,e,hd,_⟩:=hg;rw[<-z,G]at e;cases e;rw[hd]at b6;cases b6
 have Iq:s.heap.BuiltinsAt X.mg P:=⟨bm,ob,b1,b2,Iy,Ix,G,b4,b5,b6⟩;refine PySem.W.kla_eval fv ?_;rw[hq];have fin:∀(h':Heap) (tk:Tok) (c':VQ) (oc:Obj) (vs:Array i3) (t:Tok) (pm ctv:i3) (ps':Array i3),(∀b o,b≠P->s.heap.get? b=Z o->h'.get? b=Z o)->s.heap.objs.size<=h'.objs.size->h'.get? P=Z (tabObj ps')->(∃more,ps'=ps++more)->
  h'.get? c'=Z oc->oc.data=.fields vs->vs[1]?=Z (.str q t)->(H c'=Y/\s.heap.objs.size<=c'∨H c'=Z (fzO c' oc))->(ps'=#[Nm pos.line,Nm pos.col,.ref c'])->
  Q (.ref h'.objs.size) {s with heap:=h'.push (kla_obj "<lambda>" q params body scope (aC X.env.cells scope.names []) pm c' ctv),toks:=tk}:=by
  intro h' tk c' oc vs t pm ctv ps' hx hsz J hm j hd ht hc Ir;generalize ho:kla_obj "<lambda>" q params body scope (aC X.env.cells scope.names []) pm c' ctv=fo;obtain⟨more,rfl⟩:=hm;have na:H h'.objs.size=Y:=I.hok.fresh hsz;have Iz:c'≠h'.objs.size:=Lc (z4 j);have IA:c'≠P:=λz=>by rw[z,J]at j;cases j;rcases hc with⟨n,_⟩|n<;>(rw[z,B]at n;cases n)
  have IB:P≠h'.objs.size:=Lc (z4 J);have pu:∀{b o},h'.get? b=Z o->(h'.push fo).get? b=Z o:=λe=>p0 _ e
  let H':Hp:=upd (upd (upd H P (.tbl (ps++more))) c' (fzO c' oc)) h'.objs.size (fzO h'.objs.size fo)
  have eP:H' P=Z (.tbl (ps++more)):=by show upd _ _ _ P=_;rw[ak IB,ak (Ne.symm IA),aD]
  have ec:H' c'=Z (fzO c' oc):=by show upd _ _ _ c'=_;rw[ak Iz,aD]
  have ea:H' h'.objs.size=Z (fzO h'.objs.size fo):=aD;have eo:∀b,b≠P->b≠c'->b≠h'.objs.size->H' b=H b:=λb h1 h2 L=>by show upd _ _ _ b=_;rw[ak L,ak h2,ak h1]
  have kp:∀b o,b≠P->H b=Z o->H' b=Z o:=λb o h1 e=>by
   by_cases L:b=h'.objs.size
   ·subst L;rw[na]at e;cases e
   by_cases h2:b=c'
   ·subst h2
    rcases hc with⟨n,_⟩|n
    ·rw[n]at e;cases e
    ·rw[n]at e;cases e;exact ec
   ·rw[eo b h1 h2 L];exact e
  have nn:∀b o,s.heap.get? b=Z o->H b=Y->H' b=Y:=λb o e n=>by
   have h1:b≠P:=λz=>by rw[z,B]at n;cases n
   have L:b≠h'.objs.size:=Lc (Lh (z4 e) hsz);have h2:b≠c':=λz=>by
    rcases hc with⟨_,l⟩|m
    ·rw[z]at e;exact absurd (Lh (z4 e) l) (Mh _)
    ·rw[z,m]at n;cases n
   rw[eo b h1 h2 L];exact n
  have un:Un X.fs [] H H' s.heap (h'.push fo):=by
   refine⟨λb o e n _ _=>pu (hx b o (λz=>by rw[z,B]at n;cases n) e),λb o e n _ _=>⟨o.slots,pu (hx b o (λz=>by rw[z,B]at n;cases n) e)⟩,λb o e n _=>nn b o e n,λb o e _=>?_,λb xs e=>kp b _ (λz=>by rw[z,B]at e;cases e) e,λb o u e=>kp b _ (λz=>by rw[z,B]at e;cases e) e,λb IF e=>?_⟩
   ·by_cases z:b=P
    ·exact⟨_,z▸pu J⟩
    ·exact⟨o,pu (hx b o z e)⟩
   ·by_cases z:b=P
    ·subst z;rw[B]at e;cases e;exact⟨more,eP⟩
    ·exact⟨#[],by rw[kp b _ z e];simp⟩
  have hok:HOk X.prog X.w H' (h'.push fo):=λb o e=>by
   by_cases L:b=h'.objs.size
   ·subst L;rw[ea]at e;cases e;exact va (KG _ (by rw[<-ho];rfl))
   by_cases h2:b=c'
   ·subst h2;rw[ec]at e;cases e;exact va (pu j)
   by_cases h1:b=P
   ·subst h1;rw[eP]at e;cases e;exact pu J
   rw[eo b h1 h2 L]at e;refine(I.hok b o e).stay (λb' u hb z=>pu (hx b' u (λy=>?_) z)) (λb' z=>kp b' _ (λy=>by rw[y,B]at z;cases z) z) λb' xs z=>kp b' _ (λy=>by rw[y,B]at z;cases z) z
   rcases hb with rfl|hb
   ·exact h1 y
   ·rw[y,B]at hb;cases hb
  refine h _ H' _ (I.un un hok) na kp ⟨_,eP,.inr ⟨c',oc,vs,t,Ir,ec,hd,ht⟩⟩ ⟨pm,c',ctv,oc,vs,t,?_,ec,hd,ht⟩;rw[ho];exact ea
 have Is:=fX (scope:=scope) (env:=X.env) O
 rcases Iv with rfl|⟨c',oc,vs,t,rfl,j,hd,ht⟩
 ·refine PySem.W.kla_makeFunction (mg:=X.mg) Is I.ok.glob hg F2 (hC.keeps I.bk) F trivial rfl Iw Iq λc' ctv h' tk hx U IC Iu ID=>?_;obtain⟨c2,oc,vs,t,e2,IE,hd,hv⟩:=Iu
  cases e2
  exact fin h' tk c' oc vs t _ ctv _ (λb o n e=>hx b o n e) (Mu U (OF IC)) ID ⟨_,rfl⟩ IE hd hv (.inl ⟨I.hok.fresh U,U⟩) rfl
 ·refine PySem.W.kla_makeFunctionHit (cv:=.ref c') (mg:=X.mg) Is I.ok.glob hg F2 (hC.keeps I.bk) F trivial ?_ Iq λctv h' tk hk hsz=>?_
  ·simp[codeAmong,Nm]
  ·exact fin h' tk c' oc vs t _ ctv _ (λb o _ e=>hk b o e) hsz (hk _ _ F) ⟨#[],by simp⟩ (hk _ _ (I.hok c' _ j).1) hd ht (.inr j) rfl
end
open PySem.W (envX)
noncomputable def cxL(CX:CXT)(P:Lb)(w:Ly)(K:Frag)(mg:Str->Option i3)(base:Heap)(N:List Str)(q:Str)(scope:Scope)(a:VQ)(cd:i3)(cl:List (Str×VQ))(A:LD)(outer:List Env)(s:r0)(H:Hp)(E:XK):Cx where
 prog:=P
 w:=w
 K:=K
 mg:=mg
 base:=base
 A:=A.deeper (envX q scope s.heap.objs.size a cd cl)
 N:=N
 s₀:=s
 H₀:=H
 env:=envX q scope s.heap.objs.size a cd cl
 outer:=outer
 stack:=envX q scope s.heap.objs.size a cd cl::outer
 ex:=[]
 calm:=N3
 fn:=λ_=>VP
 pn:=[]
 xe:=λe s'=>KU (model P w) (A.deeper (envX q scope s.heap.objs.size a cd cl)) (leaving (envX q scope s.heap.objs.size a cd cl) e) (λ_ s''=>CX outer H s E e s'') (λe' s''=>CX outer H s E e' s'') s'
structure fY(xs:List Str)(y1 y2:Str)(sc:Scope):Prop where
 kind:sc.kind=.function
 co:sc.isCoroutine=VP
 gen:sc.isGenerator=VP
 ne:y1≠y2
 l1:sc.names.lookup y1=Z .local
 l2:sc.names.lookup y2=Z .local
 fr:∀x∈xs,sc.names.lookup x=Z .free
 nc:∀x∈sc.names,x.2≠.cell
 all:∀x,sc.names.lookup x=Z .free->x∈xs
structure rL(H:Hp)(h:Heap)(cl:List (Str×VQ))(xs:List Str)(gs:List V):Prop where
 inj:∀x y c,cl.lookup x=Z c->cl.lookup y=Z c->x=y
 free:∀x c,cl.lookup x=Z c->H c=Y
 isC:∀x c,cl.lookup x=Z c->∃v,h.IsCell c v
 val:∀(i:Nat) (x:Str) (v:V),xs[i]?=Z x->gs[i]?=Z v->∃c u,cl.lookup x=Z c/\h.IsCell c (Z u)/\RelV v u
 has:∀x∈xs,∃c,cl.lookup x=Z c
 len:gs.length=xs.length
section
variable{CX:CXT}{P:Lb}{w:Ly}{K:Frag}{mg:Str->Option i3}{base:Heap}{xs:List Str}{y1 y2 q:Str}{scope:Scope}{a:VQ}{cd:i3}{cl:List (Str×VQ)}{A:LD}{outer:List Env}{s:r0}{H:Hp}{E:XK}{u1 u2:i3}{v1 v2:V}{gs:List V}{h₁:Heap}{k:Nat}
theorem AI(S:fY xs y1 y2 scope)(hd:A.handled=Y)(F:gK P w K mg base A outer s H)(C:rL H s.heap cl xs gs)(F2:RelV v1 u1)(fv:RelV v2 u2)(L:h₁.Ns s.heap.objs.size λx=>([(y1,u1),(y2,u2)]:List (Str×i3)).reverse.lookup x)(J:∀b o,s.heap.get? b=Z o->h₁.get? b=Z o):
 Inv (cxL CX P w K mg base (xs++[y1,y2]) q scope a cd cl A outer s H E) [] ((gs++[v1,v2]).map Z) H {s with heap:=h₁,toks:=s.toks+2}:=by
 have noA:∀b:VQ,b∉(cxL CX P w K mg base (xs++[y1,y2]) q scope a cd cl A outer s H E).ex:=λb z=>absurd (show b∈([]:List VQ)from z) (by simp)
 refine⟨⟨F.mod,S.kind,rfl,rfl,L3 _,C.inj,λy G=>?_,λy c z _=>(by cases z),λ_=>hd,SK F.frames,.inr ⟨rfl,rfl⟩,λb z=>absurd z (noA b),F.bs,F.bsz,λb _ _=>noA b,λb z=>absurd z (noA b),F.funs,F.frf⟩,
  rfl,F.bare,Un.kept J,⟨_,L,λi y v h1 h2 h3=>?_⟩,λy c h=>?_,F.hok.fresh (L3 _),λy c h=>C.free y c h,λp hp=>absurd (show p∈([]:List (VQ×Obj))from hp) (by simp),F.hok.kept J,?_⟩
 ·have G:scope.names.lookup y=Z .cell∨scope.names.lookup y=Z .free:=G
  rcases G with G|G
  ·exact absurd rfl (S.nc _ (LL G))
  ·exact C.has y (S.all y G)
 ·rw[KL,Se]at h2;obtain⟨v',h2,e⟩:=h2
  cases e
  by_cases hi:i<xs.length
  ·have B:xs[i]?=Z y:=by rw[<-KS (l₂:=[y1,y2]) hi];exact h1
   rw[KS (by rw[C.len];exact hi)]at h2
   obtain⟨c,u,e1,⟨o,O,U⟩,e4⟩:=C.val i y v B h2;exact⟨u,e4,.inr ⟨.inr (S.fr y (L5 B)),c,e1,o,J _ _ O,U⟩⟩
  ·have B:([y1,y2]:List Str)[i-xs.length]?=Z y:=by rw[<-z0 (l₁:=xs) ∅];exact h1
   rw[z0 (by rw[C.len];lia),C.len]at h2
   generalize i-xs.length=j at B h2
   match j with
   |0=>
    cases B;cases h2
    refine⟨u1,F2,.inl ⟨S.l1,?_⟩⟩;simp[P6,S.ne,beq_eq_false_iff_ne.mpr S.ne]
   |1=>
    cases B;cases h2
    exact⟨u2,fv,.inl ⟨S.l2,by simp[P6]⟩⟩
   |_+2=>simp at B
 ·obtain⟨v,o,O,U⟩:=C.isC y c h;exact⟨v,o,J _ _ O,U⟩
 ·show((gs++[v1,v2]).map Z).length=(xs++[y1,y2]).length;simp[C.len]
theorem AJ{params:OW}{body:Expr}{Q:VK}(G:Room (k+1) A)(z:gK P w K mg base A outer s H)(F:FnAt H a q params body scope cl)(S:fY xs y1 y2 scope)(C:rL H s.heap cl xs gs)(fv:∀fd:N4,fd.params=params->fd.defaults=.none->fd.kwdefaults=.none->SJ fd ⟨[u1,u2],[]⟩=pure [(y1,u1),(y2,u2)])(r1:RelV v1 u1)(r2:RelV v2 u2)(j:∀cd,Room k (A.deeper (envX q scope s.heap.objs.size a cd cl))->∃t,PE (cxL CX P w K mg base (xs++[y1,y2]) q scope a cd cl A outer s H E) body t/\t ((gs++[v1,v2]).map Z) H Q):
 OH (model P w) A (.call (.ref a) ⟨[u1,u2],[]⟩) (CR CX outer P w H s Q E) s:=by
 obtain⟨pm,c',ctv,oc,vs',t',ea,ec,hd,ht⟩:=F;have L:=(z.hok a _ ea).1;have O:=(z.hok c' _ ec).1;have lim:s.heap.NoLimit:=z.mod.nolimit.keeps λb o e=>(z.bs b o e).1;refine PySem.W.kla_callFunE G.depth L rfl S.co S.gen rfl ⟨c',oc,vs',t',rfl,O,hd,ht⟩ ?_;rw[fv _ rfl rfl rfl];refine y4 (wpAny_newFunctionEnv S.nc (λy F2=>?_) (λh₁ U B=>⟨lim.fresh _ B,?_⟩) S.kind)
 ·simp only[KH,Lw,or_false]at F2
  rcases F2 with rfl|rfl
  ·exact S.l1
  ·exact S.l2
 show OH _ _ (.expr body (envX q scope s.heap.objs.size a (.ref c') cl)) _ _;have hk:∀b o,s.heap.get? b=Z o->h₁.get? b=Z o:=λb o e=>B.extBut b o (Lc (z4 e)) (p0 _ e);obtain⟨t,hp,hq⟩:=j (.ref c') (G.deeper _);have I:=AI (CX:=CX) (E:=E) (q:=q) (a:=a) (cd:=.ref c') S G.hd z C r1 r2 U hk;refine PySem.W.kla_codeExpr (Mj (hp [] _ _ H _ I hq) (λv s' hs=>?_) λe s' hs=>hs);obtain⟨v,H',J,rv,q⟩:=hs;exact⟨v,H',J.os,J.bare,J.base,J.hok,rv,q⟩
end
structure iq(P:Lb)(w:Ly)(K:Frag)(mg:Str->Option i3)(base:Heap)(k:Nat)(fs:List VQ)(a:VQ)(sp:Sp)(H:Hp)(h:Heap):Prop where
 fn:∃o fd,H a=Z (fzO a o)/\o.data=.func fd
 run:∀(A:LD) (outer:List Env) (s1:r0) (H1:Hp) (u1 u2:i3) (v1 v2:V) (Q:VK),Un fs [] H H1 h s1.heap->Room k A->gK P w K mg base A outer s1 H1->RelV v1 u1->RelV v2 u2->sp [v1,v2] H1 Q E0->
  OH (model P w) A (.call (.ref a) ⟨[u1,u2],[]⟩) (CR CX0 outer P w H1 s1 Q E0) s1
structure nN(P:Lb)(w:Ly)(K:Frag)(mg:Str->Option i3)(base:Heap)(k:Nat)(f:VQ)(fd:N4)(ps:List Str)(sp:List Env->r0->Sp):Prop where
 len:∀o s vs H Q E,sp o s vs H Q E->vs.length=ps.length
 run:∀(A:LD) (outer:List Env) (s:r0) (H:Hp) (args:Args) (us:List i3) (vs:List V) (Q:VK) (E:XK),Room k A->gK P w K mg base A outer s H->T7 s fd args (ps.zip us)->Vals vs us->sp outer s vs H Q E->
  OH (model P w) A (.call (.ref f) args) (CR CX0 outer P w H s Q E) s
end
variable{K:Frag}{f:VQ}{qual:Str}{N ps:List Str}
section
theorem CZ {mg:Str->Option i3}{base:Heap}{k:Nat}{name:Str}{params:OW}{body:List Stmt}{dV kV doc pm cdv ct oc:i3}{an od:Option VQ}{osl:Array (Option i3)}{sp:List Env->r0->Sp}(lk:K.lookup f=Z ⟨oc,od,.func (Nr name qual params body scope dV kV doc pm an cdv ct),osl⟩)(G:P4 K cdv qual=N3)(S:cD N ps scope)(len:∀o s vs H Q E,sp o s vs H Q E->vs.length=ps.length)(j:∀(A:LD) (outer:List Env) (s:r0) (H:Hp) (vs:List V) (Q:VK) (E:XK),Room k (A.deeper (Qi qual scope s.heap.objs.size f cdv))->sp outer s vs H Q E->
   ∃t,PSs (cz CX0 P w K mg base N qual scope f cdv A outer s H E) body t/\t {nx:=λ_ H'=>Q .non H',rt:=Q} (bE N vs) H):
 nN P w K mg base (k+1) f (Nr name qual params body scope dV kV doc pm an cdv ct) ps sp:=by
 refine⟨len,λA outer s H args us vs Q E L B O r F=>?_⟩;have U:=len _ _ _ _ _ _ F;have KX:K.In s.heap:=B.mod.kin.keeps λb o e=>(B.bs b o e).1;have lim:s.heap.NoLimit:=B.mod.nolimit.keeps λb o e=>(B.bs b o e).1;have z:∀y∈ps.zip us,scope.names.lookup y.1=Z .local∨(scope.names.lookup y.1=Z .cell/\((Nq (s.heap.objs.size+1) scope.names []).lookup y.1).isSome=N3):=λ⟨n,v⟩ hy=>by
  rcases S.par n (O6 hy).1 with q|q
  ·exact .inl q
  ·exact .inr ⟨q,OI _ _ _ (.inl q)⟩
 refine SA L.depth (KX _ _ lk) rfl S.co S.gen rfl (TB KX G) (O _ _ _ _ ?_);refine QU S.kind z λenv he s1 x=>?_;subst he;refine⟨lim.keeps x.toInCall.keep,codeAny_func ?_⟩;obtain⟨t,F2,fv⟩:=j A outer s H vs Q E (L.deeper _) F;have I:Inv (cz CX0 P w K mg base N qual scope f cdv A outer s H E) [] (bE N vs) H s1:=mf S L.hd B U r x;refine Mj (F2 [] s1 (bE N vs) H _ I fv) (λfl s' hs=>?_) λe s' hs=>hs;have fin:∀{σ':St} {H':Hp} {v:V} {u:i3},Inv (cz CX0 P w K mg base N qual scope f cdv A outer s H E) [] σ' H' s'->RelV v u->Q v H'->CE outer P w H s Q u s':=λ{σ' H' v u} J rv q=>⟨v,H',J.os,J.bare,J.base,J.hok,rv,q⟩
 cases fl with
 |ret u=>obtain⟨v,σ',H',J,rv,q⟩:=hs;exact fin J rv q
 |next=>obtain⟨σ',H',J,q⟩:=hs;exact fin (v:=V.non) (u:=MZ) J rfl q
 |brk=>obtain⟨_,_,_,q⟩:=hs;exact False.elim q
 |cont=>obtain⟨_,_,_,q⟩:=hs;exact False.elim q
end
variable{fd:N4}
section
open PySem.W (envX)
structure FunP(K:Frag)(x qual:Str)(st:Stmt)(f:VQ)(fd:N4)(P:VQ):Prop where
 ex:∃(oc:i3) (od:Option VQ) (kV doc pm:i3) (an:Option VQ) (c:VQ) (ct:i3) (osl:Array (Option i3)),
  fd=Nr x qual (cV st) (bv st) (al st) .none kV doc pm an (.ref c) ct/\K.lookup f=Z ⟨oc,od,.func fd,osl⟩/\P4 K (.ref c) qual=N3/\MN K c P=N3
section
variable{P:Lb}{w:Ly}{K:Frag}{mg:Str->Option i3}{base:Heap}{k:Nat}
theorem Fun.okS {st:Stmt}{sp:List Env->r0->Sp}(F:Fun K x qual st f fd)(S:cD N ps (al st))(len:∀o s vs H Q E,sp o s vs H Q E->vs.length=ps.length)(j:∀(cdv:i3) (A:LD) (outer:List Env) (s:r0) (H:Hp) (vs:List V) (Q:VK) (E:XK),Room k (A.deeper (Qi qual (al st) s.heap.objs.size f cdv))->sp outer s vs H Q E->
   ∃t,PSs (cz CX0 P w K mg base N qual (al st) f cdv A outer s H E).nox (bv st) t/\t {nx:=λ_ H'=>Q .non H',rt:=Q} (bE N vs) H):nN P w K mg base (k+1) f fd ps sp:=by
 obtain⟨oc,od,kV,doc,pm,an,cdv,ct,osl,rfl,lk,z⟩:=F.ex;refine CZ lk z S len λA outer s H vs Q E G B=>?_;obtain⟨t,h,q⟩:=j cdv A outer s H vs Q E G B;exact⟨t,h.nox,q⟩
theorem FunP.ok {st:Stmt}{sp:Sp}{T:VQ}(F:FunP K x qual st f fd T)(S:cD N ps (al st))(len:∀vs H Q E,sp vs H Q E->vs.length=ps.length)(j:∀(c:VQ) (A:LD) (outer:List Env) (s:r0) (H:Hp) (vs:List V) (Q:VK) (E:XK),MN K c T=N3->Room k (A.deeper (Qi qual (al st) s.heap.objs.size f (.ref c)))->sp vs H Q E->
   ∃t,PSs (cz CX0 P w K mg base N qual (al st) f (.ref c) A outer s H E).nox (bv st) t/\t {nx:=λ_ H'=>Q .non H',rt:=Q} (bE N vs) H):FnOk P w K mg base CX0 (k+1) f fd ps sp:=by
 obtain⟨oc,od,kV,doc,pm,an,c,ct,osl,rfl,lk,z,hd⟩:=F.ex;refine zS lk z S len λA outer s H vs Q E G B=>?_;obtain⟨t,h,q⟩:=j c A outer s H vs Q E hd G B;exact⟨t,h.nox,q⟩
end
section
variable{X:Cx}{pins:List (VQ×Obj)}{σ:St}{H:Hp}{s:r0}{a:VQ}{q:Str}{params:OW}{body:Expr}{scope:Scope}{xs:List Str}{y1 y2:Str}{js:List Nat}{gs:List V}{sp:Sp}{k:Nat}
theorem bP{cells:List (Str×VQ)}{names:List (Str×NU)}{c:VQ}(h:(aC cells names []).lookup x=Z c):cells.lookup x=Z c:=by
 rcases cJ (LL h)with z|z
 ·simp at z
 ·exact z.1
theorem mD{cells:List (Str×VQ)}{names:List (Str×NU)}{c:VQ}(j:cells.lookup x=Z c)(hx:(x,Lz)∈names):(aC cells names []).lookup x=Z c:=by
 have hm:=cK (acc:=[]) j (.inr hx)
 cases e:(aC cells names []).lookup x with
 |some c'=>have:=bP e;rw[j]at this;cases this;rfl
 |none=>rw[List.lookup_eq_none_iff]at e;have:=e _ hm;simp at this
theorem EK{a1 a2:Arg}{u1 u2:i3}(j:a1.arg≠a2.arg)(z:fd.params=⟨[],[a1,a2],Y,[],[],Y,[]⟩)(hd:fd.defaults=.none)(B:fd.kwdefaults=.none):SJ fd ⟨[u1,u2],[]⟩=pure [(a1.arg,u1),(a2.arg,u2)]:=by
 unfold SJ;have F:∀(x y:Str) (u v:i3),(([(x,u),(y,v)]:List (Str×i3)).lookup x).isNone=VP:=λx y u v=>by simp[P6]
 have G:∀(x y:Str) (u v:i3),(([(x,u),(y,v)]:List (Str×i3)).lookup y).isNone=VP:=λx y u v=>by
  simp only[P6]
  split<;>simp
 have J:seqItems? MZ=pure Y:=rfl;simp only[QZ,z,hd,B,Od,KY,Pu,NV,List.zip_nil_right,pure_bind,J,RE,LF,Nj,List.drop_nil,List.filter_cons,List.filter_nil,List.take,F,G];have L:(a2.arg==a1.arg)=VP:=beq_eq_false_iff_ne.mpr (Ne.symm j);simp[P6,L]
theorem xY (I:Inv X pins σ H s)(F:FnAt H a q params body scope (aC X.env.cells scope.names []))(S:fY xs y1 y2 scope)(z:∀x∈xs,X.env.scope.names.lookup x=Z .cell)(J:∀(i:Nat) (x:Str),xs[i]?=Z x->∃j:Nat,X.N[j]?=Z x/\∀v:V,gs[i]?=Z v->σ[j]?=Z (Z v))(hlen:gs.length=xs.length)(hb:∀(fd:N4) (u1 u2:i3),fd.params=params->fd.defaults=.none->fd.kwdefaults=.none->SJ fd ⟨[u1,u2],[]⟩=pure [(y1,u1),(y2,u2)])(G:∀(A:LD) (outer:List Env) (s1:r0) (H1:Hp) (v1 v2:V) (Q:VK) (cd:i3),Un (frs X.stack) [] H H1 s.heap s1.heap->sp [v1,v2] H1 Q E0->Room k (A.deeper (envX q scope s1.heap.objs.size a cd (aC X.env.cells scope.names [])))->
   ∃t,PE (cxL CX0 X.prog X.w X.K X.mg X.base (xs++[y1,y2]) q scope a cd (aC X.env.cells scope.names []) A outer s1 H1 E0) body t/\t ((gs++[v1,v2]).map Z) H1 Q):
 iq X.prog X.w X.K X.mg X.base (k+1) (frs X.stack) a sp H s.heap:=by
 refine⟨(by obtain⟨pm,c',ctv,oc,vs,t,B,_⟩:=F;exact⟨_,_,B,rfl⟩),?_⟩
 intro A outer s1 H1 u1 u2 v1 v2 Q un hr e0 r1 r2 L;have nf:∀{c:VQ} {v:Option i3},s.heap.IsCell c v->H c=Y->s1.heap.IsCell c v/\H1 c=Y:=λ{c v} g9 n=>by
  obtain⟨o,ho,hd⟩:=g9;obtain⟨sl,e⟩:=un.any ho n (by simp)
  exact⟨⟨_,e,hd⟩,un.free c o ho n (by simp)⟩
 have F1:FnAt H1 a q params body scope (aC X.env.cells scope.names []):=by obtain⟨pm,c',ctv,oc,vs,t,B,O,r⟩:=F;exact⟨pm,c',ctv,oc,vs,t,un.frzs _ _ _ B,un.frzs _ _ _ O,r⟩
 refine AJ hr e0 F1 S ⟨λx y c h1 h2=>I.ok.inj x y c (bP h1) (bP h2),λx c h=>?_,λx c h=>?_,λi x v h1 h2=>?_,λx hx=>?_,hlen⟩ (λfd h=>hb fd u1 u2 h) r1 r2 λcd U=>G A outer s1 H1 v1 v2 Q cd un L U
 ·obtain⟨v,F2⟩:=I.cell x c (bP h);exact(nf F2 (I.freeC x c (bP h))).2
 ·obtain⟨v,F2⟩:=I.cell x c (bP h);exact⟨v,(nf F2 (I.freeC x c (bP h))).1⟩
 ·obtain⟨j,n1,n2⟩:=J i x h1;obtain⟨m,_,hl⟩:=I.loc;have fv:=z x (L5 h1);obtain⟨u,rv,l⟩:=hl j x v n1 (n2 v h2) (.inr (.inl fv))
  rcases l with⟨l,_⟩|⟨_,c,B,O⟩
  ·have l:X.env.scope.names.lookup x=Z .local:=l;rw[fv]at l;cases l
  ·exact⟨c,u,mD B (LL (S.fr x (L5 h1))),(nf O (I.freeC x c B)).1,rv⟩
 ·obtain⟨c,B⟩:=I.ok.has x (.inl (z x hx));exact⟨c,mD B (LL (S.fr x hx))⟩
theorem xZ(hex:X.ex=[])(B:Room k X.A)(C:iq X.prog X.w X.K X.mg X.base k X.fs a sp X.H₀ X.s₀.heap):∀(pins:List (VQ×Obj)) (s:r0) (σ:St) (H:Hp) (v1 v2:V) (us:List i3) (Q:VK),Inv X pins σ H s->Vals [v1,v2] us->sp [v1,v2] H Q E0->U3 a s.heap/\KU (model X.prog X.w) X.A (call (.ref a) us) (EP X pins σ Q) X.xe s:=by
 intro pins s σ H v1 v2 us Q I r hsp;obtain⟨u1,j,rfl,F,r'⟩:∃u1 j,us=u1::j/\RelV v1 u1/\Vals [v2] j:=by cases r with|cons h t=>exact⟨_,_,rfl,h,t⟩
 obtain⟨u2,rfl,G⟩:∃u2,j=[u2]/\RelV v2 u2:=by cases r' with|cons h t=>cases t;exact⟨_,rfl,h⟩
 have un:Un X.fs [] X.H₀ H X.s₀.heap s.heap:=by have:=I.base;rw[hex]at this;exact this
 obtain⟨⟨o,fd,ea,hd⟩,C⟩:=C;have ea:=(I.hok a _ (un.frzs _ _ _ ea)).1;refine⟨by obtain⟨oc,od,dt,sl⟩:=o;cases hd;exact⟨oc,od,fd,sl,ea⟩,?_⟩
 refine Tx (Ob (C X.A X.stack s H u1 u2 v1 v2 Q un B I.env0 F G hsp) λr s' z=>?_)
 cases r with
 |error e=>exact z.elim
 |ok fl=>
  cases fl with
  |ret u=>exact I.after z
  |next=>exact False.elim z
  |brk=>exact False.elim z
  |cont=>exact False.elim z
end
end
section
open PySem.W (CodeHd tabObj)
structure nO(ts:List (VQ×VQ))(H:Hp):Prop where
 tab:∀q∈ts,H q.2=Z (.tbl #[])
 oth:∀b,H b=Y∨(∃o xs,H b=Z (.frz o (.lst xs)))∨∃q∈ts,b=q.2
def Scr(K:Frag)(H:Hp)(a:VQ)(xs:List V):Prop:=(∃o,H a=Z (.frz o (.lst xs)))∨∃(o:Obj) (its:Array i3) (n:Nat),K.lookup a=Z o/\o.cls=.type "list"/\o.dict=Y/\o.data=.seq its n/\its.size<=KJ/\Vals xs its.toList
theorem vc{mg mb:Str->Option i3}{k:Nat}{fa:VQ}{sp:Sp}{vs:List i3}{ns:List Int}{ts:List (VQ×VQ)}(KX:K.In s.heap)(F2:s.heap.Ns Me mg)(B:s.heap.Ns RY mb)(Is:∀x:Str,x≠"__name__"->mb x=OE x)(fv:s.heap.NoLimit)(hg:s.gens=#[])(hB:fj mg s.heap)(U:s.heap.get? a=Z {cls:=.type "list",data:=.seq vs.toArray})(hi:V0 vs ns)(hl:ns.length<=KJ)(hr:Room k T8)(J:∀q∈ts,CodeHd s.heap q.1 q.2/\s.heap.get? q.2=Z (tabObj #[])/\K.lookup q.2=Y)(F:∀base:Heap,K.In base->base.Ns Me mg->fj mg base->FnOk P w K mg base CX0 k fa fd [x] sp)(O:∀(s:r0) (u:i3),T7 s fd ⟨[u],[]⟩ [(x,u)])(Iu:∀H:Hp,nO ts H->Scr K H a (ns.map V.int)->sp [.ref a] H (λv _=>v=.bl N3) λ_ _ _=>False):
 OH (model P w) T8 (.call (.ref fa) ⟨[.ref a],[]⟩) (λr s'=>r=.ok (.ret (.bool N3))/\OldK s.heap s'.heap/\s'.os=s.os/\Rh s'.gens) s:=by
 have rv:=mn hi;have lenV:=hi.length;have Iq:∀q∈ts,a≠q.2:=λq j z=>by have e:=(J q j).2.1;rw[<-z,U]at e;cases e
 have core:∀H:Hp,nO ts H->Scr K H a (ns.map V.int)->HOk P w H s.heap->(∀b,H b≠Y->(b=a/\K.lookup a=Y)∨∃q∈ts,b=q.2)->
  OH (model P w) T8 (.call (.ref fa) ⟨[.ref a],[]⟩) (λr s'=>r=.ok (.ret (.bool N3))/\OldK s.heap s'.heap/\s'.os=s.os/\Rh s'.gens) s:=by
  intro H hO hS hok hA;have free:∀{b:VQ} {o:Obj},s.heap.get? b=Z o->(o.cls≠.none)->(b≠a∨K.lookup a≠Y)->H b=Y:=λ{b o} e hc hn=>by
   cases q:H b with
   |none=>rfl
   |some u=>
    rcases hA b (by rw[q];simp)with⟨z,z2⟩|⟨p,G,z⟩
    ·rcases hn with n|n
     ·exact absurd z n
     ·exact absurd z2 n
    ·rw[z,(J p G).2.1]at e;cases e;exact absurd rfl hc
  have dfree:∀{b:VQ} {o:Obj} {es:Array Md} {ep:Nat},s.heap.get? b=Z o->o.data=.dict es ep->H b=Y:=λ{b o es ep} e d=>by
   cases q:H b with
   |none=>rfl
   |some u=>
    rcases hA b (by rw[q];simp)with⟨z,_⟩|⟨p,G,z⟩
    ·rw[z,U]at e;cases e;cases d
    ·rw[z,(J p G).2.1]at e;cases e;cases d
  have nsK:∀{b:VQ} {m:Str->Option i3},s.heap.Ns b m->(fT s.heap H).Ns b m:=λ{b m} g9=>(by obtain⟨o,es,ep,e,d,r⟩:=g9;exact⟨o,es,ep,j7 e (dfree e d),d,r⟩)
  have Ir:K.In (fT s.heap H):=λb o e=>j7 (KX b o e) (by
   cases q:H b with
   |none=>rfl
   |some u=>
    rcases hA b (by rw[q];simp)with⟨z,z2⟩|⟨p,G,z⟩
    ·rw[z,z2]at e;cases e
    ·rw[z,(J p G).2.2]at e;cases e)
  have Iv:fj mg (fT s.heap H):=by
   obtain⟨bm,ob,b1,b2,b3,b4,b5,b6⟩:=hB;refine⟨bm,ob,b1,b2,j7 b3 (free b3 (by rw[b4];intro z;cases z) (.inl λz=>?_)),b4,b5,b6⟩
   rw[z,U]at b3;cases b3;cases b6
  have hM:Mod K mg (fT s.heap H):=⟨Ir,nsK F2,⟨mb,nsK B,Is⟩,let⟨mc,h1,h2⟩:=fv; ⟨mc,nsK h1,h2⟩⟩;have e0:gK P w K mg (fT s.heap H) T8 [] s H:=⟨rfl,hM,λb o e=>Ao e,Nat.le_of_eq (uM _ _),trivial,λb B=>absurd (show b∈([]:List VQ)from B) (by simp),hok,.of_eq hg⟩
  refine Ob ((F _ Ir (nsK F2) Iv).run T8 [] s H ⟨[.ref a],[]⟩ [.ref a] [.ref a] _ _ hr e0 (O s (.ref a)) (.cons rfl .nil) (Iu H hO hS)) λr s' h=>?_
  cases r with
  |error e=>exact h.elim
  |ok fl=>
   cases fl with
   |next=>exact False.elim h
   |brk=>exact False.elim h
   |cont=>exact False.elim h
   |ret u=>
    obtain⟨v,H',os,bare,un,L,r',q⟩:=h;have q':v=.bl N3:=q;subst q';obtain rfl:u=Tv N3:=r';refine⟨rfl,⟨λb o e=>?_,λb o e=>un.there b o e (by simp)⟩,os,bare⟩
    cases q:H b with
    |none=>exact .inl (un.keep b o e q (by intro z;exact absurd (show b∈([]:List VQ)from z) (by simp)) (by simp))
    |some u=>
     rcases hO.oth b with z|⟨ob,xs,z⟩|⟨p,G,rfl⟩
     ·rw[q]at z;cases z
     ·have z2:=un.frzs b ob _ z;obtain⟨e1,_⟩:=hok b _ z;obtain⟨e2,_⟩:=L b _ z2;rw[e]at e1;cases e1;exact .inl e2
     ·obtain⟨more,e2⟩:=un.tbls _ _ (hO.tab p G);have e3:s'.heap.get? p.2=Z (tabObj (#[]++more)):=L _ _ e2;have e4:=(J p G).2.1;rw[e]at e4;cases e4;exact .inr (.inl ⟨((J p G).1.tab (J p G).2.1).isCodeTable,rfl,#[],more,rfl,e3⟩)
 let T0:Hp:=λb=>if ts.any (λq=>decide (q.2=b))=N3 then Z (.tbl #[])else Y
 have t1:∀b,(∃q∈ts,b=q.2)->T0 b=Z (.tbl #[]):=λb ⟨q,j,z⟩=>if_pos (Mq.mpr ⟨q,j,decide_eq_true z.symm⟩);have t2:∀b,(¬∃q∈ts,b=q.2)->T0 b=Y:=λb hn=>if_neg λz=>by obtain⟨q,j,e⟩:=Mq.mp z;exact hn ⟨q,j,(of_decide_eq_true e).symm⟩
 have tok:∀{H:Hp} {b:VQ} {o:HO},T0 b=Z o->ObjOk P w H s.heap b o:=λ{H b o} e=>by
  by_cases z:∃q∈ts,b=q.2
  ·rw[t1 b z]at e;cases e;obtain⟨q,j,rfl⟩:=z;exact(J q j).2.1
  ·rw[t2 b z]at e;cases e
 have aT:¬∃q∈ts,a=q.2:=λ⟨q,j,z⟩=>Iq q j z
 cases hk:K.lookup a with
 |some o=>
  have e:=KX a o hk;rw[U]at e
  cases e
  refine core T0 ⟨λq j=>t1 _ ⟨q,j,rfl⟩,λb=>?_⟩ (.inr ⟨_,vs.toArray,_,hk,rfl,rfl,rfl,by rw[KR,lenV];exact hl,by simpa using rv⟩) (λb u z=>tok z) λb z=>?_
  ·by_cases z:∃q∈ts,b=q.2
   ·exact .inr (.inr z)
   ·exact .inl (t2 b z)
  ·by_cases y:∃q∈ts,b=q.2
   ·exact .inr y
   ·exact absurd (t2 b y) z
 |none=>
  refine core (upd T0 a (.frz {cls:=.type "list",data:=.seq vs.toArray} (.lst (ns.map V.int)))) ⟨λq j=>by rw[ak (Ne.symm (Iq q j))];exact t1 _ ⟨q,j,rfl⟩,λb=>?_⟩ (.inl ⟨_,aD⟩) (λb u z=>?_) λb z=>?_
  ·by_cases B:b=a
   ·subst B;exact .inr (.inl ⟨_,_,aD⟩)
   ·rw[ak B]
    by_cases z:∃q∈ts,b=q.2
    ·exact .inr (.inr z)
    ·exact .inl (t2 b z)
  ·by_cases B:b=a
   ·subst B;rw[aD]at z;cases z;exact⟨U,by rw[q7];exact hl,vs,_,rv,U⟩
   ·rw[ak B]at z;exact tok z
  ·by_cases B:b=a
   ·exact .inl ⟨B,hk⟩
   ·rw[ak B]at z
    by_cases y:∃q∈ts,b=q.2
    ·exact .inr y
    ·exact absurd (t2 b y) z
theorem walk_ofT {l:Su}{n k:Nat}{q:Lb}{loose:List Str}{XP:(Str->Option i3)->Heap->Prop}{YP:Ly->Heap->Prop}{d:DefRec}{K:Params->Frag}{sp:Ly->Sp}{ts:List (VQ×VQ)}(fv:l.most=Z n)(B:n<=KJ)(J:d.params.defaults=[])(hr:Room k T8)(hY:∀(w:Ly) (h:Heap),YP w h->(K w.params).In h/\∀p∈ts.map (·.2),h.get? p=Z (tabObj #[]))(j:∀(w:Ly),∀q∈ts,MN (K w.params) q.1 q.2=N3/\(K w.params).lookup q.2=Y)(F:∀(w:Ly) (mg:Str->Option i3) (fa:VQ) (h:Heap),(K w.params).In h->h.Ns Me mg->mg d.name=Z (.ref fa)->
   ∃fd:N4,(∀(s:r0) (u:i3),T7 s fd ⟨[u],[]⟩ [(x,u)]) /\
    ∀base:Heap,(K w.params).In base->base.Ns Me mg->fj mg base->FnOk l.prog w (K w.params) mg base CX0 k fa fd [x] (sp w))(L:∀(w:Ly) (H:Hp) (a:VQ) (ns:List Int),ns.length<=n->nO ts H->Scr (K w.params) H a (ns.map V.int)->sp w [.ref a] H (λv _=>v=.bl N3) λ_ _ _=>False):
 PySem.W.WalkO q loose XP YP l.row.toRowW d [] (λf vs=>V9 f vs):=by
 refine Att.attach_call fv J λw s₀ s₁ mg mb fa o pm cd doc a vs ns G F2 ho hd Iq O z hints hlen hg=>?_;obtain⟨KX,hT⟩:=hY w _ F2;obtain⟨fd,hb,hF⟩:=F w mg fa _ KX G.T.g O;exact vc KX G.T.g G.T.b G.T.builtins G.T.nolimit hg G.T.bmain z hints (Mu hlen B) hr (λq U=>⟨Tc KX (j w q U).1,hT q.2 (L6 U),(j w q U).2⟩) hF hb λH hO hS=>L w H a ns hlen hO hS
end
namespace Zp
def At(t:Bool)(h:Heap)(i l:VQ)(k:Nat):Prop:=match t with|true=>h.IsTupleIter i l k|false=>h.IsListIter i l k
def Sq(t:Bool)(h:Heap)(l:VQ)(xs:Array i3):Prop:=match t with|true=>h.IsTuple l xs|false=>h.IsList l xs
variable{h:Heap}{i l:VQ}
theorem At.up{t:Bool}{h':Heap}{k:Nat}(x:At t h i l k)(e:∀o,h.get? i=Z o->h'.get? i=Z o):At t h' i l k:=by cases t<;>(obtain⟨o,ho,r⟩:=x;exact⟨o,e o ho,r⟩)
variable{xs:Array i3}
theorem Sq.up{t:Bool}{h':Heap}(x:Sq t h l xs)(e:∀o,h.get? l=Z o->h'.get? l=Z o):Sq t h' l xs:=by cases t<;>(obtain⟨o,ho,r⟩:=x;exact⟨o,e o ho,r⟩)
theorem At.lt{t:Bool}{k:Nat}(x:At t h i l k):∃o,h.get? i=Z o/\∀v,o.data≠.cell v:=by cases t<;>(obtain⟨o,ho,j,hd⟩:=x;exact⟨o,ho,λv z=>by rw[hd]at z;cases z⟩)
variable{x p r:i3}{z T j a b:VQ}{u:Bool}{ys:Array i3}
section
variable{prog:Lb}{w:Ly}{A:LD}{E:i3->r0->Prop}{s:r0}
open Builtin.SmallTypes in
theorem y7{k:Nat}{Q:i3->r0->Prop}(hi:s.heap.IsTupleIter i l k)(L:s.heap.IsTuple l xs)(hx:xs[k]?=Z x)(q:∀h',h'.IsTupleIter i l (k+1)->My i s.heap h'->Q x {s with heap:=h'}):KU (model prog w) A (nextOf (.ref i)) Q E s:=by
 obtain⟨ob,z,B,j⟩:=id hi;obtain⟨oq,G,_,nq,J⟩:=L;unfold nextOf;refine gV (Lr (name:=Ll "__next__") hi.typeIs NW (LB NW hi.typeIs QK ?_ (Qz _)));refine gV (m:=field (.ref i) 0) (LG z j (x:=.ref l) rfl ?_);refine(if_neg (c:=(Lo l==MZ)=N3) KW)▸?_;refine gV (m:=field (.ref i) 1) (LG z j (x:=.int k 0) rfl ?_);refine gV (m:=seqItems? (.ref l)) (NX G J ?_);simp only[KO,hx];refine gV (wpAny_setField z j (by simp) (y4 ⟨x,rfl,y4 (q _ ⟨_,SD _ z (Obj.isFreed_of_fields (TJ j _)),(Obj.cls_mapFields ..).trans B,?_⟩ (Td ..))⟩))
 rw[TJ j];simp[Nm]
open Builtin.SmallTypes in
theorem AK{k:Nat}{Q:i3->r0->Prop}(J:A.handled=Y)(hi:s.heap.IsTupleIter i l k)(L:s.heap.IsTuple l xs)(hx:xs[k]?=Y)(q:∀h' e,UK i s.heap h'->(∃o,h'.get? e=Z o/\o.cls=.type "StopIteration")->E (.ref e) {s with heap:=h'}):KU (model prog w) A (nextOf (.ref i)) Q E s:=by
 obtain⟨ob,j,O,z⟩:=id hi;obtain⟨oq,B,_,nq,G⟩:=L;unfold nextOf;refine gV (Lr (name:=Ll "__next__") hi.typeIs NW (LB NW hi.typeIs QK ?_ (Qz _)));refine gV (m:=field (.ref i) 0) (LG j z (x:=.ref l) rfl ?_);refine(if_neg (c:=(Lo l==MZ)=N3) KW)▸?_;refine gV (m:=field (.ref i) 1) (LG j z (x:=.int k 0) rfl ?_);refine gV (m:=seqItems? (.ref l)) (NX B G ?_);simp only[KO,hx];refine gV (Nl (gV (wpAny_setField j z (by simp) ?_)))
 refine gV (m:=Vb (.type "StopIteration") []) ?_;simp only[Vb,Vc];refine gV (Ms ?_ (by size_fits))
 refine gV (m:=P7 _ _) (P5 (a:=MZ) (by first|rfl|(simp only[P7];rfl)) (Ms ?_ (by size_fits)))
 simp only[raiseNew];refine gV (Ti ?_)
 first|rw[show A.in1.handled=Y from J]|rw[J]
 exact gV (y4 (UL (q _ _ (((Td ..).extBut.push _).push _) ⟨_,KG _ rfl,rfl⟩)))
open Builtin.SmallTypes in
theorem dL{t:Bool}{k:Nat}{Q:i3->r0->Prop}(hi:At t s.heap i l k)(j:Sq t s.heap l xs)(hx:xs[k]?=Z x)(q:∀h',At t h' i l (k+1)->My i s.heap h'->Q x {s with heap:=h'}):KU (model prog w) A (nextOf (.ref i)) Q E s:=by
 cases t with
 |true=>exact y7 hi j hx q
 |false=>exact wpAny_nextOf_list_item hi j hx q
open Builtin.SmallTypes in
theorem nx_end{t:Bool}{k:Nat}{Q:i3->r0->Prop}(j:A.handled=Y)(hi:At t s.heap i l k)(z:Sq t s.heap l xs)(hx:xs[k]?=Y)(q:∀h' e,UK i s.heap h'->(∃o,h'.get? e=Z o/\o.cls=.type "StopIteration")->E (.ref e) {s with heap:=h'}):KU (model prog w) A (nextOf (.ref i)) Q E s:=by
 cases t with
 |true=>exact AK j hi z hx q
 |false=>exact wpAny_nextOf_list_end j hi z hx q
open Builtin.SmallTypes in
theorem D3 {O:VQ}{t:Bool}{k:Nat}{y:i3}{Q:i3->r0->Prop}(D:SQ z T O i j a b)(G:Ro s.heap z T O .none)(hT:Oq s.heap T (.ref i) (.ref j))(hO:Oq s.heap O p r)(hi:At t s.heap i a k)(hj:At u s.heap j b k)(ha:Sq t s.heap a xs)(hb:Sq u s.heap b ys)(hx:xs[k]?=Z x)(hy:ys[k]?=Z y)(q:∀h',Ro h' z T O (Nm s.heap.objs.size)->Oq h' O x y->At t h' i a (k+1)->At u h' j b (k+1)->Oq h' s.heap.objs.size x y->
   (∀c o,c≠z->c≠O->c≠i->c≠j->s.heap.get? c=Z o->h'.get? c=Z o)->Q (.ref s.heap.objs.size) {s with heap:=h'}):
 KU (model prog w) A (N9.«zip.__next__» ⟨[.ref z],[]⟩) (λfin s'=>∃v,fin=.done (.ret v)/\Q v s') E s:=by
 refine gV (m:=field (.ref z) 2) (LG G rfl (x:=.bool VP) rfl ?_);refine gV (m:=field (.ref z) 3) (LG G rfl (x:=.ref T) rfl ?_);refine gV (NX hT rfl ?_);refine gV (m:=ownedTupleIsFree (.ref z)) ?_;unfold ownedTupleIsFree;refine gV (LG G rfl (x:=.none) rfl (y4 ?_));simp only[if_true];refine gV (Nl (gV (LG G rfl (x:=.ref O) rfl (gV (Li G (by simp) λg1 z1 s1=>?_)))))
 have Z1:Ro g1 z T O .ellipsis:=z1;clear z1;refine gV ?_;simp only[RG,UU,OP,QZ];refine gV (gV (Ry (gV (m:=nextOf (.ref i)) ?_)));refine dL (hi.up λo e=>s1.extBut _ o D.i1z e) (ha.up λo e=>s1.extBut _ o D.l1z e) hx λg2 U s2=>y4 ?_;have O2:Oq g2 O p r:=s2.extBut _ _ D.TOi1 (s1.extBut _ _ D.TOz hO);refine gV (NX O2 rfl (gV (Qv O2 λg3 o3 s3=>?_)));have O3:Oq g3 O x r:=o3;clear o3;refine gV (Rp (y4 (gV (gV (Ry (gV (m:=nextOf (.ref j)) ?_))))));refine dL (hj.up λo e=>s3.extBut _ o D.TOi2.symm (s2.extBut _ o D.i12.symm (s1.extBut _ o D.i2z e))) (hb.up λo e=>s3.extBut _ o D.l2TO (s2.extBut _ o D.l2i1 (s1.extBut _ o D.l2z e))) hy λg4 F2 s4=>y4 ?_;have O4:Oq g4 O x r:=s4.extBut _ _ D.TOi2 O3;refine gV (NX O4 rfl (gV (Qv O4 λB o5 s5=>?_)));have O5:Oq B O x y:=o5;clear o5;refine gV (Rp (y4 (y4 (gV (NX O5 rfl (gV (PX ?_)))))));have sz:B.objs.size=s.heap.objs.size:=by rw[s5.1,s4.1,s3.1,s2.1,s1.1]
 have k5:∀c o,c≠z->c≠O->c≠i->c≠j->s.heap.get? c=Z o->B.get? c=Z o:=λc o F J fv c4 e=>s5.extBut _ _ J (s4.extBut _ _ c4 (s3.extBut _ _ J (s2.extBut _ _ fv (s1.extBut _ _ F e))))
 have Z5:Ro B z T O .ellipsis:=s5.extBut _ _ D.TOz.symm (s4.extBut _ _ D.i2z.symm (s3.extBut _ _ D.TOz.symm (s2.extBut _ _ D.i1z.symm Z1)));have I5:At t B i a (k+1):=U.up λo e=>s5.extBut _ o D.TOi1.symm (s4.extBut _ o D.i12 (s3.extBut _ o D.TOi1.symm e));have J5:At u B j b (k+1):=F2.up λo e=>s5.extBut _ o D.TOi2.symm e;have zl:z<B.objs.size:=z4 Z5;refine gV (m:=ownedTupleHandOut (.ref z) (.ref B.objs.size)) ?_;unfold ownedTupleHandOut;refine gV (Li (p0 _ Z5) (by simp) λg7 z7 s7=>?_)
 have Z7:Ro g7 z T O (Nm B.objs.size):=z7;clear z7;refine Li Z7 (by simp) λL z8 s8=>?_
 have Z8:Ro L z T O (Nm B.objs.size):=z8;clear z8;have up:∀c o,c≠z->B.get? c=Z o->L.get? c=Z o:=λc o F e=>s8.extBut _ _ F (s7.extBut _ _ F (p0 _ e));have P8:Oq L B.objs.size x y:=s8.extBut _ _ (Ml zl) (s7.extBut _ _ (Ml zl) (KG _ rfl));rw[sz]at Z8 P8;refine y4 ⟨_,rfl,?_⟩;show Q (.ref B.objs.size) _;rw[sz];exact q L Z8 (up _ _ D.TOz O5) (I5.up λo e=>up _ o D.i1z e) (J5.up λo e=>up _ o D.i2z e) P8 λc o F J fv c4 e=>up c o F (k5 c o F J fv c4 e)
open Builtin.SmallTypes in
theorem EL{O:VQ}{t:Bool}{k:Nat}{Q:Fin->r0->Prop}(hn:A.handled=Y)(D:SQ z T O i j a b)(G:Ro s.heap z T O .none)(hT:Oq s.heap T (.ref i) (.ref j))(hO:Oq s.heap O p r)(hi:At t s.heap i a k)(hj:At u s.heap j b k)(ha:Sq t s.heap a xs)(hb:Sq u s.heap b ys)(J:xs[k]?=Y∨ys[k]?=Y)(q:∀h' e,(∀c o,c≠z->c≠O->c≠i->c≠j->s.heap.get? c=Z o->h'.get? c=Z o)->(∃o,h'.get? e=Z o/\o.cls=.type "StopIteration")->E (.ref e) {s with heap:=h'}):
 KU (model prog w) A (N9.«zip.__next__» ⟨[.ref z],[]⟩) Q E s:=by
 refine gV (m:=field (.ref z) 2) (LG G rfl (x:=.bool VP) rfl ?_);refine gV (m:=field (.ref z) 3) (LG G rfl (x:=.ref T) rfl ?_);refine gV (NX hT rfl ?_);refine gV (m:=ownedTupleIsFree (.ref z)) ?_;unfold ownedTupleIsFree;refine gV (LG G rfl (x:=.none) rfl (y4 ?_));simp only[if_true];refine gV (Nl (gV (LG G rfl (x:=.ref O) rfl (gV (Li G (by simp) λg1 z1 s1=>?_)))))
 have Z1:Ro g1 z T O .ellipsis:=z1;clear z1;refine gV ?_;simp only[RG,UU,OP,QZ];refine gV (gV (Ry (gV (m:=nextOf (.ref i)) ?_)));have L:At t g1 i a k:=hi.up λo e=>s1.extBut _ o D.i1z e;have U:Sq t g1 a xs:=ha.up λo e=>s1.extBut _ o D.l1z e
 cases hx:xs[k]? with
 |none=>
  refine nx_end hn L U hx λg2 e s2 he=>?_;obtain⟨oe,B,F⟩:=he;have Z2:Ro g2 z T O .ellipsis:=s2 _ _ D.i1z.symm Z1;have ez:e≠z:=λx=>by subst x;rw[Z2]at B;cases B;simp at F
  exact Li Z2 (by simp) λg3 _ s3=>q g3 e (λc o F2 _ fv _ x=>s3.extBut _ _ F2 (s2 _ _ fv (s1.extBut _ _ F2 x))) ⟨oe,s3.extBut _ _ ez B,F⟩
 |some x=>
  have hy:ys[k]?=Y:=J.elim (λz=>by rw[hx]at z;cases z) id
  refine dL L U hx λg2 Iq s2=>y4 ?_;have O2:Oq g2 O p r:=s2.extBut _ _ D.TOi1 (s1.extBut _ _ D.TOz hO);refine gV (NX O2 rfl (gV (Qv O2 λg3 o3 s3=>?_)));refine gV (Rp (y4 (gV (gV (Ry (gV (m:=nextOf (.ref j)) ?_))))));refine nx_end hn (hj.up λo e=>s3.extBut _ o D.TOi2.symm (s2.extBut _ o D.i12.symm (s1.extBut _ o D.i2z e))) (hb.up λo e=>s3.extBut _ o D.l2TO (s2.extBut _ o D.l2i1 (s1.extBut _ o D.l2z e))) hy λg4 e s4 he=>?_;obtain⟨oe,B,F⟩:=he;have Z4:Ro g4 z T O .ellipsis:=s4 _ _ D.i2z.symm (s3.extBut _ _ D.TOz.symm (s2.extBut _ _ D.i1z.symm Z1));have ez:e≠z:=λx=>by subst x;rw[Z4]at B;cases B;simp at F
  exact Li Z4 (by simp) λg5 _ s5=>q g5 e (λc o F2 c2 fv c4 x=>s5.extBut _ _ F2 (s4 _ _ c4 (s3.extBut _ _ c2 (s2.extBut _ _ fv (s1.extBut _ _ F2 x))))) ⟨oe,s5.extBut _ _ ez B,F⟩
theorem nxt_item {O:VQ}{t:Bool}{k:Nat}{y:i3}{Q:Option i3->r0->Prop}(D:SQ z T O i j a b)(B:Ro s.heap z T O .none)(G:Oq s.heap T (.ref i) (.ref j))(J:Oq s.heap O p r)(hi:At t s.heap i a k)(L:At u s.heap j b k)(U:Sq t s.heap a xs)(F2:Sq u s.heap b ys)(hx:xs[k]?=Z x)(fv:ys[k]?=Z y)(q:∀h',Ro h' z T O (Nm s.heap.objs.size)->Oq h' O x y->At t h' i a (k+1)->At u h' j b (k+1)->Oq h' s.heap.objs.size x y->
   (∀c o,c≠z->c≠O->c≠i->c≠j->s.heap.get? c=Z o->h'.get? c=Z o)->Q (Z (.ref s.heap.objs.size)) {s with heap:=h'}):
 KU (model prog w) A (NS (.ref z)) Q E s:=by
 have ty:s.TypeIs (.ref z) "zip":=⟨_,B,rfl⟩;unfold NS;exact gV (NN (Lr (name:=Ll "__next__") ty QA (LB QA ty Us
  (D3 D B G J hi L U F2 hx fv λh' a1 a2 a3 a4 a5 a6=>y4 (q h' a1 a2 a3 a4 a5 a6)) (U4 _))))
theorem nxt_end{O:VQ}{t:Bool}{k:Nat}{Q:Option i3->r0->Prop}(J:A.handled=Y)(D:SQ z T O i j a b)(G:Ro s.heap z T O .none)(L:Oq s.heap T (.ref i) (.ref j))(U:Oq s.heap O p r)(hi:At t s.heap i a k)(F2:At u s.heap j b k)(fv:Sq t s.heap a xs)(hb:Sq u s.heap b ys)(B:xs[k]?=Y∨ys[k]?=Y)(q:∀h',(∀c o,c≠z->c≠O->c≠i->c≠j->s.heap.get? c=Z o->h'.get? c=Z o)->Q Y {s with heap:=h'}):KU (model prog w) A (NS (.ref z)) Q E s:=by
 have ty:s.TypeIs (.ref z) "zip":=⟨_,G,rfl⟩;unfold NS;refine gV (NN (Lr (name:=Ll "__next__") ty QA (LB QA ty Us
  (EL J D G L U hi F2 fv hb B λh' e hk he=>?_) (U4 _))))
 obtain⟨o,ho,hc⟩:=he;exact gV (Ox (T:="StopIteration") (b:=N3) ⟨o,ho,hc⟩ R0 (y4 (q _ hk)))
noncomputable def itO(t:Bool)(l:VQ):Obj:=match t with|true=>{cls:=.type "tuple_iterator",data:=.fields #[.ref l,.int 0 0]}|false=>{cls:=.type "list_iterator",data:=.fields #[.ref l,.int 0 0]}
noncomputable def zH1(h:Heap)(t:Bool)(a:VQ):Heap:=h.push (itO t a)
noncomputable def zH2(h:Heap)(t u:Bool)(a b:VQ):Heap:=(zH1 h t a).push (itO u b)
noncomputable def zH3(h:Heap)(t u:Bool)(a b:VQ):Heap:=(zH2 h t u a b).push {cls:=.type "tuple",data:=.seq #[.ref h.objs.size,.ref (zH1 h t a).objs.size]}
noncomputable def zH4(h:Heap)(t u:Bool)(a b:VQ):Heap:=(zH3 h t u a b).push {cls:=.type "tuple",data:=.seq #[.none,.none]}
noncomputable def zH5(h:Heap)(t u:Bool)(a b:VQ):Heap:=(zH4 h t u a b).push {cls:=.type "zip",data:=.fields #[.none,.bool VP,.bool VP,.ref (zH2 h t u a b).objs.size,.ref (zH3 h t u a b).objs.size]}
theorem vd(t u:Bool)(a b:VQ)(xs ys:Array i3):
 Meets (N9.«zip.__new__» ⟨[.type "zip",.ref a,.ref b],[]⟩) (λ_ R s=>Sq t s.heap a xs/\Sq u s.heap b ys/\R (.ok (.ret (.ref (zH4 s.heap t u a b).objs.size))) {s with heap:=zH5 s.heap t u a b}):=
 .of_wp λprog w A R s h=>by
  obtain⟨j,g,d,tk,os⟩:=s;obtain⟨F,G,h⟩:=h;have hs:=sub_zip
  cases t<;>cases u
  ·have z:SR (OD ⟨j,g,d,tk,os⟩) a xs:=F;have B:SR (OD ⟨j.push {cls:=.type "list_iterator",data:=.fields #[.ref a,.int 0 0]},g,d,tk,os⟩) b ys:=Ut G _
   wp_walk using Nb z,Nb B
   exact⟨_,rfl,h⟩
  ·have z:SR (OD ⟨j,g,d,tk,os⟩) a xs:=F;have B:QL (OD ⟨j.push {cls:=.type "list_iterator",data:=.fields #[.ref a,.int 0 0]},g,d,tk,os⟩) b ys:=U5 G _
   wp_walk using Nb z,MJ B
   exact⟨_,rfl,h⟩
  ·have z:QL (OD ⟨j,g,d,tk,os⟩) a xs:=F;have B:SR (OD ⟨j.push {cls:=.type "tuple_iterator",data:=.fields #[.ref a,.int 0 0]},g,d,tk,os⟩) b ys:=Ut G _
   wp_walk using MJ z,Nb B
   exact⟨_,rfl,h⟩
  ·have z:QL (OD ⟨j,g,d,tk,os⟩) a xs:=F;have B:QL (OD ⟨j.push {cls:=.type "tuple_iterator",data:=.fields #[.ref a,.int 0 0]},g,d,tk,os⟩) b ys:=U5 G _
   wp_walk using MJ z,MJ B
   exact⟨_,rfl,h⟩
theorem at_new{t:Bool}(e:h.get? i=Z (itO t l)):At t h i l 0:=by cases t<;>exact⟨_,e,rfl,rfl⟩
theorem call_zip {t:Bool}{Q:i3->r0->Prop}(ha:Sq t s.heap a xs)(hb:Sq u s.heap b ys)(q:∀h',Ro h' (s.heap.objs.size+4) (s.heap.objs.size+2) (s.heap.objs.size+3) .none->Oq h' (s.heap.objs.size+2) (.ref s.heap.objs.size) (.ref (s.heap.objs.size+1))->
   Oq h' (s.heap.objs.size+3) .none .none->At t h' s.heap.objs.size a 0->At u h' (s.heap.objs.size+1) b 0->h'.objs.size=s.heap.objs.size+5->
   (∀c o,s.heap.get? c=Z o->h'.get? c=Z o)->Q (.ref (s.heap.objs.size+4)) {s with heap:=h'}):
 KU (model prog w) A (call (.type "zip") [.ref a,.ref b]) Q E s:=by
 refine callType_new F.called_zip (by decide) (F.typeCall_zip_2 _ _) (F.newCall_zip_2 _ _) (λobj=>F.args_object_init_3 obj _ _) F.entry_zip_new (vd t u a b xs ys) ⟨ha,hb,?_⟩
 have B:(zH1 s.heap t a).objs.size=s.heap.objs.size+1:=MD ..;have G:(zH2 s.heap t u a b).objs.size=s.heap.objs.size+2:=by unfold zH2;rw[MD,B]
 have J:(zH3 s.heap t u a b).objs.size=s.heap.objs.size+3:=by unfold zH3;rw[MD,G]
 have L:(zH4 s.heap t u a b).objs.size=s.heap.objs.size+4:=by unfold zH4;rw[MD,J]
 have z5:(zH5 s.heap t u a b).objs.size=s.heap.objs.size+5:=by unfold zH5;rw[MD,L]
 have j:∀{c o},(zH4 s.heap t u a b).get? c=Z o->(zH5 s.heap t u a b).get? c=Z o:=λe=>p0 _ e;have z:∀{c o},(zH3 s.heap t u a b).get? c=Z o->(zH4 s.heap t u a b).get? c=Z o:=λe=>p0 _ e;have O:∀{c o},(zH2 s.heap t u a b).get? c=Z o->(zH3 s.heap t u a b).get? c=Z o:=λe=>p0 _ e;have F2:∀{c o},(zH1 s.heap t a).get? c=Z o->(zH2 s.heap t u a b).get? c=Z o:=λe=>p0 _ e;have k1:∀{c o},s.heap.get? c=Z o->(zH1 s.heap t a).get? c=Z o:=λe=>p0 _ e;have f:∀t l,(itO t l).isFreed=VP:=λt l=>by cases t<;>rfl
 have U:(zH5 s.heap t u a b).get? (zH4 s.heap t u a b).objs.size=Z _:=KG _ rfl;have fv:(zH5 s.heap t u a b).get? (zH3 s.heap t u a b).objs.size=Z _:=j (KG _ rfl);have g3:(zH5 s.heap t u a b).get? (zH2 s.heap t u a b).objs.size=Z _:=j (z (KG _ rfl));have g2:(zH5 s.heap t u a b).get? (zH1 s.heap t a).objs.size=Z _:=j (z (O (KG _ (f u b))));have g1:(zH5 s.heap t u a b).get? s.heap.objs.size=Z _:=j (z (O (F2 (KG _ (f t a)))));show _/\_;rw[G,J,L]at U;rw[B,G]at g3;rw[J]at fv;rw[B]at g2;rw[L];exact⟨⟨_,U,rfl⟩,q _ U g3 fv (at_new g1) (at_new g2) z5 λc o x=>j (z (O (F2 (k1 x))))⟩
end
end Zp
variable{elts:List Expr}
section
section
variable{X:Cx}{pins:List (VQ×Obj)}{σ:St}{H:Hp}{s:r0}{h':Heap}
theorem Inv.turnedL{fp:List VQ}(I:Inv X pins σ H s)(hf:∀b∈fp,cG X pins H b)(k:∀b o,b∉fp->s.heap.get? b=Z o->h'.get? b=Z o):Inv X pins σ H {s with heap:=h',toks:=t'}:=by
 have nit:∀b u,H b=Z u->b∉fp:=λb u e z=>by rw[(hf b z).1]at e;cases e
 refine I.step (g':=s.gens) (d':=s.drawn) (ch:=fp) (λb B=>?_) (λb o _ _ j e _=>k b o j e) (λb o _ _ j e _=>⟨o.slots,k b o j e⟩) (λ_ _ _ _ n=>n)
  (λb o j e=>⟨o,k b o j e⟩) (λ_ _ e=>e) (λ_ _ _ e=>e) (λb ps e=>⟨#[],by rw[e];simp⟩) (λm hm=>?_) (λb u e=>?_) I.bare
 ·obtain⟨_,f1,_,F,f4,G⟩:=hf b B;exact⟨F,f1,f4,G⟩
 ·obtain⟨o,es,ep,ho,r⟩:=hm;exact⟨o,es,ep,k _ o (λz=>(hf _ z).2.1 rfl) ho,r⟩
 ·refine(I.hok b u e).stay (λc v j q=>k c v ?_ q) (λ_ q=>q) λ_ _ q=>q
  rcases j with z|z
  ·rw[z];exact nit b u e
  ·exact nit c _ z
end
def SqV(K:Frag)(t:Bool)(H:Hp)(a:VQ)(xs:List V):Prop:=match t with|true=>SqT K H a xs|false=>SqL K H a xs
theorem Inv.sqv{t:Bool}{xs:List V}(I:Inv X pins σ H s)(h:SqV X.K t H a xs):∃its:List i3,Vals xs its/\Zp.Sq t s.heap a its.toArray:=by
 cases t with
 |true=>obtain⟨its,r,p,_⟩:=I.tuple h;exact⟨its,r,p⟩
 |false=>obtain⟨its,r,p,_⟩:=I.list h;exact⟨its,r,p.isList⟩
theorem Inv.sqv_inj{t:Bool}{xs ys:List V}(I:Inv X pins σ H s)(h:SqV X.K t H a xs)(h':SqV X.K t H a ys):xs=ys:=by
 cases t with
 |true=>exact I.tuple_inj h h'
 |false=>exact I.list_inj h h'
noncomputable def Itz(K:Frag)(t u:Bool)(a b:VQ):It:=
 ⟨λi H=>∃xs ys x y,SqV K t H a xs/\SqV K u H b ys/\xs[i]?=Z x/\ys[i]?=Z y,
  λi H v H'=>∃p x y,H p=Y/\v=.ref p/\H'=upd H p (.tup [x,y])/\∀xs ys,SqV K t H a xs->SqV K u H b ys->xs[i]?=Z x/\ys[i]?=Z y,
  λi H=>∃xs ys,SqV K t H a xs/\SqV K u H b ys/\(xs.length<=i∨ys.length<=i)⟩
theorem y8{cx}{t u:Bool}{z T O i j:VQ}(D:SQ z T O i j a b):
 j8 P w K (.Tuple elts cx pos) (Itz K t u a b) [z,T,O,i,j] z (λk h=>Ro h z T O .none/\Oq h T (.ref i) (.ref j)/\(∃p r,Oq h O p r)/\Zp.At t h i a k/\Zp.At u h j b k) where
 mem:=by simp
 obj:=λk h ⟨F,G,⟨p,r,J⟩,hi,L⟩ c B=>by
  simp only[KH,Lw,or_false]at B
  rcases B with rfl|rfl|rfl|rfl|rfl
  ·exact⟨_,F,λv e=>by cases e⟩
  ·exact⟨_,G,λv e=>by cases e⟩
  ·exact⟨_,J,λv e=>by cases e⟩
  ·exact hi.lt
  ·exact L.lt
 keep:=λk h h' g9 kk=>(by obtain⟨F,G,⟨p,r,J⟩,hi,L⟩:=g9;exact⟨kk z (by simp) _ F,kk T (by simp) _ G,⟨p,r,kk O (by simp) _ J⟩,hi.up λo e=>kk i (by simp) o e,L.up λo e=>kk j (by simp) o e⟩)
 item:=by
  intro X fv hw hK B k pins s σ H E I hf st hg;subst fv hw hK;obtain⟨F,G,⟨p,r,J⟩,hi,L⟩:=st;obtain⟨xs,ys,x,y,qx,qy,ex,ey⟩:=hg;obtain⟨is,rx,px⟩:=I.sqv qx;obtain⟨js,ry,py⟩:=I.sqv qy;obtain⟨ux,Iq,rux⟩:=rx.get ex;obtain⟨uy,Ir,ruy⟩:=ry.get ey;refine Zp.nxt_item D F G J hi L px py (by simpa using Iq) (by simpa using Ir) λh1 z1 o1 i1 j1 p1 F2=>⟨_,rfl,?_⟩
  refine wpAny_letOwnedTupleGo_zip (s:={s with heap:=h1}) z1 λh2 z2 s2=>?_
  have lt:∀{c o},s.heap.get? c=Z o->c≠s.heap.objs.size:=λe=>Lc (z4 e);have nz:s.heap.objs.size≠z:=(lt F).symm;have Is:∃o,s.heap.get? i=Z o:=hi.lt.imp λ_ h=>h.1;have Iu:∃o,s.heap.get? j=Z o:=L.lt.imp λ_ h=>h.1;have up:∀c o,c≠z->h1.get? c=Z o->h2.get? c=Z o:=λc o n e=>s2.extBut _ _ n e;have IL:Inv X pins σ (upd H s.heap.objs.size (.tup [x,y])) {s with heap:=s.heap.push {cls:=.type "tuple",data:=.seq #[ux,uy]},toks:=s.toks}:=I.laid (λb o e=>p0 _ e) (L3 _) ⟨by rw[D0];simp,[ux,uy],.cons rux (.cons ruy .nil),QR _ _⟩
  have fr:∀c∈[z,T,O,i,j],c≠s.heap.objs.size:=λc B=>by
   simp only[KH,Lw,or_false]at B
   rcases B with rfl|rfl|rfl|rfl|rfl
   ·exact lt F
   ·exact lt G
   ·exact lt J
   ·obtain⟨o,e⟩:=Is;exact lt e
   ·obtain⟨o,e⟩:=Iu;exact lt e
  have un:∀c∈[z,T,O,i,j],upd H s.heap.objs.size (.tup [x,y]) c=Y:=λc B=>by rw[ak (fr c B)];exact(hf c B).1
  have kk:∀c o,c∉[z,T,O,i,j]->(s.heap.push {cls:=.type "tuple",data:=.seq #[ux,uy]}).get? c=Z o->h2.get? c=Z o:=λc o B e=>by
   simp only[KH,Lw,or_false,not_or]at B
   rcases SS e with⟨rfl,rfl⟩|e
   ·exact up _ _ nz p1
   ·exact up _ _ B.1 (F2 c o B.1 B.2.2.1 B.2.2.2.1 B.2.2.2.2 e)
  have I2:Inv X pins σ (upd H s.heap.objs.size (.tup [x,y])) {s with heap:=h2,toks:=s.toks}:=(Inv.turnedL (s:={s with heap:=s.heap.push {cls:=.type "tuple",data:=.seq #[ux,uy]},toks:=s.toks}) (h':=h2) (t':=s.toks) (fp:=[z,T,O,i,j]) IL (λc B=>⟨un c B,(hf c B).2⟩) kk)
  refine⟨.ref s.heap.objs.size,_,I2,rfl,⟨_,x,y,I.hok.fresh (L3 _),rfl,rfl,λxs' ys' q1 q2=>?_⟩,⟨z2,up _ _ D.TIz (F2 _ _ D.TIz D.TITO D.TIi1 D.TIi2 G),⟨_,_,up _ _ D.TOz o1⟩,i1.up λo e=>up _ o D.i1z e,j1.up λo e=>up _ o D.i2z e⟩,un⟩;rw[I.sqv_inj q1 qx,I.sqv_inj q2 qy];exact⟨ex,ey⟩
 done:=by
  intro X fv hw hK B k pins s σ H E I hf st hg;subst fv hw hK;obtain⟨F,G,⟨p,r,J⟩,hi,L⟩:=st;obtain⟨xs,ys,qx,qy,U⟩:=hg;obtain⟨is,rx,px⟩:=I.sqv qx;obtain⟨js,ry,py⟩:=I.sqv qy;have lx:=rx.length;have ly:=ry.length;refine Zp.nxt_end (I.ok.hd B) D F G J hi L px py (U.imp (λe=>by simp;lia) (λe=>by simp;lia)) λh1 F2=>⟨rfl,I.turnedL (t':=s.toks) hf λc o B e=>?_⟩
  simp only[KH,Lw,or_false,not_or]at B;exact F2 c o B.1 B.2.2.1 B.2.2.2.1 B.2.2.2.2 e
 self:=λA k s Q E st h=>Uu st.1 h
section
variable{X:Cx}
noncomputable def G5(K:Frag)(ta:TA):TI:=λσ H R=>ta σ H λvs H1=>∃a b t u xs ys,vs=[.ref a,.ref b]/\SqV K t H1 a xs/\SqV K u H1 b ys/\R (Itz K t u a b) H1
theorem D4{cx}{p:Pos}{a b:Expr}{ta:TA}(G:Gl X "zip")(hm:X.mg "zip"=Y)(J:PA X [a,b] ta)(hs:Lg [a,b] X.env=[(VP,eval a X.env),(VP,eval b X.env)])(j:Lg [b] X.env=[(VP,eval b X.env)]):
 PI X (.Tuple elts cx pos) (.Call (.Name "zip" p) [a,b] [] pos') (G5 X.K ta):=by
 intro pins s σ H R I h;refine Call_ (dX I G hm (u:=.type "zip") (by decide +kernel) (NJ (thn (J pos' pins s σ H _ I h) λus s1 g9=>?_) (by rw[hs,j]) (by rw[j];rfl)));obtain⟨vs,H1,z,L,O⟩:=g9
 obtain⟨a',b',t,u,xs,ys,rfl,qx,qy,q⟩:=O
 cases L with
 |cons r rr=>
  cases rr with
  |cons r' rr=>
   cases rr
   cases r
   cases r'
   obtain⟨is,rx,px⟩:=z.sqv qx;obtain⟨js,ry,py⟩:=z.sqv qy;refine Zp.call_zip px py λh1 B t1 U F2 fv sz k1=>?_;refine Uu B ?_;have la:a'<s1.heap.objs.size:=by cases t<;>(obtain⟨o,e,_⟩:=px;exact z4 e)
   have lb:b'<s1.heap.objs.size:=by cases u<;>(obtain⟨o,e,_⟩:=py;exact z4 e)
   have D:SQ (s1.heap.objs.size+4) (s1.heap.objs.size+2) (s1.heap.objs.size+3) s1.heap.objs.size (s1.heap.objs.size+1) a' b':=by constructor<;>(intro e;subst_vars;first|lia|(simp only[VQ]at *;lia))
   refine⟨_,_,_,_,H1,rfl,z.kept (t':=s1.toks) k1,y8 (t:=t) (u:=u) D,⟨B,t1,⟨_,_,U⟩,F2,fv⟩,λc F=>?_,q⟩;have hle:s1.heap.objs.size<=c:=by
    simp only[KH,Lw,or_false]at F
    rcases F with rfl|rfl|rfl|rfl|rfl<;>lia
   exact z.fpOk hle (z.hok.fresh hle)
end
end
namespace Zp
end Zp
namespace En
variable{z i a:VQ}{xs:Array i3}{old:i3}
section
variable{prog:Lb}{w:Ly}{A:LD}{E:i3->r0->Prop}{s:r0}
open Builtin.SmallTypes Zp in
theorem D5 {t:Bool}{k:Nat}{x:i3}{Q:i3->r0->Prop}(U:Sg s.heap z i k old)(hi:At t s.heap i a k)(ha:Sq t s.heap a xs)(hx:xs[k]?=Z x)(j:z≠i)(q:∀h',Uv h' z i ((k:Int)+1) x s.heap.objs.size->At t h' i a (k+1)->h'.get? s.heap.objs.size=Z {cls:=.type "tuple",data:=.seq #[.int k s.toks,x]}->
   (∀b o,b≠z->b≠i->s.heap.get? b=Z o->h'.get? b=Z o)->Q (.ref s.heap.objs.size) {s with heap:=h',toks:=s.toks+1}):
 KU (model prog w) A (N9.«enumerate.__next__» ⟨[.ref z],[]⟩) (λfin s'=>∃v,fin=.done (.ret v)/\Q v s') E s:=by
 obtain⟨B,g,d,tk,os⟩:=s;refine gV (m:=field (.ref z) 2) (LG U rfl (x:=.ref i) rfl (gV (dL hi ha hx λg1 i1 s1=>?_)));have S1:My i B g1:=s1;clear s1;have F2:Sg g1 z i k old:=(S1.2 z j).trans U;refine gV (m:=field (.ref z) 3) (LG (s:=⟨g1,g,d,tk,os⟩) F2 rfl (x:=Nm k) rfl ?_);refine gV (m:=field (.ref z) 4) (LG (s:=⟨g1,g,d,tk,os⟩) F2 rfl (x:=.none) rfl ?_);refine gV (m:=mkInt k) (wpAny_mkInt ?_);refine gV (m:=setField (.ref z) 3 (Nm ((k:Int)+1))) (Li (s:=⟨g1,g,d,tk+1,os⟩) F2 (by simp) λg2 z2 s2=>?_)
 have fv:My z g1 g2:=s2;have Z2:Sg g2 z i ((k:Int)+1) old:=z2;clear s2 z2;refine gV (m:=setField (.ref z) 4 .none) (Li (s:=⟨g2,g,d,tk+1,os⟩) Z2 (by simp) λg3 z3 s3=>?_)
 have S3:My z g2 g3:=s3;have Z3:Sg g3 z i ((k:Int)+1) old:=z3;clear s3 z3;refine gV (m:=Vc [.int k tk,x]) (PX ?_);have G:Sg (g3.push {cls:=.type "tuple",data:=.seq #[.int k tk,x]}) z i ((k:Int)+1) old:=p0 _ Z3;have sz:g3.objs.size=B.objs.size:=by rw[S3.1,fv.1,S1.1]
 have zl:z<B.objs.size:=z4 U;have T4:(g3.push {cls:=.type "tuple",data:=.seq #[.int k tk,x]}).get? B.objs.size=Z {cls:=.type "tuple",data:=.seq #[.int k tk,x]}:=by rw[<-sz];exact KG _ rfl
 have K4:∀b o,b≠z->b≠i->B.get? b=Z o->(g3.push {cls:=.type "tuple",data:=.seq #[.int k tk,x]}).get? b=Z o:=λb o bz bi e=>p0 _ (S3.extBut b o bz (fv.extBut b o bz (S1.extBut b o bi e)))
 have I4:At t (g3.push {cls:=.type "tuple",data:=.seq #[.int k tk,x]}) i a (k+1):=i1.up λo e=>p0 _ (S3.extBut i o j.symm (fv.extBut i o j.symm e));rw[sz];generalize g3.push {cls:=.type "tuple",data:=.seq #[.int k tk,x]}=F at G T4 K4 I4;refine gV (m:=ownedTupleIsFree (.ref z)) ?_;unfold ownedTupleIsFree;refine gV (LG (s:=⟨F,g,d,tk+1,os⟩) G rfl (x:=.none) rfl (y4 ?_));simp only[if_true];refine gV (Nl (gV (LG (s:=⟨F,g,d,tk+1,os⟩) G rfl (x:=old) rfl (gV (Li (s:=⟨F,g,d,tk+1,os⟩) G (by simp) λJ z5 s5=>?_)))))
 have S5:My z F J:=s5;have Z5:Sg J z i ((k:Int)+1) x:=z5;clear s5 z5;refine gV (m:=ownedTupleHandOut (.ref z) (.ref B.objs.size)) ?_;unfold ownedTupleHandOut;refine gV (Li (s:=⟨J,g,d,tk+1,os⟩) Z5 (by simp) λL z6 s6=>?_)
 have S6:My z J L:=s6;have Z6:Uv L z i ((k:Int)+1) x B.objs.size:=z6;clear s6 z6;refine Li (s:=⟨L,g,d,tk+1,os⟩) Z6 (by simp) λO z7 s7=>?_
 have S7:My z L O:=s7;have Z7:Uv O z i ((k:Int)+1) x B.objs.size:=z7;clear s7 z7;have up:∀b o,b≠z->F.get? b=Z o->O.get? b=Z o:=λb o bz e=>S7.extBut b o bz (S6.extBut b o bz (S5.extBut b o bz e));exact gV (Rp (y4 ⟨_,rfl,q O Z7 (I4.up λo e=>up i o j.symm e) (up _ _ (Ml zl) T4) λb o bz bi e=>up b o bz (K4 b o bz bi e)⟩))
theorem nxt_item {t:Bool}{k:Nat}{x:i3}{Q:Option i3->r0->Prop}(B:Sg s.heap z i k old)(hi:Zp.At t s.heap i a k)(G:Zp.Sq t s.heap a xs)(hx:xs[k]?=Z x)(j:z≠i)(q:∀h',Uv h' z i ((k:Int)+1) x s.heap.objs.size->Zp.At t h' i a (k+1)->h'.get? s.heap.objs.size=Z {cls:=.type "tuple",data:=.seq #[.int k s.toks,x]}->
   (∀b o,b≠z->b≠i->s.heap.get? b=Z o->h'.get? b=Z o)->Q (Z (.ref s.heap.objs.size)) {s with heap:=h',toks:=s.toks+1}):
 KU (model prog w) A (NS (.ref z)) Q E s:=by
 have ty:s.TypeIs (.ref z) "enumerate":=⟨_,B,rfl⟩;unfold NS;exact gV (NN (Lr (name:=Ll "__next__") ty OX (LB OX ty Si
  (D5 B hi G hx j λh' a1 a2 J L=>y4 (q h' a1 a2 J L)) (RH _))))
theorem nxt_end{t:Bool}{k:Nat}{Q:Option i3->r0->Prop}(B:A.handled=Y)(j:Sg s.heap z i k old)(hi:Zp.At t s.heap i a k)(G:Zp.Sq t s.heap a xs)(hx:xs[k]?=Y)(q:∀h',UK i s.heap h'->Q Y {s with heap:=h'}):KU (model prog w) A (NS (.ref z)) Q E s:=by have ty:s.TypeIs (.ref z) "enumerate":=⟨_,j,rfl⟩;unfold NS;refine gV (NN (Lr (name:=Ll "__next__") ty OX (LB OX ty Si ?_ (RH _))));refine gV (m:=field (.ref z) 2) (LG j rfl (x:=.ref i) rfl (gV (Zp.nx_end B hi G hx λh' x he hs=>?_)));obtain⟨o,ho,J⟩:=hs;exact gV (Ox (T:="StopIteration") (b:=N3) ⟨o,ho,J⟩ R0 (y4 (q _ he)))
open AutoSeq1 (wpAny_loadPart') in
theorem AL(l:VQ)(items:Array i3)(n:Nat)(dct:Option VQ)(sl:Array (Option i3)):
 Meets (N9.«enumerate.__new__» ⟨[.type "enumerate",.ref l],[]⟩) (λ_ R s=>s.heap.get? l=Z {cls:=.type "tuple",dict:=dct,data:=.seq items n,slots:=sl} /\
  R (.ok (.ret (.ref (s.heap.push (Zp.itO N3 l)).objs.size))) {s with heap:=(s.heap.push (Zp.itO N3 l)).push {cls:=.type "enumerate",data:=.fields #[.none,.bool VP,.ref s.heap.objs.size,Nm 0,.none,.none]}}):=
 .of_wp λprog w A R s h=>by
  obtain⟨F,g,d,tk,os⟩:=s;obtain⟨j,h⟩:=h;have z:=sub_enumerate;have B:QL (OD ⟨F,g,d,tk,os⟩) l items:=⟨_,j,rfl,n,rfl⟩
  wp_walk using OQ j
  refine wpAny_stack_any λst=>y4 ?_
  split
  ·rename_i c _ _ _ _ _
   cases(c==LK "enumerate")<;>(wp_walk using OQ j,MJ B;exact⟨_,rfl,h⟩)
  ·wp_walk using OQ j,MJ B
   exact⟨_,rfl,h⟩
theorem call_enum{t:Bool}{l:VQ}{items:Array i3}{Q:i3->r0->Prop}(B:Zp.Sq t s.heap l items)(q:∀h',Sg h' (s.heap.objs.size+1) s.heap.objs.size 0 .none->Zp.At t h' s.heap.objs.size l 0->(∀b o,s.heap.get? b=Z o->h'.get? b=Z o)->Q (.ref (s.heap.objs.size+1)) {s with heap:=h'}):
 KU (model prog w) A (call (.type "enumerate") [.ref l]) Q E s:=by
 cases t with
 |false=>exact call_enumerate_list B λh' a b _ k=>q h' a b k
 |true=>
  obtain⟨⟨c,dct,dt,sl⟩,J,L,n,hd⟩:=B;have j:c=.type "tuple":=L;have z:dt=.seq items n:=hd;subst j z;refine callType_new F.called_enumerate (by decide) (F.typeCall_enumerate_1 _) (F.newCall_enumerate_1 _) (λobj=>F.args_object_init_2 obj _) F.entry_enumerate_new (AL l items n dct sl) ⟨J,?_⟩
  have G:(s.heap.push (Zp.itO N3 l)).objs.size=s.heap.objs.size+1:=MD ..;have e:((s.heap.push (Zp.itO N3 l)).push {cls:=.type "enumerate",data:=.fields #[.none,.bool VP,.ref s.heap.objs.size,Nm 0,.none,.none]}).get? (s.heap.push (Zp.itO N3 l)).objs.size=Z _:=KG _ rfl;rw[G]at e;show _/\_;rw[G];exact⟨⟨_,e,rfl⟩,q _ e (Zp.at_new (p0 _ (KG _ rfl))) λb o x=>p0 _ (p0 _ x)⟩
end
end En
noncomputable def Ite(K:Frag)(t:Bool)(a:VQ):It:=
 ⟨λi H=>∃xs x,SqV K t H a xs/\xs[i]?=Z x,
  λi H v H'=>∃p x,H p=Y/\v=.ref p/\H'=upd H p (.tup [.int (i:Nat),x])/\∀xs,SqV K t H a xs->xs[i]?=Z x,
  λi H=>∃xs,SqV K t H a xs/\xs.length<=i⟩
theorem ve{cx}{t:Bool}{z i:VQ}(F:z≠i):
 j8 P w K (.Tuple elts cx pos) (Ite K t a) [z,i] z (λk h=>(∃old,Sg h z i k old)/\Zp.At t h i a k) where
 mem:=by simp
 obj:=λk h ⟨⟨old,B⟩,hi⟩ c j=>by
  simp only[KH,Lw,or_false]at j
  rcases j with rfl|rfl
  ·exact⟨_,B,λv e=>by cases e⟩
  ·exact hi.lt
 keep:=λk h h' G kk=>(by obtain⟨⟨old,B⟩,hi⟩:=G;exact⟨⟨old,kk z (by simp) _ B⟩,hi.up λo e=>kk i (by simp) o e⟩)
 item:=by
  intro X J hw L j k pins s σ H E I hf st hg;subst J hw L;obtain⟨⟨old,B⟩,hi⟩:=st;obtain⟨xs,x,qx,ex⟩:=hg;obtain⟨is,rx,px⟩:=I.sqv qx;obtain⟨ux,O,rux⟩:=rx.get ex;refine En.nxt_item B hi px (by simpa using O) F λh1 z1 i1 p1 U=>⟨_,rfl,?_⟩
  refine wpAny_letOwnedTupleGo_enum (s:={s with heap:=h1,toks:=s.toks+1}) z1 λh2 z2 s2=>?_
  have lt:∀{c o},s.heap.get? c=Z o->c≠s.heap.objs.size:=λe=>Lc (z4 e);have nz:s.heap.objs.size≠z:=(lt B).symm;have F2:∃o,s.heap.get? i=Z o:=hi.lt.imp λ_ h=>h.1;have up:∀c o,c≠z->h1.get? c=Z o->h2.get? c=Z o:=λc o n e=>s2.extBut _ _ n e;have IL:Inv X pins σ (upd H s.heap.objs.size (.tup [.int (k:Nat),x])) {s with heap:=s.heap.push {cls:=.type "tuple",data:=.seq #[.int k s.toks,ux]},toks:=s.toks+1}:=I.laid (λb o e=>p0 _ e) (L3 _) ⟨by rw[D0];simp,[.int k s.toks,ux],.cons ⟨_,rfl⟩ (.cons rux .nil),QR _ _⟩
  have fr:∀c∈[z,i],c≠s.heap.objs.size:=λc j=>by
   simp only[KH,Lw,or_false]at j
   rcases j with rfl|rfl
   ·exact lt B
   ·obtain⟨o,e⟩:=F2;exact lt e
  have un:∀c∈[z,i],upd H s.heap.objs.size (.tup [.int (k:Nat),x]) c=Y:=λc j=>by rw[ak (fr c j)];exact(hf c j).1
  have kk:∀c o,c∉[z,i]->(s.heap.push {cls:=.type "tuple",data:=.seq #[.int k s.toks,ux]}).get? c=Z o->h2.get? c=Z o:=λc o j e=>by
   simp only[KH,Lw,or_false,not_or]at j
   rcases SS e with⟨rfl,rfl⟩|e
   ·exact up _ _ nz p1
   ·exact up _ _ j.1 (U c o j.1 j.2 e)
  have I2:Inv X pins σ (upd H s.heap.objs.size (.tup [.int (k:Nat),x])) {s with heap:=h2,toks:=s.toks+1}:=Inv.turnedL (s:={s with heap:=s.heap.push {cls:=.type "tuple",data:=.seq #[.int k s.toks,ux]},toks:=s.toks+1}) (h':=h2) (t':=s.toks+1) (fp:=[z,i]) IL (λc j=>⟨un c j,(hf c j).2⟩) kk
  refine⟨.ref s.heap.objs.size,_,I2,rfl,⟨_,x,I.hok.fresh (L3 _),rfl,rfl,λxs' q1=>?_⟩,⟨⟨ux,by simpa using z2⟩,i1.up λo e=>up _ o F.symm e⟩,un⟩
  rw[I.sqv_inj q1 qx];exact ex
 done:=by
  intro X J hw L j k pins s σ H E I hf st hg;subst J hw L;obtain⟨⟨old,B⟩,hi⟩:=st;obtain⟨xs,qx,fv⟩:=hg;obtain⟨is,rx,px⟩:=I.sqv qx;have lx:=rx.length;refine En.nxt_end (I.ok.hd j) B hi px (by simp;lia) λh1 U=>⟨rfl,I.turnedL (t':=s.toks) hf λc o j e=>?_⟩
  simp only[KH,Lw,or_false,not_or]at j;exact U c o j.2 e
 self:=λA k s Q E G h=>(by obtain⟨⟨old,B⟩,_⟩:=G;exact U6 B h)
section
variable{X:Cx}
noncomputable def EM(K:Frag)(ta:TA):TI:=λσ H R=>ta σ H λvs H1=>∃a t xs,vs=[.ref a]/\SqV K t H1 a xs/\R (Ite K t a) H1
theorem AM{cx}{p:Pos}{a:Expr}{ta:TA}(F:Gl X "enumerate")(hm:X.mg "enumerate"=Y)(G:PA X [a] ta)(hs:Lg [a] X.env=[(VP,eval a X.env)]):
 PI X (.Tuple elts cx pos) (.Call (.Name "enumerate" p) [a] [] pos') (EM X.K ta):=by
 intro pins s σ H R I h;refine Call_ (dX I F hm (u:=.type "enumerate") boot_enumerate (NJ (thn (G pos' pins s σ H _ I h) λus s1 g9=>?_) hs rfl));obtain⟨vs,H1,j,J,L⟩:=g9;obtain⟨a',t,xs,rfl,qx,q⟩:=L
 cases J with
 |cons r rr=>
  cases rr
  cases r
  obtain⟨is,rx,px⟩:=j.sqv qx;refine En.call_enum px λh1 z O U=>?_;refine U6 z ?_;refine⟨_,_,_,_,H1,rfl,j.kept (t':=s1.toks) U,ve (t:=t) (a:=a') (by simp),⟨⟨_,z⟩,O⟩,λc B=>?_,q⟩
  have hle:s1.heap.objs.size<=c:=by
   simp only[KH,Lw,or_false]at B
   rcases B with rfl|rfl<;>lia
  exact j.fpOk hle (j.hok.fresh hle)
end
namespace Rv
end Rv
section
noncomputable abbrev NK:=List (Int ⊕ List Int)
noncomputable def EN(ks:List Int):Int:=reduceHash (Rb (ks.map hashInt))
noncomputable def EO:Int ⊕ List Int->Int
 |.inl i=>hashInt i
 |.inr ks=>EN ks
noncomputable def EQ(ks:NK):Int:=reduceHash (Rb (ks.map EO))
noncomputable def zY(a:VQ)(xs:List (NK×VQ×i3)):Heap->Prop:=λh=>xs.length<=KJ/\(a==MP)=VP /\
 ∃o es ep,h.get? a=Z o/\o.ExactDict/\o.data=.dict es ep/\es.toList=xs.map (λx=>(⟨EQ x.1,.ref x.2.1,x.2.2⟩:Md))/\(xs.map (·.1)).Nodup
noncomputable def Kt1(H:Hp):Int ⊕ List Int->V->Prop
 |.inl i,v=>v=.int i
 |.inr ks,v=>∃b,v=.ref b/\H b=Z (.tup (ks.map V.int))
def Kt(H:Hp)(k:NK)(b:VQ):Prop:=∃vs,H b=Z (.tup vs)/\Mo (Kt1 H) k vs
theorem Kt.keeps{k:NK}(x:Kt H k b)(j:∀b ys,H b=Z (.tup ys)->H' b=Z (.tup ys)):Kt H' k b:=by
 obtain⟨vs,e,p⟩:=x;refine⟨vs,j _ _ e,Vx p λq v z=>?_⟩
 cases q with
 |inl i=>exact z
 |inr ks=>obtain⟨c,e,q⟩:=z;exact⟨c,e,j _ _ q⟩
end
namespace Mi
variable{a p:VQ}{K:Frag}{H H':Hp}{xs vs:List V}{i:Nat}{v:V}{σ:St}{ho:HO}{X:Cx}{e:Expr}
section
inductive D where
 |non|bl (b:Bool)|int (i:Int)|str (x:Str)|tup (ds:List D)|con (ds:List D)|ref (a:VQ)|fn (x:Str)
inductive O where
 |lst (ds:List D)
 |dct (t:Bool) (kvs:List (D×D))
 |fdc (kvs:List (D×D))
 |dcn (kvs:List (NK×D))
 |fdn (kvs:List (NK×D))
 |tab (pos:Pos) (q:Str)
noncomputable abbrev Mem:=VQ->Option O
noncomputable def fz:Option O->Bool
 |some (.lst _)=>VP
 |some (.dct _ _)=>VP
 |some (.dcn _)=>VP
 |some (.tab _ _)=>VP
 |_=>N3
noncomputable abbrev aq:=List (Option D)
noncomputable def ag(M:Mem)(a:VQ)(o:O):Mem:=λb=>if b=a then Z o else M b
theorem ab{M:Mem}{o:O}:ag M a o a=Z o:=by unfold ag;rw[if_pos rfl]
theorem ar{M:Mem}{b:VQ}{o:O}(h:b≠a):ag M a o b=M b:=by unfold ag;rw[if_neg h]
def SqF(K:Frag)(H:Hp)(a:VQ)(xs:List V):Prop:=
 (∃o,H a=Z (.frz o (.lst xs))) ∨
  ∃(o:Obj) (its:Array i3) (n:Nat),K.lookup a=Z o/\o.cls=.type "list"/\o.dict=Y/\o.data=.seq its n/\its.size<=KJ/\Vals xs its.toList
theorem SqF.sq(h:SqF K H a xs):SqL K H a xs:=by
 rcases h with⟨o,h⟩|h
 ·exact .inl (.inr ⟨o,h⟩)
 ·exact .inr h
noncomputable def fk2:Bool:=N3
noncomputable def fk3:Bool:=VP
noncomputable def fk:List D->Bool
 |[.int _,.int _,.int _]=>N3
 |[.tup _,_]=>N3
 |[.int _,_]=>fk2
 |[]=>VP
 |_=>fk3
def TupR(K:Frag)(H:Hp)(ds:List D)(a:VQ)(vs:List V):Prop:=H a=Z (.tup vs)∨(fk ds=VP/\SqT K H a vs)
theorem TupR.sq{ds:List D}(h:TupR K H ds a vs):SqT K H a vs:=h.elim SqT.of (·.2)
mutual
noncomputable def RD(K:Frag)(H:Hp):D->V->Prop
 |.non,v=>v=.non
 |.bl b,v=>v=.bl b
 |.int i,v=>v=.int i
 |.str x,v=>v=.str x
 |.tup ds,v=>∃a vs,v=.ref a/\TupR K H ds a vs/\RDs K H ds vs
 |.con ds,v=>∃a vs,v=.ref a/\SqF K H a vs/\RDs K H ds vs
 |.ref a,v=>v=.ref a
 |.fn x,v=>∃f,v=.ref f/\PY K Me x=Z (Z (.ref f))
noncomputable def RDs(K:Frag)(H:Hp):List D->List V->Prop
 |[],vs=>vs=[]
 |d::ds,vs=>∃v r,vs=v::r/\RD K H d v/\RDs K H ds r
end
structure Stab(H H':Hp):Prop where
 tup:∀a xs,H a=Z (.tup xs)->H' a=Z (.tup xs)
 frz:∀a o u,H a=Z (.frz o u)->H' a=Z (.frz o u)
theorem Stab.sqT(st:Stab H H')(h:SqT K H a xs):SqT K H' a xs:=by
 rcases h with(h|⟨o,h⟩)|h
 ·exact .inl (.inl (st.tup _ _ h))
 ·exact .inl (.inr ⟨o,st.frz _ _ _ h⟩)
 ·exact .inr h
theorem Stab.sqF(st:Stab H H')(h:SqF K H a xs):SqF K H' a xs:=by
 rcases h with⟨o,h⟩|h
 ·exact .inl ⟨o,st.frz _ _ _ h⟩
 ·exact .inr h
mutual
theorem RD.mono{K:Frag}{H H':Hp}(st:Stab H H'):∀{d:D} {v:V},RD K H d v->RD K H' d v
 |.non,_,h=>h
 |.bl _,_,h=>h
 |.int _,_,h=>h
 |.str _,_,h=>h
 |.tup ds,v,h=>by unfold RD at h⊢;obtain⟨a,vs,e,q,r⟩:=h;exact⟨a,vs,e,q.imp (st.tup _ _) (λz=>⟨z.1,st.sqT z.2⟩),RDs.mono st r⟩
 |.con ds,v,h=>by unfold RD at h⊢;obtain⟨a,vs,e,q,r⟩:=h;exact⟨a,vs,e,st.sqF q,RDs.mono st r⟩
 |.ref _,_,h=>h
 |.fn _,_,h=>by unfold RD at h⊢;exact h
theorem RDs.mono{K:Frag}{H H':Hp}(st:Stab H H'):∀{ds:List D} {vs:List V},RDs K H ds vs->RDs K H' ds vs
 |[],_,h=>h
 |d::ds,vs,h=>by unfold RDs at h⊢;obtain⟨v,r,e,h1,h2⟩:=h;exact⟨v,r,e,RD.mono st h1,RDs.mono st h2⟩
end
section
variable{K:Frag}{H H':Hp}
theorem Vt{i:Int}:RD K H (.int i) v↔v=.int i:=by unfold RD;exact U7
theorem Vv{b:Bool}:RD K H (.bl b) v↔v=.bl b:=by unfold RD;exact U7
theorem VA:RD K H .non v↔v=.non:=by unfold RD;exact U7
theorem VB{x:Str}:RD K H (.str x) v↔v=.str x:=by unfold RD;exact U7
theorem Vu:RD K H (.ref a) v↔v=.ref a:=by unfold RD;exact U7
theorem VD{ds:List D}:RD K H (.tup ds) v↔∃a vs,v=.ref a/\TupR K H ds a vs/\RDs K H ds vs:=by rw[RD]
theorem VC{ds:List D}(h:∃a vs,v=.ref a/\H a=Z (.tup vs)/\RDs K H ds vs):RD K H (.tup ds) v:=VD.mpr (let⟨a,vs,e,h,r⟩:=h; ⟨a,vs,e,.inl h,r⟩)
theorem Vz{ds:List D}(h:RD K H (.tup ds) v):∃a vs,v=.ref a/\SqT K H a vs/\RDs K H ds vs:=let⟨a,vs,e,h,r⟩:=VD.mp h; ⟨a,vs,e,h.sq,r⟩
theorem VO{ds:List D}(f:fk ds=N3)(h:RD K H (.tup ds) v):∃a vs,v=.ref a/\H a=Z (.tup vs)/\RDs K H ds vs:=let⟨a,vs,e,h,r⟩:=VD.mp h; ⟨a,vs,e,h.elim id λz=>(by rw[f]at z;cases z.1),r⟩
theorem Vy{ds:List D}:RD K H (.con ds) v↔∃a vs,v=.ref a/\SqF K H a vs/\RDs K H ds vs:=by rw[RD]
theorem RDs.nil_iff:RDs K H [] vs↔vs=[]:=by rw[RDs]
theorem Vw{d:D}{ds:List D}:RDs K H (d::ds) vs↔∃v r,vs=v::r/\RD K H d v/\RDs K H ds r:=by rw[RDs]
theorem RDs.nil:RDs K H [] []:=RDs.nil_iff.mpr rfl
theorem RDs.cons{d:D}{ds:List D}{v:V}{vs:List V}(h:RD K H d v)(r:RDs K H ds vs):RDs K H (d::ds) (v::vs):=Vw.mpr ⟨v,vs,rfl,h,r⟩
theorem RDs.length:∀{ds:List D} {vs:List V},RDs K H ds vs->vs.length=ds.length
 |[],_,h=>by rw[RDs.nil_iff.mp h];rfl
 |d::ds,_,h=>by obtain⟨v,r,rfl,_,h2⟩:=Vw.mp h;simp[RDs.length h2]
theorem RDs.get:∀{ds:List D} {vs:List V} {i:Nat} {d:D},RDs K H ds vs->ds[i]?=Z d->∃v,vs[i]?=Z v/\RD K H d v
 |[],_,_,_,_,e=>by simp at e
 |d::ds,_,0,d',h,e=>by obtain⟨v,r,rfl,h1,h2⟩:=Vw.mp h;simp at e;subst e;exact⟨v,rfl,h1⟩
 |d::ds,_,i+1,d',h,e=>by
  obtain⟨v,r,rfl,h1,h2⟩:=Vw.mp h;obtain⟨u,j,z⟩:=RDs.get (i:=i) (d:=d') h2 (by simpa using e)
  exact⟨u,by simpa using j,z⟩
theorem RDs.getV{ds:List D}(h:RDs K H ds vs)(e:vs[i]?=Z v):∃d,ds[i]?=Z d/\RD K H d v:=by
 have B:=h.length;have hi:i<vs.length:=(KN.mp e).1;obtain⟨d,hd⟩:∃d,ds[i]?=Z d:=⟨ds[i]'∅,y3 ∅⟩
 obtain⟨u,j,z⟩:=h.get hd;rw[e]at j;cases j;exact⟨d,hd,z⟩
theorem RDs.append:∀{ds es:List D} {vs us:List V},RDs K H ds vs->RDs K H es us->RDs K H (ds++es) (vs++us)
 |[],_,_,_,h,q=>by rw[RDs.nil_iff.mp h];exact q
 |d::ds,_,_,_,h,q=>by obtain⟨v,r,rfl,h1,h2⟩:=Vw.mp h;exact RDs.cons h1 (RDs.append h2 q)
theorem RDs.take:∀{ds:List D} {vs:List V} (n:Nat),RDs K H ds vs->RDs K H (ds.take n) (vs.take n)
 |[],_,n,h=>by rw[RDs.nil_iff.mp h];simp;exact RDs.nil
 |_::_,_,0,h=>by simp;exact RDs.nil
 |d::ds,_,n+1,h=>by obtain⟨v,r,rfl,h1,h2⟩:=Vw.mp h;exact RDs.cons h1 (RDs.take n h2)
theorem RDs.drop:∀{ds:List D} {vs:List V} (n:Nat),RDs K H ds vs->RDs K H (ds.drop n) (vs.drop n)
 |[],_,n,h=>by rw[RDs.nil_iff.mp h];simp;exact RDs.nil
 |d::ds,_,0,h=>h
 |d::ds,_,n+1,h=>by obtain⟨v,r,rfl,h1,h2⟩:=Vw.mp h;exact RDs.drop n h2
theorem RDs.set:∀{ds:List D} {vs:List V} (n:Nat) {d:D} {v:V},RD K H d v->RDs K H ds vs->RDs K H (ds.set n d) (vs.set n v)
 |[],_,n,_,_,_,h=>by rw[RDs.nil_iff.mp h];exact RDs.nil
 |d::ds,_,0,_,_,q,h=>by obtain⟨v,r,rfl,h1,h2⟩:=Vw.mp h;exact RDs.cons q h2
 |d::ds,_,n+1,_,_,q,h=>by obtain⟨v,r,rfl,h1,h2⟩:=Vw.mp h;exact RDs.cons h1 (RDs.set n q h2)
theorem RDs.rep{ds:List D}(h:RDs K H ds vs):∀k:Nat,RDs K H (KD k ds).flatten (KD k vs).flatten
 |0=>RDs.nil
 |k+1=>by rw[LY,LY,LI,LI];exact h.append (h.rep k)
theorem RDs.ints:∀(ns:List Int),RDs K H (ns.map D.int) (ns.map V.int)
 |[]=>RDs.nil
 |n::ns=>RDs.cons (Vt.mpr rfl) (RDs.ints ns)
end
mutual
noncomputable def D.eqb:D->D->Bool
 |.non,.non=>N3
 |.bl a,.bl b=>a==b
 |.int a,.int b=>decide (a=b)
 |.str a,.str b=>decide (a=b)
 |.tup a,.tup b=>D.eqbs a b
 |.con a,.con b=>D.eqbs a b
 |.ref a,.ref b=>decide (a=b)
 |.fn a,.fn b=>decide (a=b)
 |_,_=>VP
noncomputable def D.eqbs:List D->List D->Bool
 |[],[]=>N3
 |a::r,b::s=>D.eqb a b&&D.eqbs r s
 |_,_=>VP
end
mutual
theorem VN:∀(a b:D),D.eqb a b=N3->a=b
 |.non,b,h=>by cases b<;>first|rfl|cases h
 |.bl a,b,h=>by cases b<;>first|exact congrArg D.bl (O7 h)|cases h
 |.int a,b,h=>by cases b<;>first|exact congrArg D.int (of_decide_eq_true h)|cases h
 |.str a,b,h=>by cases b<;>first|exact congrArg D.str (of_decide_eq_true h)|cases h
 |.tup a,b,h=>by cases b<;>first|exact congrArg D.tup (VG a _ h)|cases h
 |.con a,b,h=>by cases b<;>first|exact congrArg D.con (VG a _ h)|cases h
 |.ref a,b,h=>by cases b<;>first|exact congrArg D.ref (of_decide_eq_true h)|cases h
 |.fn a,b,h=>by cases b<;>first|exact congrArg D.fn (of_decide_eq_true h)|cases h
theorem VG:∀(a b:List D),D.eqbs a b=N3->a=b
 |[],b,h=>by cases b<;>first|rfl|cases h
 |a::r,b,h=>by
  cases b with
  |nil=>cases h
  |cons b s=>have h:=(tv _ _).mp h;rw[VN a b h.1,VG r s h.2]
end
mutual
theorem VM:∀(a:D),D.eqb a a=N3
 |.non=>rfl
 |.bl a=>beq_self_eq_true a
 |.int _=>decide_eq_true rfl
 |.str _=>decide_eq_true rfl
 |.tup a=>VE a
 |.con a=>VE a
 |.ref _=>decide_eq_true rfl
 |.fn _=>decide_eq_true rfl
theorem VE:∀(a:List D),D.eqbs a a=N3
 |[]=>rfl
 |a::r=>(tv _ _).mpr ⟨VM a,VE r⟩
end
noncomputable instance:DecidableEq D:=λa b=>if h:D.eqb a b=N3 then isTrue (VN a b h)else isFalse λe=>h (by rw[e];exact VM b)
noncomputable def RKey:D->Key->Prop
 |.int i,k=>k=.inl i
 |.str x,k=>k=.inr x
 |_,_=>False
noncomputable def RKeys:D->List Key->Prop
 |.tup ds,ks=>Mo RKey ds ks
 |_,_=>False
noncomputable def dget(kvs:List (D×D))(k:D):Option D:=(kvs.find? λp=>decide (p.1=k)).map (·.2)
noncomputable def fq(kvs:List (D×D))(k v:D):List (D×D):=if(kvs.any λp=>decide (p.1=k))=N3 then kvs.map (λp=>if p.1=k then(p.1,v)else p)else kvs++[(k,v)]
noncomputable def fZ:D->Bool
 |.int _=>N3
 |.str _=>N3
 |_=>VP
noncomputable def dZ:D->Bool
 |.tup ds=>ds.all fZ&&fk ds
 |_=>VP
noncomputable def eQ(t:Bool)(k:D):Bool:=if t then dZ k else fZ k
theorem oQ{k:D}(h:fZ k=N3):∃q,RKey k q:=by cases k<;>first|(simp[fZ]at h;done)|exact⟨_,rfl⟩
theorem rM:∀{ds:List D},ds.all fZ=N3->∃ks,Mo RKey ds ks
 |[],_=>⟨[],.nil⟩
 |d::ds,h=>by simp only[Ot,tv]at h;obtain⟨k,j⟩:=oQ h.1;obtain⟨ks,hs⟩:=rM h.2;exact⟨k::ks,.cons j hs⟩
theorem rN{k:D}(h:dZ k=N3):∃q,RKeys k q:=by cases k<;>first|(simp[dZ]at h;done)|exact rM (Qw.mp h).1
theorem rO{ds:List D}(h:dZ (.tup ds)=N3):fk ds=N3:=(Qw.mp h).2
noncomputable def RO(K:Frag)(H:Hp)(a:VQ):O->Prop
 |.lst ds=>∃vs,H a=Z (.lst vs)/\RDs K H ds vs
 |.dct VP kvs=>∃ps,H a=Z (.dK ps)/\Mo (λ(p:D×D) (q:Key×V)=>RKey p.1 q.1/\RD K H p.2 q.2) kvs ps
 |.dct N3 kvs=>∃ps,H a=Z (.dT ps)/\Mo (λ(p:D×D) (q:List Key×V)=>RKeys p.1 q.1/\RD K H p.2 q.2) kvs ps
 |.fdc kvs=>∃o ps,H a=Z (.frz o (.dT ps))/\Mo (λ(p:D×D) (q:List Key×V)=>RKeys p.1 q.1/\RD K H p.2 q.2) kvs ps
 |.dcn kvs=>∃xs,H a=Z (.ext (zY a xs))/\Mo (λ(p:NK×D) (q:NK×VQ×i3)=>p.1=q.1/\Kt H q.1 q.2.1/\∃v,RelV v q.2.2/\RD K H p.2 v) kvs xs
 |.fdn kvs=>∃o xs,H a=Z (.frz o (.ext (zY a xs)))/\Mo (λ(p:NK×D) (q:NK×VQ×i3)=>p.1=q.1/\Kt H q.1 q.2.1/\∃v,RelV v q.2.2/\RD K H p.2 v) kvs xs
 |.tab pos q=>oP H a pos q
def RM(K:Frag)(M:Mem)(H:Hp):Prop:=∀a o,M a=Z o->RO K H a o
def RS(K:Frag)(H:Hp)(σ:St)(ρ:aq):Prop:=σ.length=ρ.length/\∀(i:Nat) (d:D),ρ[i]?=Z (Z d)->∃v,σ[i]?=Z (Z v)/\RD K H d v
structure Ext(M:Mem)(H:Hp)(M':Mem)(H':Hp):Prop where
 kp:∀a o,fz (M a)=N3->H a=Z o->H' a=Z o
 nw:∀a o,fz (M a)=N3->H a=Z o->M' a=M a
section
variable{K:Frag}{M M' M'':Mem}{H H' H'':Hp}
theorem Ext.keep(x:Ext M H M' H')(a:VQ)(o:HO)(n:M a=Y)(e:H a=Z o):H' a=Z o:=x.kp a o (by rw[n];rfl) e
theorem Ext.new(x:Ext M H M' H')(a:VQ)(o:HO)(n:M a=Y)(e:H a=Z o):M' a=Y:=(x.nw a o (by rw[n];rfl) e).trans n
theorem Ext.refl:Ext M H M H:=⟨λ_ _ _ h=>h,λ_ _ _ _=>rfl⟩
theorem Ext.trans(a:Ext M H M' H')(b:Ext M' H' M'' H''):Ext M H M'' H'':=⟨λc o n h=>b.kp c o (by rw[a.nw c o n h];exact n) (a.kp c o n h),λc o n h=>(b.nw c o (by rw[a.nw c o n h];exact n) (a.kp c o n h)).trans (a.nw c o n h)⟩
theorem RM.mut(r:RM K M H){o:O}(h:M a=Z o):∃ho,H a=Z ho/\(∀xs,ho≠.tup xs)/\(fz (Z o)=VP->∀ob u,ho≠.frz ob u):=by
 have q:=r a o h
 cases o with
 |lst ds=>obtain⟨vs,e,_⟩:=q;exact⟨_,e,λ_ z=>(by cases z),λ_ _ _ z=>(by cases z)⟩
 |dct t kvs=>
  cases t with
  |false=>obtain⟨ps,e,_⟩:=q;exact⟨_,e,λ_ z=>(by cases z),λ_ _ _ z=>(by cases z)⟩
  |true=>obtain⟨ps,e,_⟩:=q;exact⟨_,e,λ_ z=>(by cases z),λ_ _ _ z=>(by cases z)⟩
 |fdc kvs=>obtain⟨ob,ps,e,_⟩:=q;exact⟨_,e,λ_ z=>(by cases z),λz=>(by cases z)⟩
 |fdn kvs=>obtain⟨ob,ps,e,_⟩:=q;exact⟨_,e,λ_ z=>(by cases z),λz=>(by cases z)⟩
 |dcn kvs=>obtain⟨xs,e,_⟩:=q;exact⟨_,e,λ_ z=>(by cases z),λ_ _ _ z=>(by cases z)⟩
 |tab pos u=>obtain⟨ps,e,_⟩:=q;exact⟨_,e,λ_ z=>(by cases z),λ_ _ _ z=>(by cases z)⟩
theorem RM.fzT(r:RM K M H)(e:H a=Z (.tup xs)):M a=Y:=by
 cases q:M a with
 |none=>rfl
 |some o=>obtain⟨ho,j,z,_⟩:=r.mut q;rw[e]at j;cases j;exact absurd rfl (z xs)
theorem RM.fzF(r:RM K M H){ob:Obj}{u:HO}(e:H a=Z (.frz ob u)):fz (M a)=N3:=by
 cases q:M a with
 |none=>rfl
 |some o=>
  obtain⟨ho,j,_,B⟩:=r.mut q;rw[e]at j;cases j
  cases z:fz (Z o)with
  |true=>rfl
  |false=>exact absurd rfl (B z ob u)
theorem RM.out(r:RM K M H)(h:H a=Y):M a=Y:=by
 cases e:M a with
 |none=>rfl
 |some o=>obtain⟨ho,q,_⟩:=r.mut e;rw[h]at q;cases q
theorem Ext.stab(r:RM K M H)(x:Ext M H M' H'):Stab H H' where
 tup:=λa xs e=>x.keep a _ (r.fzT e) e
 frz:=λa o u e=>x.kp a _ (r.fzF e) e
theorem RS.mono(st:Stab H H'){ρ:aq}(h:RS K H σ ρ):RS K H' σ ρ:=⟨h.1,λi d e=>let⟨v,q,r⟩:=h.2 i d e; ⟨v,q,r.mono st⟩⟩
theorem RS.set{ρ:aq}(h:RS K H σ ρ)(i:Nat){d:D}(r:RD K H d v):RS K H (σ.set i (Z v)) (ρ.set i (Z d)):=by
 refine⟨by simp[h.1],λj e q=>?_⟩
 by_cases hij:i=j
 ·subst hij;have hi:i<ρ.length:=by
   have:=(KN.mp q).1;simpa using this
  rw[NI hi]at q
  cases q
  exact⟨v,by rw[NI (by rw[h.1];exact hi)],r⟩
 ·rw[P0 hij]at q⊢;exact h.2 j e q
noncomputable def tz(fr:List (Option Nat))(ρ:aq):aq:=fr.map λo=>o.bind λj=>(ρ[j]?).join
theorem RS.inh{ρ:aq}(h:RS K H σ ρ)(fr:List (Option Nat)):RS K H (inh fr σ) (tz fr ρ):=by
 refine⟨by simp[L2.inh,tz],λi d e=>?_⟩
 unfold tz at e;unfold L2.inh;rw[KL]at e⊢
 cases q:fr[i]? with
 |none=>rw[q]at e;cases e
 |some o=>
  rw[q]at e
  cases o with
  |none=>cases e
  |some j=>
   have e':Z ((ρ[j]?).join)=Z (Z d):=e
   cases q':ρ[j]? with
   |none=>rw[q']at e';cases e'
   |some w=>
    rw[q']at e'
    cases e'
    obtain⟨v,v1,v2⟩:=h.2 j d q';exact⟨v,by simp[v1],v2⟩
theorem RO.mono(st:Stab H H'){o:O}(h:RO K H a o)(e:∀ho,H a=Z ho->H' a=Z ho):RO K H' a o:=by
 cases o with
 |lst ds=>obtain⟨vs,q,r⟩:=h;exact⟨vs,e _ q,r.mono st⟩
 |dct t kvs=>
  cases t with
  |false=>obtain⟨ps,q,r⟩:=h;exact⟨ps,e _ q,Vx r λ_ _ z=>⟨z.1,z.2.mono st⟩⟩
  |true=>obtain⟨ps,q,r⟩:=h;exact⟨ps,e _ q,Vx r λ_ _ z=>⟨z.1,z.2.mono st⟩⟩
 |fdc kvs=>obtain⟨ob,ps,q,r⟩:=h;exact⟨ob,ps,e _ q,Vx r λ_ _ z=>⟨z.1,z.2.mono st⟩⟩
 |fdn kvs=>obtain⟨ob,xs,q,r⟩:=h;exact⟨ob,xs,e _ q,Vx r λ_ _ j=>(by obtain⟨B,F,v,G,J⟩:=j;exact⟨B,F.keeps st.tup,v,G,J.mono st⟩)⟩
 |dcn kvs=>obtain⟨xs,q,r⟩:=h;exact⟨xs,e _ q,Vx r λ_ _ j=>(by obtain⟨B,F,v,G,J⟩:=j;exact⟨B,F.keeps st.tup,v,G,J.mono st⟩)⟩
 |tab pos u=>obtain⟨ps,L,U⟩:=h;exact⟨ps,e _ L,U.imp_right λj=>(by obtain⟨c',oc,vs,t,B,F,G⟩:=j;exact⟨c',oc,vs,t,B,st.frz _ _ _ F,G⟩)⟩
theorem RM.new(r:RM K M H)(n:H p=Y):RM K M (upd H p ho):=λa o e=>by
 have ne:a≠p:=λz=>by subst z;obtain⟨_,q,_⟩:=r.mut e;rw[n]at q;cases q
 refine(r a o e).mono ⟨λb xs q=>?_,λb o u q=>?_⟩ λj q=>by rw[ak ne];exact q
 ·rw[ak (bb q n)];exact q
 ·rw[ak (bb q n)];exact q
theorem VF(n:H p=Y):Ext M H M (upd H p ho):=⟨λa o _ e=>by rw[ak (bb e n)];exact e,λ_ _ _ _=>rfl⟩
theorem RM.lay{o:O}(r:RM K M H)(n:H p=Y)(h:RO K (upd H p ho) p o):RM K (ag M p o) (upd H p ho):=λa o' e=>by
 by_cases z:a=p
 ·subst z;rw[ab]at e;cases e;exact h
 ·rw[ar z]at e;exact r.new n a o' e
theorem Ext.lay{o:O}(n:H p=Y):Ext M H (ag M p o) (upd H p ho):=⟨λa u _ e=>by rw[ak (bb e n)];exact e,λa u m e=>by rw[ar (bb e n)]⟩
theorem RM.put{o o0:O}(r:RM K M H)(m:M p=Z o0)(h:RO K (upd H p ho) p o)(w:fz (Z o0)=VP:=by rfl):RM K (ag M p o) (upd H p ho):=λa o' e=>by
 by_cases z:a=p
 ·subst z;rw[ab]at e;cases e;exact h
 ·rw[ar z]at e;obtain⟨J,j,B,F⟩:=r.mut m;refine(r a o' e).mono ⟨λb xs q=>?_,λb o u q=>?_⟩ λG q=>by rw[ak z];exact q
  ·rw[ak (λz=>by subst z;rw[j]at q;cases q;exact B xs rfl)];exact q
  ·rw[ak (λz=>by subst z;rw[j]at q;cases q;exact F w o u rfl)];exact q
theorem Ext.put{o o0:O}(m:M p=Z o0)(w:fz (Z o0)=VP:=by rfl):Ext M H (ag M p o) (upd H p ho):=⟨λa u n e=>by rw[ak (λz=>by subst z;rw[m,w]at n;cases n)];exact e,λa u n e=>ar (λz=>by subst z;rw[m,w]at n;cases n)⟩
theorem RM.stabPut{o0:O}(r:RM K M H)(m:M p=Z o0)(w:fz (Z o0)=VP:=by rfl):Stab H (upd H p ho):=(Ext.put (o:=o0) (ho:=ho) m w).stab r
end
noncomputable abbrev QD:=D->Mem->Prop
noncomputable abbrev TEd:=aq->Mem->QD->Prop
noncomputable abbrev TTd:=aq->Mem->(Bool->Mem->Prop)->Prop
noncomputable abbrev TAd:=aq->Mem->(List D->Mem->Prop)->Prop
structure bV where
 nx:aq->Mem->Prop
 rt:QD
 bk:aq->Mem->Prop:=λ_ _=>False
 ct:aq->Mem->Prop:=λ_ _=>False
noncomputable abbrev TSd:=bV->aq->Mem->Prop
def ad(T:TEd):Prop:=∀ρ M Q Q',(∀d M',Q d M'->Q' d M')->T ρ M Q->T ρ M Q'
def aP(T:TTd):Prop:=∀ρ M Q Q',(∀d M',Q d M'->Q' d M')->T ρ M Q->T ρ M Q'
def aY(T:TAd):Prop:=∀ρ M Q Q',(∀d M',Q d M'->Q' d M')->T ρ M Q->T ρ M Q'
structure LeD(a b:bV):Prop where
 nx:∀ρ M,a.nx ρ M->b.nx ρ M
 rt:∀d M,a.rt d M->b.rt d M
 bk:∀ρ M,a.bk ρ M->b.bk ρ M
 ct:∀ρ M,a.ct ρ M->b.ct ρ M
def aQ(T:TSd):Prop:=∀a b ρ M,LeD a b->T a ρ M->T b ρ M
noncomputable def KE'(K:Frag)(M:Mem)(H:Hp)(Q:VK):QD:=λd M'=>∀v H',Ext M H M' H'->RM K M' H'->RD K H' d v->Q v H'
noncomputable def KT'(K:Frag)(M:Mem)(H:Hp)(Q:Bool->Hp->Prop):Bool->Mem->Prop:=λb M'=>∀H',Ext M H M' H'->RM K M' H'->Q b H'
noncomputable def KA'(K:Frag)(M:Mem)(H:Hp)(Q:List V->Hp->Prop):List D->Mem->Prop:=λds M'=>∀vs H',Ext M H M' H'->RM K M' H'->RDs K H' ds vs->Q vs H'
noncomputable def lE(K:Frag)(T:TEd):TE:=λσ H Q=>∃ρ M,RS K H σ ρ/\RM K M H/\T ρ M (KE' K M H Q)
noncomputable def lT(K:Frag)(T:TTd):TT:=λσ H Q=>∃ρ M,RS K H σ ρ/\RM K M H/\T ρ M (KT' K M H Q)
noncomputable def lA(K:Frag)(T:TAd):TA:=λσ H Q=>∃ρ M,RS K H σ ρ/\RM K M H/\T ρ M (KA' K M H Q)
structure Link(K:Frag)(M:Mem)(H:Hp)(a:bV)(b:bN):Prop where
 nx:∀ρ M' σ H',Ext M H M' H'->RS K H' σ ρ->RM K M' H'->a.nx ρ M'->b.nx σ H'
 rt:∀d M' v H',Ext M H M' H'->RM K M' H'->RD K H' d v->a.rt d M'->b.rt v H'
 bk:∀ρ M' σ H',Ext M H M' H'->RS K H' σ ρ->RM K M' H'->a.bk ρ M'->b.bk σ H'
 ct:∀ρ M' σ H',Ext M H M' H'->RS K H' σ ρ->RM K M' H'->a.ct ρ M'->b.ct σ H'
noncomputable def lS(K:Frag)(T:TSd):TS:=λD σ H=>∃ρ M A,RS K H σ ρ/\RM K M H/\Link K M H A D/\T A ρ M
theorem Link.ext{M M':Mem}{a:bV}{b:bN}(l:Link K M H a b)(x:Ext M H M' H'):Link K M' H' a b:=⟨λρ M2 σ H2 y=>l.nx ρ M2 σ H2 (x.trans y),λd M2 v H2 y=>l.rt d M2 v H2 (x.trans y),λρ M2 σ H2 y=>l.bk ρ M2 σ H2 (x.trans y),λρ M2 σ H2 y=>l.ct ρ M2 σ H2 (x.trans y)⟩
theorem PE.imp{t t':TE}(h:PE X e t)(i:∀σ H Q,t' σ H Q->t σ H Q):PE X e t':=λpins s σ H Q I q=>h pins s σ H Q I (i _ _ _ q)
theorem PT.imp{t t':TT}(h:PT X e t)(i:∀σ H Q,t' σ H Q->t σ H Q):PT X e t':=λpins s σ H Q I q=>h pins s σ H Q I (i _ _ _ q)
theorem PW.imp{t t':TT}(h:PW X e t)(i:∀σ H Q,t' σ H Q->t σ H Q):PW X e t':=λwh pins s σ H Q I q=>h wh pins s σ H Q I (i _ _ _ q)
theorem PA.imp{e:List Expr}{t t':TA}(h:PA X e t)(i:∀σ H Q,t' σ H Q->t σ H Q):PA X e t':=λp pins s σ H Q I q=>h p pins s σ H Q I (i _ _ _ q)
theorem PS.imp{e:Stmt}{t t':TS}(h:PS X e t)(i:∀D σ H,t' D σ H->t D σ H):PS X e t':=λpins s σ H D I q=>h pins s σ H D I (i _ _ _ q)
theorem PSs.imp{e:List Stmt}{t t':TS}(h:PSs X e t)(i:∀D σ H,t' D σ H->t D σ H):PSs X e t':=λpins s σ H D I q=>h pins s σ H D I (i _ _ _ q)
end
variable{M M':Mem}{ds:List D}{d:D}{Q:VK}{ta:TEd}{tr:TAd}{j:Nat}{es:List Expr}
section
theorem KE'.ext{M2:Mem}{H2:Hp}(x:Ext M H M2 H2)(h:KE' K M H Q d M'):KE' K M2 H2 Q d M':=λv H' y=>h v H' (x.trans y)
theorem KT'.ext{M2:Mem}{H2:Hp}{Q:Bool->Hp->Prop}{d:Bool}(x:Ext M H M2 H2)(h:KT' K M H Q d M'):KT' K M2 H2 Q d M':=λH' y=>h H' (x.trans y)
noncomputable abbrev R2d:=D->D->Mem->QD->Prop
noncomputable abbrev R1d:=D->Mem->QD->Prop
noncomputable abbrev RAd:=List D->Mem->QD->Prop
def aO(r:R2d):Prop:=∀x y M Q Q',(∀d M',Q d M'->Q' d M')->r x y M Q->r x y M Q'
def tD(r:R1d):Prop:=∀x M Q Q',(∀d M',Q d M'->Q' d M')->r x M Q->r x M Q'
def aK(r:RAd):Prop:=∀x M Q Q',(∀d M',Q d M'->Q' d M')->r x M Q->r x M Q'
noncomputable def l2(K:Frag)(rd:R2d):R2:=λv u H Q=>∃x y M,RM K M H/\RD K H x v/\RD K H y u/\rd x y M (KE' K M H Q)
noncomputable def l1(K:Frag)(rd:R1d):V->Hp->VK->Prop:=λv H Q=>∃x M,RM K M H/\RD K H x v/\rd x M (KE' K M H Q)
noncomputable def lR(K:Frag)(rd:RAd):List V->Hp->VK->Prop:=λvs H Q=>∃ds M,RM K M H/\RDs K H ds vs/\rd ds M (KE' K M H Q)
noncomputable def lMt(K:Frag)(rd:D->List D->Mem->QD->Prop):V->List V->Hp->VK->Prop:=λv vs H Q=>∃x ds M,RM K M H/\RD K H x v/\RDs K H ds vs/\rd x ds M (KE' K M H Q)
noncomputable def fu(i:Nat):TEd:=λρ M Q=>∃d,ρ[i]?=Z (Z d)/\Q d M
noncomputable def wC(d:D):TEd:=λ_ M Q=>Q d M
noncomputable def wOp(rd:R2d)(ta tb:TEd):TEd:=λρ M Q=>ta ρ M λx M1=>tb ρ M1 λy M2=>rd x y M2 Q
noncomputable def wUn(rd:R1d)(ta:TEd):TEd:=λρ M Q=>ta ρ M λx M1=>rd x M1 Q
noncomputable def br:TAd:=λ_ M Q=>Q [] M
noncomputable def aE(ta:TEd)(tr:TAd):TAd:=λρ M Q=>ta ρ M λx M1=>tr ρ M1 λxs M2=>Q (x::xs) M2
noncomputable def wAr(rd:RAd)(t:TAd):TEd:=λρ M Q=>t ρ M λds M1=>rd ds M1 Q
theorem y9:ad (fu i):=λ_ _ _ _ h j=>(by obtain⟨d,e,q⟩:=j;exact⟨d,e,h _ _ q⟩)
theorem jM:ad (wC d):=λ_ _ _ _ h q=>h _ _ q
theorem fE{rd:R2d}{tb:TEd}(j:aO rd)(z:ad ta)(B:ad tb):ad (wOp rd ta tb):=λρ M Q Q' h q=>z _ _ _ _ (λx J F=>B _ _ _ _ (λy M2 G=>j _ _ _ _ _ h G) F) q
theorem AN{rd:R1d}(j:tD rd)(z:ad ta):ad (wUn rd ta):=λρ M Q Q' h q=>z _ _ _ _ (λx F B=>j _ _ _ _ h B) q
theorem aG:aY br:=λ_ _ _ _ h q=>h _ _ q
theorem az(j:ad ta)(z:aY tr):aY (aE ta tr):=λρ M Q Q' h q=>j _ _ _ _ (λx G B=>z _ _ _ _ (λxs M2 F=>h _ _ F) B) q
theorem fF{rd:RAd}{t:TAd}(j:aK rd)(z:aY t):ad (wAr rd t):=λρ M Q Q' h q=>z _ _ _ _ (λds F B=>j _ _ _ _ h B) q
section
variable{X:Cx}{a b:Expr}{ta tb:TEd}{pos:Pos}
theorem D6{x:Str}(B:X.N[i]?=Z x)(j:Vis X.env.scope x)(hd:(x==("__debug__":Str))=VP)(z:(x==("__classdict__":Str))=VP):PE X (.Name x pos) (lE X.K (fu i)):=by refine PE.imp (oC B j hd z) λσ H Q h=>?_;obtain⟨ρ,M,rs,rm,d,e,q⟩:=h;obtain⟨v,j,rd⟩:=rs.2 i d e;exact⟨v,j,q v H Ext.refl rm rd⟩
theorem D7{i:Int}:PE X (.Constant (.int i) j pos) (lE X.K (wC (.int i))):=PE.imp Cl λσ H Q g9=>(by obtain⟨ρ,M,rs,rm,q⟩:=g9;exact q _ H Ext.refl rm (Vt.mpr rfl))
theorem ER{i:Bool}:PE X (.Constant (.bool i) j pos) (lE X.K (wC (.bl i))):=PE.imp Es λσ H Q g9=>(by obtain⟨ρ,M,rs,rm,q⟩:=g9;exact q _ H Ext.refl rm (Vv.mpr rfl))
theorem D8:PE X (.Constant .none j pos) (lE X.K (wC .non)):=PE.imp Cn λσ H Q g9=>(by obtain⟨ρ,M,rs,rm,q⟩:=g9;exact q _ H Ext.refl rm (VA.mpr rfl))
theorem ir{rd:R2d}(L:aO rd)(ma:ad ta)(mb:ad tb)(σ:St)(H:Hp)(Q:VK)(h:lE K (wOp rd ta tb) σ H Q):tOp (l2 K rd) (lE K ta) (lE K tb) σ H Q:=by obtain⟨ρ,M,rs,rm,q⟩:=h;refine⟨ρ,M,rs,rm,ma _ _ _ _ (λx O U v H1 G j z=>?_) q⟩;refine⟨ρ,O,rs.mono (G.stab rm),j,mb _ _ _ _ (λy M2 F2 u H2 J B F=>?_) U⟩;exact⟨x,y,M2,B,z.mono (J.stab j),F,L _ _ _ _ _ (λd M' k=>k.ext (G.trans J)) F2⟩
theorem ES{op:P1}{rd:R2d}(ho:OpR X (MV op) (l2 X.K rd))(j:aO rd)(ma:ad ta)(mb:ad tb)(z:PE X a (lE X.K ta))(B:PE X b (lE X.K tb)):PE X (.BinOp a op b pos) (lE X.K (wOp rd ta tb)):=PE.imp (EB ho z B) (ir j ma mb)
theorem D9{op:CmpOp}{rd:R2d}(ho:OpR X (Ny op) (l2 X.K rd))(j:aO rd)(ma:ad ta)(mb:ad tb)(z:PE X a (lE X.K ta))(B:PE X b (lE X.K tb))(hm:Pn op b=VP):PE X (.Compare a [op] [b] pos) (lE X.K (wOp rd ta tb)):=PE.imp (AB ho z B hm) (ir j ma mb)
noncomputable def gR(t:TEd):TTd:=λρ M Q=>t ρ M λx M1=>∃k,x=.bl k/\Q k M1
theorem ya{t:TEd}(h:ad t):aP (gR t):=λρ M Q Q' i q=>h _ _ _ _ (λx B j=>(by obtain⟨k,e,z⟩:=j;exact⟨k,e,i _ _ z⟩)) q
theorem yb{t:TEd}(m:ad t)(σ:St)(H:Hp)(Q:Bool->Hp->Prop)(h:lT K (gR t) σ H Q):zQ (lE K t) σ H Q:=by obtain⟨ρ,M,rs,rm,q⟩:=h;refine⟨ρ,M,rs,rm,m _ _ _ _ (λx G g9 v H1 F j z=>?_) q⟩;obtain⟨k,e,B⟩:=g9;subst e;exact⟨k,Vv.mp z,B H1 F j⟩
theorem Da{op:CmpOp}{rd:R2d}(ho:OpR X (Ny op) (l2 X.K rd))(j:aO rd)(ma:ad ta)(mb:ad tb)(z:PE X a (lE X.K ta))(B:PE X b (lE X.K tb))(hm:Pn op b=VP):
 PT X (.Compare a [op] [b] pos) (lT X.K (gR (wOp rd ta tb))):=
 PT.imp (AC ho z B hm) λσ H Q h=>by have h1:=yb (fE j ma mb) σ H Q h;exact ir j ma mb σ H _ h1
theorem ET{op:UnaryOp}{rd:R1d}(ho:UnR X (unaryOp op) (l1 X.K rd))(B:tD rd)(ma:ad ta)(F:PE X a (lE X.K ta)):PE X (.UnaryOp op a pos) (lE X.K (wUn rd ta)):=PE.imp (EC ho F) λσ H Q g9=>(by obtain⟨ρ,M,rs,rm,q⟩:=g9;exact⟨ρ,M,rs,rm,ma _ _ _ _ (λx G J v H1 L j z=>⟨x,G,j,z,B _ _ _ _ (λd M' k=>k.ext L) J⟩) q⟩)
theorem EU{rd:R2d}(ho:IxR X (l2 X.K rd))(j:aO rd)(ma:ad ta)(mb:ad tb)(z:PE X a (lE X.K ta))(B:PE X b (lE X.K tb))(hs:kP b):PE X (.Subscript a b pos) (lE X.K (wOp rd ta tb)):=PE.imp (EH ho z B hs) (ir j ma mb)
theorem ed:PA X [] (lA X.K br):=PA.imp jA λσ H Q g9=>(by obtain⟨ρ,M,rs,rm,q⟩:=g9;exact q _ H Ext.refl rm RDs.nil)
theorem mF(ma:ad ta)(mr:aY tr)(σ:St)(H:Hp)(Q:List V->Hp->Prop)(h:lA K (aE ta tr) σ H Q):tf (lE K ta) (lA K tr) σ H Q:=by obtain⟨ρ,M,rs,rm,q⟩:=h;refine⟨ρ,M,rs,rm,ma _ _ _ _ (λx L O v H1 G j z=>?_) q⟩;refine⟨ρ,L,rs.mono (G.stab rm),j,mr _ _ _ _ (λxs M2 U vs H2 J B F=>?_) O⟩;exact U (v::vs) H2 (G.trans J) B (RDs.cons (z.mono (J.stab j)) F)
theorem bU(ma:ad ta)(mr:aY tr)(j:PE X e (lE X.K ta))(z:PA X es (lA X.K tr))(hs:Lg (e::es) X.env=(VP,eval e X.env)::Lg es X.env):PA X (e::es) (lA X.K (aE ta tr)):=PA.imp (dJ j z hs) (mF ma mr)
theorem bC{rd:RAd}{t:TAd}(B:aK rd)(mt:aY t)(σ:St)(H:Hp)(Q:VK)(h:lE K (wAr rd t) σ H Q):tCB (lR K rd) (lA K t) σ H Q:=by obtain⟨ρ,M,rs,rm,q⟩:=h;exact⟨ρ,M,rs,rm,mt _ _ _ _ (λds F G vs H1 J j z=>⟨ds,F,j,z,B _ _ _ _ (λd M' k=>k.ext J) G⟩) q⟩
noncomputable def tE:RAd:=λds M Q=>ds.length<=KJ/\Q (.tup ds) M
noncomputable def tF:RAd:=λds M Q=>ds.length<=KJ/\∀p,M p=Y->Q (.ref p) (ag M p (.lst ds))
theorem vf:aK tE:=λ_ _ _ _ h j=>(by obtain⟨z,q⟩:=j;exact⟨z,h _ _ q⟩)
theorem vg:aK tF:=λ_ _ _ _ h j=>(by obtain⟨z,q⟩:=j;exact⟨z,λp n=>h _ _ (q p n)⟩)
theorem dM(rm:RM K M H)(rd:RDs K H ds vs)(q:KE' K M H Q (.tup ds) M)(n:H p=Y):Q (.ref p) (upd H p (.tup vs)):=by have x:Ext M H M (upd H p (.tup vs)):=VF n;exact q (.ref p) _ x (rm.new n) (VC ⟨p,vs,rfl,aD,rd.mono (x.stab rm)⟩)
theorem cW(rm:RM K M H)(rd:RDs K H ds vs)(q:∀p,M p=Y->KE' K M H Q (.ref p) (ag M p (.lst ds)))(n:H p=Y):Q (.ref p) (upd H p (.lst vs)):=by have x:Ext M H (ag M p (.lst ds)) (upd H p (.lst vs)):=Ext.lay n;have x0:Ext M H M (upd H p (.lst vs)):=VF n;exact q p (rm.out n) (.ref p) _ x (rm.lay n ⟨vs,aD,rd.mono (x0.stab rm)⟩) (Vu.mpr rfl)
theorem Db{t:TAd}{k:Nat}(mt:aY t)(h:PA X es (lA X.K t)):PE X (.Tuple es k pos) (lE X.K (wAr tE t)):=PE.imp (CO h) λσ H Q B=>(by obtain⟨ρ,M,rs,rm,q⟩:=B;exact⟨ρ,M,rs,rm,mt _ _ _ _ (λds L B vs H1 G F j=>(by obtain⟨z,J⟩:=B;exact⟨by rw[j.length];exact z,λp n=>dM F j (J.ext G) n⟩)) q⟩)
theorem Dc{t:TAd}(mt:aY t)(h:PA X es (lA X.K t)):PE X (.List es pos) (lE X.K (wAr tF t)):=PE.imp (CP h) λσ H Q B=>(by obtain⟨ρ,M,rs,rm,q⟩:=B;exact⟨ρ,M,rs,rm,mt _ _ _ _ (λds L B vs H1 G F j=>(by obtain⟨z,J⟩:=B;exact⟨by rw[j.length];exact z,λp n=>cW F j (λp' n'=>(J p' n').ext G) n⟩)) q⟩)
end
end
end Mi
namespace Mi
end Mi
section
theorem j9:fillsNumberSlot (.type "tuple") "mul"=pure VP:=PyProof.Rows.fillsNumberSlot_seq (id:="tuple.__mul__") (r:=Z (.builtin "tuple.__rmul__")) F.slot_tuple_mul.lookup (by decide +kernel) F.slot_tuple_rmul.lookup (by decide +kernel)
theorem oR:seqRepeat? (.type "tuple")=pure (Z (.builtin "tuple.__mul__")):=by
 unfold seqRepeat?;rw[RJ (T:="tuple") (name:="__mul__") (id:="tuple.__mul__") F.slot_tuple_mul.lookup (by decide +kernel),RJ (T:="tuple") (name:="__rmul__") (id:="tuple.__rmul__") F.slot_tuple_rmul.lookup (by decide +kernel)]
 rfl
theorem kR(a:Int)(t:Tok)(l:VQ)(items:Array i3)(n:Nat)(d:Option VQ)(sl:Array (Option i3)):
 Meets (N9.«int.__rmul__» ⟨[.int a t,.ref l],[]⟩) (λ_ R s=>s.heap.get? l=Z {cls:=.type "tuple",dict:=d,data:=.seq items n,slots:=sl}/\R (.ok (.ret Value.notImplemented)) s):=
 .of_wp λprog w A R s h=>by obtain⟨j,g,d,tk,os⟩:=s;obtain⟨z,h⟩:=h;wp_walk;exact⟨_,rfl,h⟩
open AutoSeq1 (wpAny_loadPart') in
theorem vh(l:VQ)(items:Array i3)(n:Nat)(dd:Option VQ)(sl:Array (Option i3))(x:Int)(u:Tok)(h1:-(2^63)<=x)(h2:x<2^63)(F:items.size*x.toNat<=KJ):
 Meets (N9.«tuple.__mul__» ⟨[.ref l,.int x u],[]⟩) (λ_ R s=>s.heap.get? l=Z {cls:=.type "tuple",dict:=dd,data:=.seq items n,slots:=sl} /\
  (if items.isEmpty || x==1 then R (.ok (.ret (.ref l))) s else R (.ok (.ret (.ref s.heap.objs.size))) {s with heap:=s.heap.push {cls:=.type "tuple",data:=.seq ((KD x.toNat items).foldl (· ++ ·) #[])}})):=
 .of_wp λprog w A R s h=>by
  obtain⟨F2,g,d,tk,os⟩:=s;obtain⟨z,h⟩:=h;have f1:=AutoSeq1.idx_int;have G:(decide (x < -(2^63)) || decide (x≥2^63))=VP:=by rw[decide_eq_false ∅,decide_eq_false ∅];rfl
  wp_walk using OQ z
  refine OR (decide_eq_false (by rw[G];decide)) ?_
  dsimp only
  by_cases j:(items.isEmpty || x==1)=N3
  ·rw[if_pos j]at h
   wp_walk using OQ z
   exact⟨_,rfl,h⟩
  ·rw[if_neg j]at h
   wp_walk using OQ z
   simp only[QB,not_or]at j
   by_cases e2:x<=0
   ·have B:(decide (x<=0) || items.isEmpty)=N3:=by rw[decide_eq_true e2];rfl
    rw[if_pos B];have J:x.toNat=0:=∅
    rw[J]at h
    wp_walk
    exact⟨_,rfl,h⟩
   ·have B:¬(decide (x<=0) || items.isEmpty)=N3:=by simp;exact⟨∅,by simpa using j.1⟩
    rw[if_neg B];have hx:((items.size:Nat):Int)*x=((items.size*x.toNat:Nat):Int):=by rw[Pw,MR ∅]
    have hs:KJ=16777216:=D0;have L:¬((items.size:Nat):Int)*x > (2^63-1) / 8:=by rw[hx];lia
    rw[if_neg L];have O:¬R3 (((items.size:Nat):Int)*x)=N3:=by rw[hx];unfold R3;intro U;have fv:=of_decide_eq_true U;lia
    rw[if_neg O]
    wp_walk
    have hsz:((KD x.toNat items).foldl (· ++ ·) #[]).size<=KJ:=by
     have:∀(k:Nat) (a:Array i3),((KD k items).foldl (· ++ ·) a).size=a.size+items.size*k:=by
      intro k;induction k with
      |zero=>intro a;simp
      |succ k ih=>intro a;rw[LY,Sr,ih,OZ,Nat.mul_succ];lia
     rw[this];simpa using F
    refine OR (decide_eq_false (Va.mpr hsz)) ?_
    wp_walk
    exact⟨_,rfl,h⟩
end
section
section
variable{X:Cx}
noncomputable def zZ(K:Frag):R2:=λx y H Q=>∃l k xs,x=.ref l/\y=.int k/\SqT K H l xs /\ -(2^63)<=k/\k<2^63/\xs.length*k.toNat<=KJ /\
 ((xs=[]∨k=1)->Q (.ref l) H)/\(¬(xs=[]∨k=1)->∀p,H p=Y->Q (.ref p) (upd H p (.tup (KD k.toNat xs).flatten)))
theorem AO:OpR X (MV .Mult) (zZ X.K):=by
 intro pins s σ H x y v u Q I rx ry h;obtain⟨l,k,xs,rfl,rfl,G,h1,h2,j,J,L⟩:=h
 cases rx
 obtain⟨t,rfl⟩:=ry;obtain⟨its,r,O,_⟩:=I.tuple G;have F2:=r.length;obtain⟨⟨cls,dd,dat,sl⟩,e,B,n,hd⟩:=O;dsimp only at B hd;subst B hd;have hlen:its.toArray.size*k.toNat<=KJ:=by rw[KR,<-F2];exact j
 have f0:∀m:Nat,Qk (λfv x2=>fv++x2) #[] (KD m its.toArray)=(KD m its).flatten.toArray:=λm=>by have:=gO its m [];rw[Pu]at this;exact this
 refine Ra (T:="tuple") (U:="int") (by decide) ⟨_,e,rfl⟩ (λs'=>Sd s' k t) j9 UT Qy oR F.slot_int_index.lookup
  (QX Qy (Sd s k t) Up (U1 _ _) (kR k t l its.toArray n dd sl)
    ⟨e,rfl,⟨_,e,rfl⟩,QX F.slot_tuple_mul ⟨_,e,rfl⟩ F.entry_tuple_mul (F.args_tuple_mul_2 _ _) (vh l its.toArray n dd sl k t h1 h2 hlen) ⟨e,?_⟩⟩)
 have hi:(its.toArray.isEmpty || k==1)=N3↔(xs=[]∨k=1):=by rw[<-r.nil_iff];simp
 split
 ·next c=>exact⟨.ref l,H,I,rfl,J (hi.mp c)⟩
 ·next c=>rw[f0];refine⟨.ref s.heap.objs.size,_,I.laid (t':=s.toks) (o:=.tup (KD k.toNat xs).flatten) (λb ob q=>p0 _ q) (L3 _) ?_,rfl,L (λz=>c (hi.mpr z)) _ (I.hok.fresh (L3 _))⟩;exact⟨by rw[rJ,Nt];exact j,_,r.rep k.toNat,QR _ _⟩
end
end
section
section
variable{X:Cx}
theorem AQ:OpR X (MV .Add) (λx y H Q=>∃a b ys,x=.ref a/\y=.ref b/\SqT X.K H a []/\SqT X.K H b ys/\Q (.ref b) H):=by
 intro pins s σ H x y v u Q I rx ry h;obtain⟨a,b,ys,rfl,rfl,U,F2,q⟩:=h
 cases rx
 cases ry
 obtain⟨its,fv,p1,_⟩:=I.tuple U;obtain⟨j,r2,p2,_⟩:=I.tuple F2;have e0:its=[]:=fv.nil_iff.mpr rfl;obtain⟨⟨cls,dd,data,sl⟩,ho,L,n,hd⟩:=id p1;obtain⟨⟨O,G,data2,J⟩,z,B,n2,hd2⟩:=id p2;simp only at L hd B hd2;subst L hd B hd2;exact TZ ⟨_,ho,rfl⟩ ⟨_,z,rfl⟩ RC Th PU PN (Po _ _)
  (tuple_addW0 a b its.toArray j.toArray n n2 dd G sl J (by simp[e0])) ⟨ho,z,⟨.ref b,H,I,rfl,q⟩⟩
end
end
namespace Mi
variable{K:Frag}{M:Mem}{H:Hp}{Q:VK}{v:V}
section
def MulOk(i j:Int):Prop:=(-(2^64)<i/\i<2^64)∨(-(2^64)<j/\j<2^64)∨(QH i<=2^20/\QH j<=2^20)
theorem MulOk.ok{i j:Int}(h:MulOk i j):IntMulOk i j:=by
 rcases h with h|h|h
 ·exact IntMulOk.of_left (intBits_le_64 h.1 h.2)
 ·exact IntMulOk.of_right (intBits_le_64 h.1 h.2)
 ·exact IntMulOk.of_bits h.1 h.2
noncomputable def gT:R2d
 |.int i,.int j,M,Q=>Q (.int (i+j)) M
 |.tup a,.tup b,M,Q=>(a≠[]∨True)/\a.length+b.length<=KJ/\Q (.tup (a++b)) M
 |.ref a,.ref b,M,Q=>∃xs ys,M a=Z (.lst xs)/\M b=Z (.lst ys)/\xs.length+ys.length<=KJ/\∀p,M p=Y->Q (.ref p) (ag M p (.lst (xs++ys)))
 |.str x,.str y,M,Q=>x.length+y.length<=KJ/\Q (.str (x++y)) M
 |_,_,_,_=>False
noncomputable def oS:R2d
 |.int i,.int j,M,Q=>Q (.int (i-j)) M
 |_,_,_,_=>False
noncomputable def gU:R2d
 |.int i,.int j,M,Q=>MulOk i j/\Q (.int (i*j)) M
 |.ref a,.int k,M,Q=>∃xs,M a=Z (.lst xs) /\ -(2^63)<=k/\k<2^63/\xs.length*k.toNat<=KJ/\∀p,M p=Y->Q (.ref p) (ag M p (.lst (KD k.toNat xs).flatten))
 |.tup ds,.int k,M,Q=>-(2^63)<=k/\k<2^63/\ds.length*k.toNat<=KJ/\Q (.tup (KD k.toNat ds).flatten) M
 |_,_,_,_=>False
noncomputable def jN:R2d
 |.int i,.int j,M,Q=>0<j/\j<2^256/\Q (.int (i / j)) M
 |_,_,_,_=>False
noncomputable def oT:R2d
 |.int i,.int j,M,Q=>0<j/\Q (.int (i%j)) M
 |_,_,_,_=>False
noncomputable def oU:R2d
 |.int i,.int j,M,Q=>0<=j/\j<=1000000/\i.natAbs<2^64/\Q (.int (i^j.toNat)) M
 |_,_,_,_=>False
theorem yc:aO gT:=by
 intro x y M Q Q' h q
 cases x<;>cases y<;>first
  |exact q.elim
  |exact h _ _ q
  |exact⟨q.1,h _ _ q.2⟩
  |exact⟨q.1,q.2.1,h _ _ q.2.2⟩
  |(obtain⟨xs,ys,j,B,z,q⟩:=q;exact⟨xs,ys,j,B,z,λp n=>h _ _ (q p n)⟩)
theorem yd:aO oS:=by
 intro x y M Q Q' h q
 cases x<;>cases y<;>first|exact q.elim|exact h _ _ q
theorem ye:aO gU:=by
 intro x y M Q Q' h q
 cases x<;>cases y<;>first
  |exact q.elim
  |exact⟨q.1,h _ _ q.2⟩
  |exact⟨q.1,q.2.1,q.2.2.1,h _ _ q.2.2.2⟩
  |(obtain⟨xs,j,z,B,F,q⟩:=q;exact⟨xs,j,z,B,F,λp n=>h _ _ (q p n)⟩)
theorem vj:aO jN:=by
 intro x y M Q Q' h q
 cases x<;>cases y<;>first|exact q.elim|exact⟨q.1,q.2.1,h _ _ q.2.2⟩
theorem yf:aO oT:=by
 intro x y M Q Q' h q
 cases x<;>cases y<;>first|exact q.elim|exact⟨q.1,h _ _ q.2⟩
theorem yg:aO oU:=by
 intro x y M Q Q' h q
 cases x<;>cases y<;>first|exact q.elim|exact⟨q.1,q.2.1,q.2.2.1,h _ _ q.2.2.2⟩
section
variable{X:Cx}
theorem OpR.of{f:i3->i3->Sem i3}{r r':R2}(h:OpR X f r)(i:∀v u H Q,r' v u H Q->r v u H Q):OpR X f r':=λpins s σ H x y v u Q I rx ry q=>h pins s σ H x y v u Q I rx ry (i _ _ _ _ q)
theorem IxR.of{r r':R2}(h:IxR X r)(i:∀v u H Q,r' v u H Q->r v u H Q):IxR X r':=λa b pins s σ H x y v u Q I rx ry q=>h a b pins s σ H x y v u Q I rx ry (i _ _ _ _ q)
theorem CallR.of{f:i3}{r r':List V->Hp->VK->Prop}(h:CallR X f r)(i:∀vs H Q,r' vs H Q->r vs H Q):CallR X f r':=λpins s σ H xs us Q I rx q=>h pins s σ H xs us Q I rx (i _ _ _ q)
theorem EV{a b:List D}{u:V}(rm:RM K M H)(rx:RD K H (.tup a) v)(ry:RD K H (.tup b) u)(q:gT (.tup a) (.tup b) M (KE' K M H Q)):zT K v u H Q∨∃a b ys,v=.ref a/\u=.ref b/\SqT K H a []/\SqT K H b ys/\Q (.ref b) H:=by
 obtain⟨a',vs,rfl,z,j⟩:=Vz rx;obtain⟨b',us,rfl,B,F⟩:=Vz ry;obtain⟨_,J,q⟩:=q;have l1:=j.length;have l2:=F.length
 by_cases G:a=[]
 ·subst G;have:vs=[]:=RDs.nil_iff.mp j;subst this;exact .inr ⟨a',b',us,rfl,rfl,z,B,q _ H Ext.refl rm ry⟩
 refine .inl ⟨a',b',vs,us,rfl,rfl,z,B,λe=>G (Lu.mp (by rw[<-l1,e];rfl)),∅,λe=>?_,λ_ p n=>dM rm (j.append F) q n⟩
 have eb:b=[]:=Lu.mp (by rw[<-l2,e];rfl)
 subst eb;rw[Mv]at q;exact q _ H Ext.refl rm rx
theorem yh:OpR X (MV .Add) (l2 X.K gT):=by
 refine OpR.of (op_add.or ((op_catT.or AQ).or (op_cat.or t9))) λv u H Q h=>?_;obtain⟨x,y,M,rm,rx,ry,q⟩:=h
 cases x<;>cases y<;>first
  |exact q.elim
  |(cases Vt.mp rx;cases Vt.mp ry;exact .inl ⟨_,_,rfl,rfl,q _ H Ext.refl rm (Vt.mpr rfl)⟩)
  |exact .inr (.inl (EV rm rx ry q))
  | (cases Vu.mp rx;cases Vu.mp ry
     obtain⟨xs,ys,F,G,z,q⟩:=q;obtain⟨vs,h1,j⟩:=rm _ _ F;obtain⟨us,h2,B⟩:=rm _ _ G;have l1:=j.length;have l2:=B.length;refine .inr (.inr (.inl ⟨_,_,vs,us,rfl,rfl,h1,h2,∅,λp n=>cW rm (j.append B) q n⟩)))
  |(cases VB.mp rx;cases VB.mp ry;exact .inr (.inr (.inr ⟨_,_,rfl,rfl,q.1,q.2 _ H Ext.refl rm (VB.mpr rfl)⟩)))
theorem yi:OpR X (MV .Sub) (l2 X.K oS):=by
 refine OpR.of CJ λv u H Q h=>?_;obtain⟨x,y,M,rm,rx,ry,q⟩:=h
 cases x<;>cases y<;>first
  |exact q.elim
  |(cases Vt.mp rx;cases Vt.mp ry;exact⟨_,_,rfl,rfl,q _ H Ext.refl rm (Vt.mpr rfl)⟩)
theorem op_mul_i:OpR X (MV .Mult) (rI MulOk λi j=>.int (i*j)):=opI λ_ _ _ _ _ _ _ z q=>mul_int q z.ok
theorem EW{a:List D}{k:Int}{u:V}(rm:RM K M H)(rx:RD K H (.tup a) v)(ry:RD K H (.int k) u)(q:gU (.tup a) (.int k) M (KE' K M H Q)):zZ K v u H Q:=by
 obtain⟨a',vs,rfl,z,j⟩:=Vz rx
 cases Vt.mp ry
 obtain⟨B,F,G,q⟩:=q;have l1:=j.length;refine⟨a',k,vs,rfl,rfl,z,B,F,by rw[l1];exact G,λe=>?_,λ_ p n=>dM rm (j.rep _) q n⟩
 have ea:(KD k.toNat a).flatten=a:=by
  rcases e with e|e
  ·have:a=[]:=Lu.mp (by rw[<-l1,e];rfl)
   subst this;simp
  ·subst e;simp
 rw[ea]at q;exact q _ H Ext.refl rm rx
theorem yj:OpR X (MV .Mult) (l2 X.K gU):=by
 refine OpR.of (op_mul_i.or (op_rep.or AO)) λv u H Q h=>?_;obtain⟨x,y,M,rm,rx,ry,q⟩:=h
 cases x<;>cases y<;>first
  |exact q.elim
  |(cases Vt.mp rx;cases Vt.mp ry;exact .inl ⟨_,_,rfl,rfl,q.1,q.2 _ H Ext.refl rm (Vt.mpr rfl)⟩)
  | (cases Vu.mp rx;cases Vt.mp ry
     obtain⟨xs,z,B,F,G,q⟩:=q;obtain⟨vs,h1,j⟩:=rm _ _ z;have l1:=j.length;exact .inr (.inl ⟨_,_,vs,rfl,rfl,h1,B,F,by rw[l1];exact G,λp n=>cW rm (j.rep _) q n⟩))
  |exact .inr (.inr (EW rm rx ry q))
theorem yk:OpR X (MV .FloorDiv) (rI (λ_ j=>0<j/\j<2^256) λi j=>.int (i / j)):=L2.opI λi j _ _ _ _ _ z q=>by
 have h1:(0:Int)<j:=z.1;have h2:j<2^256:=z.2;have B:j.natAbs.log2<256:=(Nat.log2_lt ∅).mpr ∅
 exact floordiv_int ∅ (by rw[Int.fdiv_eq_ediv_of_nonneg i ∅];exact q) (.inl (PyProof.noPylong_of_log2 ∅))
theorem vm:OpR X (MV .FloorDiv) (l2 X.K jN):=by
 refine OpR.of yk λv u H Q h=>?_;obtain⟨x,y,M,rm,rx,ry,q⟩:=h
 cases x<;>cases y<;>first
  |exact q.elim
  |(cases Vt.mp rx;cases Vt.mp ry;exact⟨_,_,rfl,rfl,⟨q.1,q.2.1⟩,q.2.2 _ H Ext.refl rm (Vt.mpr rfl)⟩)
theorem ym:OpR X (MV .Mod) (l2 X.K oT):=by
 refine OpR.of CK λv u H Q h=>?_;obtain⟨x,y,M,rm,rx,ry,q⟩:=h
 cases x<;>cases y<;>first
  |exact q.elim
  |(cases Vt.mp rx;cases Vt.mp ry;exact⟨_,_,rfl,rfl,q.1,q.2 _ H Ext.refl rm (Vt.mpr rfl)⟩)
theorem yn:OpR X (MV .Pow) (l2 X.K oU):=by
 refine OpR.of CL λv u H Q h=>?_;obtain⟨x,y,M,rm,rx,ry,q⟩:=h
 cases x<;>cases y<;>first
  |exact q.elim
  |(cases Vt.mp rx;cases Vt.mp ry;exact⟨_,_,rfl,rfl,⟨q.1,q.2.1,q.2.2.1⟩,q.2.2.2 _ H Ext.refl rm (Vt.mpr rfl)⟩)
noncomputable def oV:R1d
 |.int i,M,Q=>Q (.int (-i)) M
 |_,_,_=>False
theorem oW:tD oV:=by
 intro x M Q Q' h q
 cases x<;>first|exact q.elim|exact h _ _ q
theorem UnR.of{f:i3->Sem i3}{r r':V->Hp->VK->Prop}(h:UnR X f r)(i:∀v H Q,r' v H Q->r v H Q):UnR X f r':=λpins s σ H x v Q I rx q=>h pins s σ H x v Q I rx (i _ _ _ q)
theorem yo:UnR X (unaryOp .USub) (l1 X.K oV):=by
 refine UnR.of CM λv H Q h=>?_;obtain⟨x,M,rm,rx,q⟩:=h
 cases x<;>first
  |exact q.elim
  |(cases Vt.mp rx;exact⟨_,rfl,q _ H Ext.refl rm (Vt.mpr rfl)⟩)
noncomputable def ay{α β:Type}(f:α->Option β):List α->Option (List β)
 |[]=>Z []
 |x::xs=>(f x).bind λy=>(ay f xs).map (y :: ·)
noncomputable def rb:Nat->Mem->D->Option Mr
 |_,_,.non=>Z .none
 |_,_,.bl b=>Z (.bool b)
 |_,_,.int i=>Z (.int i)
 |_,_,.str x=>if PyData.strOk x=N3 then Z (.str x)else Y
 |n+1,M,.tup ds=>(ay (rb n M) ds).map U8
 |n+1,M,.con ds=>(ay (rb n M) ds).map PR
 | n+1,M,.ref a=>match M a with
   |some (.lst ds)=>(ay (rb n M) ds).map PR
   |_=>Y
 |0,_,.tup _=>Y
 |0,_,.con _=>Y
 |0,_,.ref _=>Y
 |_,_,.fn _=>Y
theorem dD{n:Nat}{M:Mem}(ih:∀d p,rb n M d=Z p->p.depth<=n/\p.canLay0=N3):∀{ds:List D} {ps:List Mr},ay (rb n M) ds=Z ps->ND ps<=n/\Mz ps=N3
 |[],ps,h=>by simp[ay]at h;subst h;exact⟨Nv _,rfl⟩
 |d::ds,ps,h=>by
  simp only[ay]at h
  cases e1:rb n M d with
  |none=>rw[e1]at h;cases h
  |some p=>
   rw[e1]at h
   cases e2:ay (rb n M) ds with
   |none=>simp[e2]at h
   |some qs=>
    simp[e2]at h;subst h;obtain⟨a1,a2⟩:=ih d p e1;obtain⟨z,j⟩:=dD ih e2;refine⟨?_,?_⟩
    ·show max p.depth (ND qs)<=n;lia
    ·show(p.canLay0&&Mz qs)=N3;rw[a2,j];rfl
theorem cA{M:Mem}:∀(n:Nat) (d:D) (p:Mr),rb n M d=Z p->p.depth<=n/\p.canLay0=N3
 |n,.non,p,h=>by simp[rb]at h;subst h;exact⟨Nv _,rfl⟩
 |n,.bl b,p,h=>by simp[rb]at h;subst h;exact⟨Nv _,rfl⟩
 |n,.int b,p,h=>by simp[rb]at h;subst h;exact⟨Nv _,rfl⟩
 |n,.str x,p,h=>by simp[rb]at h;obtain⟨h1,h2⟩:=h;subst h2;exact⟨Nv _,h1⟩
 |0,.tup _,p,h=>by simp[rb]at h
 |0,.con _,p,h=>by simp[rb]at h
 |0,.ref _,p,h=>by simp[rb]at h
 |n,.fn _,p,h=>by simp[rb]at h
 |n+1,.tup ds,p,h=>by
  simp only[rb]at h
  cases e:ay (rb n M) ds with
  |none=>rw[e]at h;cases h
  |some ps=>rw[e]at h;cases h;obtain⟨a,b⟩:=dD (cA n) e;exact⟨RN a,b⟩
 |n+1,.con ds,p,h=>by
  simp only[rb]at h
  cases e:ay (rb n M) ds with
  |none=>rw[e]at h;cases h
  |some ps=>rw[e]at h;cases h;obtain⟨a,b⟩:=dD (cA n) e;exact⟨RN a,b⟩
 |n+1,.ref a,p,h=>by
  simp only[rb]at h
  cases e0:M a with
  |none=>rw[e0]at h;cases h
  |some o=>
   rw[e0]at h
   cases o with
   |dct _ _=>cases h
   |fdc _=>cases h
   |dcn _=>cases h
   |tab _ _=>cases h
   |fdn _=>cases h
   |lst ds=>
    simp only at h
    cases e:ay (rb n M) ds with
    |none=>rw[e]at h;cases h
    |some ps=>rw[e]at h;cases h;obtain⟨a,b⟩:=dD (cA n) e;exact⟨RN a,b⟩
theorem dE{K:Frag}{H:Hp}{n:Nat}{M:Mem}{h:Heap}(ih:∀d p v u,rb n M d=Z p->RD K H d v->RelV v u->∃as,Pq h u p as):
 ∀{ds:List D} {ps:List Mr} {vs:List V} {us:List i3},ay (rb n M) ds=Z ps->RDs K H ds vs->Vals vs us->∃as,SU h us ps as
 |[],ps,vs,us,hm,r,rv=>by
  simp[ay]at hm;subst hm;rw[RDs.nil_iff.mp r]at rv
  cases rv
  exact⟨_,.nil⟩
 |d::ds,ps,vs,us,hm,r,rv=>by
  obtain⟨v,vr,rfl,j,z⟩:=Vw.mp r
  cases rv with
  |cons B F=>
   simp only[ay]at hm
   cases e1:rb n M d with
   |none=>rw[e1]at hm;cases hm
   |some p=>
    rw[e1]at hm
    cases e2:ay (rb n M) ds with
    |none=>simp[e2]at hm
    |some qs=>simp[e2]at hm;subst hm;obtain⟨as,ra⟩:=ih d p v _ e1 j B;obtain⟨bs,rbs⟩:=dE ih e2 z F;exact⟨_,.cons ra rbs⟩
theorem bH{pins:List (VQ×Obj)}{σ:St}{H:Hp}{s:r0}{M:Mem}(I:Inv X pins σ H s)(rm:RM X.K M H):∀(n:Nat) (d:D) (p:Mr) (v:V) (u:i3),rb n M d=Z p->RD X.K H d v->RelV v u->∃as,Pq s.heap u p as
 |n,.non,p,v,u,h,r,q=>by simp[rb]at h;subst h;cases VA.mp r;cases q;exact⟨_,.none⟩
 |n,.bl b,p,v,u,h,r,q=>by simp[rb]at h;subst h;cases Vv.mp r;cases q;exact⟨_,.bool b⟩
 |n,.int b,p,v,u,h,r,q=>by simp[rb]at h;subst h;cases Vt.mp r;obtain⟨t,rfl⟩:=q;exact⟨_,.int b t⟩
 |n,.str x,p,v,u,h,r,q=>by simp[rb]at h;obtain⟨_,h2⟩:=h;subst h2;cases VB.mp r;obtain⟨t,rfl⟩:=q;exact⟨_,.str x t⟩
 |0,.tup _,p,_,_,h,_,_=>by simp[rb]at h
 |0,.con _,p,_,_,h,_,_=>by simp[rb]at h
 |0,.ref _,p,_,_,h,_,_=>by simp[rb]at h
 |n,.fn _,p,_,_,h,_,_=>by simp[rb]at h
 |n+1,.tup ds,p,v,u,h,r,q=>by
  simp only[rb]at h
  cases e:ay (rb n M) ds with
  |none=>rw[e]at h;cases h
  |some ps=>
   rw[e]at h;cases h;obtain⟨a,vs,rfl,j,rs⟩:=Vz r
   cases q
   obtain⟨its,rv,⟨o,ho,z,k,hd⟩,_⟩:=I.tuple j;obtain⟨as,ra⟩:=dE (bH I rm n) e rs rv;exact⟨_,.tuple ho z hd (by simpa using ra)⟩
 |n+1,.con ds,p,v,u,h,r,q=>by
  simp only[rb]at h
  cases e:ay (rb n M) ds with
  |none=>rw[e]at h;cases h
  |some ps=>
   rw[e]at h;cases h;obtain⟨a,vs,rfl,j,rs⟩:=Vy.mp r
   cases q
   obtain⟨its,rv,⟨o,k,ho,z,_,hd⟩,_⟩:=I.list j.sq;obtain⟨as,ra⟩:=dE (bH I rm n) e rs rv;exact⟨_,.list ho z hd (by simpa using ra)⟩
 |n+1,.ref a,p,v,u,h,r,q=>by
  simp only[rb]at h
  cases e0:M a with
  |none=>rw[e0]at h;cases h
  |some o=>
   rw[e0]at h
   cases o with
   |dct _ _=>cases h
   |fdc _=>cases h
   |dcn _=>cases h
   |tab _ _=>cases h
   |fdn _=>cases h
   |lst ds=>
    simp only at h
    cases e:ay (rb n M) ds with
    |none=>rw[e]at h;cases h
    |some ps=>
     rw[e]at h;cases h
     cases Vu.mp r
     cases q
     obtain⟨vs,j,rs⟩:=rm _ _ e0;obtain⟨its,rv,⟨o,k,ho,z,_,hd⟩,_⟩:=I.list (SqL.of j);obtain⟨as,ra⟩:=dE (bH I rm n) e rs rv;exact⟨_,.list ho z hd (by simpa using ra)⟩
noncomputable def wEq:R2d:=λx y M Q=>∃p q,rb 16 M x=Z p/\rb 16 M y=Z q/\Q (.bl (LV p q)) M
noncomputable def wNe:R2d:=λx y M Q=>∃p q,rb 16 M x=Z p/\rb 16 M y=Z q/\Q (.bl (!PyData.eqv p q)) M
theorem AR:aO wEq:=λ_ _ _ _ _ h j=>(by obtain⟨p,q,a,b,c⟩:=j;exact⟨p,q,a,b,h _ _ c⟩)
theorem AS:aO wNe:=λ_ _ _ _ _ h j=>(by obtain⟨p,q,a,b,c⟩:=j;exact⟨p,q,a,b,h _ _ c⟩)
theorem AT(F:X.A.units+16<Oa):OpR X (Ny .Eq) (l2 X.K wEq):=by intro pins s σ H x y v u Q I rx ry h;obtain⟨d,e,M,rm,rd,re,p,q,j,z,k⟩:=h;obtain⟨as,ra⟩:=bH I rm _ _ _ _ _ j rd rx;obtain⟨bs,rb'⟩:=bH I rm _ _ _ _ _ z re ry;obtain⟨G,p2⟩:=cA _ _ _ j;obtain⟨J,B⟩:=cA _ _ _ z;exact SeqAt.compareEq_reads ra rb' p2 B ∅ ⟨.bl _,H,I,rfl,k _ H Ext.refl rm (Vv.mpr rfl)⟩
theorem AU(F:X.A.units+16<Oa):OpR X (Ny .NotEq) (l2 X.K wNe):=by intro pins s σ H x y v u Q I rx ry h;obtain⟨d,e,M,rm,rd,re,p,q,j,z,k⟩:=h;obtain⟨as,ra⟩:=bH I rm _ _ _ _ _ j rd rx;obtain⟨bs,rb'⟩:=bH I rm _ _ _ _ _ z re ry;obtain⟨G,p2⟩:=cA _ _ _ j;obtain⟨J,B⟩:=cA _ _ _ z;exact SeqAt.compareNe_reads ra rb' p2 B ∅ ⟨.bl _,H,I,rfl,k _ H Ext.refl rm (Vv.mpr rfl)⟩
noncomputable def wLt:R2d
 |.int i,.int j,M,Q=>Q (.bl (decide (i<j))) M
 |_,_,_,_=>False
noncomputable def wGt:R2d
 |.int i,.int j,M,Q=>Q (.bl (decide (j<i))) M
 |_,_,_,_=>False
noncomputable def wGe:R2d
 |.int i,.int j,M,Q=>Q (.bl (decide (j<=i))) M
 |_,_,_,_=>False
theorem AV:aO wLt:=by
 intro x y M Q Q' h q
 cases x<;>cases y<;>first|exact q.elim|exact h _ _ q
theorem AW:aO wGt:=by
 intro x y M Q Q' h q
 cases x<;>cases y<;>first|exact q.elim|exact h _ _ q
theorem AX:aO wGe:=by
 intro x y M Q Q' h q
 cases x<;>cases y<;>first|exact q.elim|exact h _ _ q
theorem AY:OpR X (Ny .Lt) (l2 X.K wLt):=by
 refine OpR.of ED λv u H Q h=>?_;obtain⟨x,y,M,rm,rx,ry,q⟩:=h
 cases x<;>cases y<;>first
  |exact q.elim
  |(cases Vt.mp rx;cases Vt.mp ry;exact⟨_,_,rfl,rfl,q _ H Ext.refl rm (Vv.mpr rfl)⟩)
theorem AZ:OpR X (Ny .Gt) (l2 X.K wGt):=by
 refine OpR.of EE λv u H Q h=>?_;obtain⟨x,y,M,rm,rx,ry,q⟩:=h
 cases x<;>cases y<;>first
  |exact q.elim
  |(cases Vt.mp rx;cases Vt.mp ry;exact⟨_,_,rfl,rfl,q _ H Ext.refl rm (Vv.mpr rfl)⟩)
theorem B0:OpR X (Ny .GtE) (l2 X.K wGe):=by
 refine OpR.of EF λv u H Q h=>?_;obtain⟨x,y,M,rm,rx,ry,q⟩:=h
 cases x<;>cases y<;>first
  |exact q.elim
  |(cases Vt.mp rx;cases Vt.mp ry;exact⟨_,_,rfl,rfl,q _ H Ext.refl rm (Vv.mpr rfl)⟩)
end
end
variable{a:VQ}{ds:List D}{vs:List V}{d x:D}{kvs:List (D×D)}
section
noncomputable def wIx:R2d:=λx y M Q=>match x with
 |.tup ds=>∃i d,y=.int i/\atI ds i=Z d/\Q d M
 |.con ds=>∃i d,y=.int i/\atI ds i=Z d/\Q d M
 |.ref a=>(∃ds i d,M a=Z (.lst ds)/\y=.int i/\atI ds i=Z d/\Q d M)∨(∃t kvs d,M a=Z (.dct t kvs)/\eQ t y=N3/\dget kvs y=Z d/\Q d M)∨∃kvs d,M a=Z (.fdc kvs)/\dZ y=N3/\dget kvs y=Z d/\Q d M
 |_=>False
theorem rP:aO wIx:=by
 intro x y M Q Q' h q
 cases x with
 |tup ds=>obtain⟨i,d,e,j,q⟩:=q;exact⟨i,d,e,j,h _ _ q⟩
 |con ds=>obtain⟨i,d,e,j,q⟩:=q;exact⟨i,d,e,j,h _ _ q⟩
 |ref a=>
  rcases q with⟨ds,i,d,z,j,B,q⟩|⟨t,kvs,d,z,j,B,q⟩|⟨kvs,d,z,j,B,q⟩
  ·exact .inl ⟨ds,i,d,z,j,B,h _ _ q⟩
  ·exact .inr (.inl ⟨t,kvs,d,z,j,B,h _ _ q⟩)
  ·exact .inr (.inr ⟨kvs,d,z,j,B,h _ _ q⟩)
 |_=>exact q.elim
theorem jO{i:Int}(r:RDs K H ds vs)(e:atI ds i=Z d):∃v,atI vs i=Z v/\RD K H d v:=by
 unfold atI at e⊢;rw[r.length]
 cases q:ixN ds.length i with
 |none=>rw[q]at e;cases e
 |some j=>rw[q]at e;exact r.get e
theorem kS{k:D}{q:Key}(r:RKey k q)(h:RD K H k v):v=kV q:=by
 cases k<;>first
  |exact r.elim
  |(cases(show q=_ from r);first|exact Vt.mp h|exact VB.mp h)
theorem ja{K:Frag}{H:Hp}:∀{ds:List D} {ks:List Key} {vs:List V},Mo RKey ds ks->RDs K H ds vs->vs=ks.map kV
 |_,_,vs,.nil,h=>by rw[RDs.nil_iff.mp h];rfl
 |_,_,vs,.cons r t,h=>by obtain⟨v,vr,rfl,h1,h2⟩:=Vw.mp h;rw[kS r h1,ja t h2];rfl
theorem RKey.inj{e:D}{k:Key}(a:RKey d k)(b:RKey e k):d=e:=by
 cases d<;>first
  |exact a.elim
  |(cases e<;>first|exact b.elim|(cases(show k=_ from a);injection (show _=_ from b)with z;rw[z])|(cases(show k=_ from a);cases(show _=_ from b)))
theorem RKeysP.inj:∀{d e:List D} {k:List Key},Mo RKey d k->Mo RKey e k->d=e
 |_,_,_,.nil,.nil=>rfl
 |_,_,_,.cons r t,.cons r' t'=>by rw[r.inj r',RKeysP.inj t t']
theorem RKeys.inj{e:D}{k:List Key}(a:RKeys d k)(b:RKeys e k):d=e:=by
 cases d<;>first
  |exact a.elim
  |(cases e<;>first|exact b.elim|exact congrArg D.tup (RKeysP.inj a b))
theorem RKey.fun{k k':Key}(a:RKey d k)(b:RKey d k'):k=k':=by
 cases d<;>first
  |exact a.elim
  |(cases(show k=_ from a);cases(show k'=_ from b);rfl)
theorem RKeysP.fun:∀{d:List D} {k k':List Key},Mo RKey d k->Mo RKey d k'->k=k'
 |_,_,_,.nil,.nil=>rfl
 |_,_,_,.cons r t,.cons r' t'=>by rw[r.fun r',RKeysP.fun t t']
theorem RKeys.fun{k k':List Key}(a:RKeys d k)(b:RKeys d k'):k=k':=by
 cases d<;>first
  |exact a.elim
  |exact RKeysP.fun a b
section
variable{κ:Type}[DecidableEq κ]{K:Frag}{H:Hp}{RK:D->κ->Prop}(inj:∀{d e:D} {k:κ},RK d k->RK e k->d=e)(fn:∀{d:D} {k k':κ},RK d k->RK d k'->k=k')
include inj fn
theorem jb{k:D}{q:κ}(j:RK k q):∀{kvs:List (D×D)} {ps:List (κ×V)},Mo (λp r=>RK p.1 r.1/\RD K H p.2 r.2) kvs ps->
 (∀d,dget kvs k=Z d->∃v,bZ ps q=Z v/\RD K H d v)/\(dget kvs k=Y->bZ ps q=Y)
 |_,_,.nil=>⟨λd e=>by simp[dget]at e,λ_=>rfl⟩
 |_,_,.cons (a:=p) (b:=r) (l₂:=ps) B t=>by
  obtain⟨F,G⟩:=jb j t
  by_cases e:p.1=k
  ·have e':r.1=q:=by
    have h1:=B.1;rw[e]at h1;exact fn h1 j
   refine⟨λd he=>?_,λhe=>?_⟩
   ·simp[dget,MM,e]at he;subst he;exact⟨r.2,fV e',B.2⟩
   ·simp[dget,MM,e]at he
  ·have e':¬r.1=q:=fun z=>e (by
    have h1:=B.1;rw[z]at h1;exact inj h1 j)
   have eq1:∀l:List (D×D),dget (p::l) k=dget l k:=λl=>by simp[dget,MM,e]
   have eq2:bZ (r::ps) q=bZ ps q:=fW e';refine⟨λd he=>?_,λhe=>?_⟩
   ·rw[eq1]at he;rw[eq2];exact F d he
   ·rw[eq1]at he;rw[eq2];exact G he
end
section
variable{X:Cx}
theorem oZ{ps:List (List Key×V)}{k:D}(B:Rd H a (.dT ps))(pr:Mo (λ(p:D×D) (q:List Key×V)=>RKeys p.1 q.1/\RD K H p.2 q.2) kvs ps)(ok:dZ k=N3)(rk:RD K H k v):
 ∃o,DGet H a v o/\(∀d,dget kvs k=Z d->∃w,o=Z w/\RD K H d w)/\(dget kvs k=Y->o=Y):=by
 obtain⟨q,j⟩:=rN ok;obtain⟨g1,g2⟩:=jb (RK:=RKeys) RKeys.inj RKeys.fun j pr;refine⟨bZ ps q,?_,g1,g2⟩
 cases k<;>first
  |exact j.elim
  | (obtain⟨b,us,rfl,z,ru⟩:=VO (rO ok) rk
     rw[ja j ru]at z;exact .inr ⟨ps,q,b,B,rfl,z,rfl⟩)
theorem kT{t:Bool}{k:D}(rm:RM K M H)(e:M a=Z (.dct t kvs))(ok:eQ t k=N3)(rk:RD K H k v):
 ∃o,DGet H a v o/\(∀d,dget kvs k=Z d->∃w,o=Z w/\RD K H d w)/\(dget kvs k=Y->o=Y):=by
 have ro:=rm a _ e
 cases t with
 |false=>obtain⟨ps,j,pr⟩:=ro;obtain⟨q,z⟩:=oQ (show fZ k=N3 from ok);obtain⟨g1,g2⟩:=jb (RK:=RKey) RKey.inj RKey.fun z pr;refine⟨bZ ps q,?_,g1,g2⟩;rw[kS z rk];exact DGet.k j
 |true=>obtain⟨ps,j,pr⟩:=ro;exact oZ (.inl j) pr ok rk
theorem B1(j:X.A.units+1<Oa):IxR X (λx y H Q=>∃a v,x=.ref a/\DGet H a y (Z v)/\Q v H):=by
 intro value slice pins s σ H x y v u Q I rx ry h hs;obtain⟨a,w,rfl,g,q⟩:=h
 cases rx
 have hd:IsD H a:=by
  rcases g with⟨kvs,k,e,_⟩|⟨kvs,k,b,e,_⟩
  ·exact .inl ⟨kvs,e⟩
  ·exact .inr ⟨kvs,e⟩
 obtain⟨z,_⟩:=jH I hd;exact tail_any z PySem.F.slot_dict_getitem.lookup (v7 j I g ry λw' s' I' r'=>⟨w,H,I',r',q⟩) hs
theorem G6(G:X.A.units+1<Oa):IxR X (l2 X.K wIx):=by
 refine IxR.of (ix_list.or (ix_tup.or (B1 G))) λv u H Q h=>?_;obtain⟨x,y,M,rm,rx,ry,q⟩:=h
 cases x with
 |tup ds=>
  obtain⟨i,d,rfl,e,q⟩:=q;obtain⟨a,vs,rfl,j,rs⟩:=Vz rx
  cases Vt.mp ry
  obtain⟨w,hw,rw'⟩:=jO rs e;exact .inr (.inl ⟨a,vs,i,w,rfl,rfl,j,hw,q w H Ext.refl rm rw'⟩)
 |con ds=>
  obtain⟨i,d,rfl,e,q⟩:=q;obtain⟨a,vs,rfl,j,rs⟩:=Vy.mp rx
  cases Vt.mp ry
  obtain⟨w,hw,rw'⟩:=jO rs e;exact .inl ⟨a,vs,i,w,rfl,rfl,j.sq,hw,q w H Ext.refl rm rw'⟩
 |ref a=>
  cases Vu.mp rx
  rcases q with⟨ds,i,d,z,rfl,B,q⟩|⟨t,kvs,d,z,F,B,q⟩|⟨kvs,d,z,F,B,q⟩
  ·cases Vt.mp ry
   obtain⟨vs,j,rs⟩:=rm _ _ z;obtain⟨w,hw,rw'⟩:=jO rs B;exact .inl ⟨a,vs,i,w,rfl,rfl,SqL.of j,hw,q w H Ext.refl rm rw'⟩
  ·obtain⟨o,g,g1,_⟩:=kT rm z F ry;obtain⟨w,rfl,rw'⟩:=g1 d B;exact .inr (.inr ⟨a,w,rfl,g,q w H Ext.refl rm rw'⟩)
  ·obtain⟨ob,ps,J,pr⟩:=rm _ _ z;obtain⟨o,g,g1,_⟩:=oZ (.inr ⟨ob,J⟩) pr F ry;obtain⟨w,rfl,rw'⟩:=g1 d B;exact .inr (.inr ⟨a,w,rfl,g,q w H Ext.refl rm rw'⟩)
 |_=>exact q.elim
noncomputable def p8(M:Mem):D->Option Nat
 |.tup ds=>Z ds.length
 |.con ds=>Z ds.length
 |.ref a=>match M a with
  |some (.lst ds)=>Z ds.length
  |_=>Y
 |_=>Y
noncomputable def fw:RAd:=λxs M Q=>∃x n,xs=[x]/\p8 M x=Z n/\Q (.int n) M
theorem pe:aK fw:=λ_ _ _ _ h j=>(by obtain⟨x,n,e,l,q⟩:=j;exact⟨x,n,e,l,h _ _ q⟩)
theorem RDs.one(h:RDs K H [d] vs):∃v,vs=[v]/\RD K H d v:=by obtain⟨v,r,rfl,h1,h2⟩:=Vw.mp h;rw[RDs.nil_iff.mp h2];exact⟨v,rfl,h1⟩
theorem RDs.two{e:D}(h:RDs K H [d,e] vs):∃v u,vs=[v,u]/\RD K H d v/\RD K H e u:=by obtain⟨v,r,rfl,h1,h2⟩:=Vw.mp h;obtain⟨u,rfl,j⟩:=RDs.one h2;exact⟨v,u,rfl,h1,j⟩
theorem tG:CallR X (.builtin "len") (lR X.K fw):=by
 refine CallR.of xK λvs H Q h=>?_;obtain⟨ds,M,rm,rs,x,n,rfl,l,q⟩:=h;obtain⟨v,rfl,r⟩:=rs.one;refine⟨v,n,rfl,?_,q _ H Ext.refl rm (Vt.mpr rfl)⟩
 cases x with
 |tup ds=>
  cases l
  obtain⟨a,us,rfl,j,ru⟩:=Vz r;exact .inr ⟨us,j,ru.length.symm⟩
 |con ds=>
  cases l
  obtain⟨a,us,rfl,j,ru⟩:=Vy.mp r;exact .inl ⟨us,j.sq,ru.length.symm⟩
 |ref a=>
  cases Vu.mp r
  simp only[p8]at l
  cases e:M a with
  |none=>rw[e]at l;cases l
  |some o=>
   rw[e]at l
   cases o with
   |dct _ _=>cases l
   |fdc _=>cases l
   |dcn _=>cases l
   |tab _ _=>cases l
   |fdn _=>cases l
   |lst ds=>
    cases l
    obtain⟨us,j,ru⟩:=rm _ _ e;exact .inl ⟨us,SqL.of j,ru.length.symm⟩
 |_=>cases l
noncomputable def kU:RAd:=λxs M Q=>∃i,xs=[.int i]/\Q (.int (if i<0 then -i else i)) M
noncomputable def jP:RAd:=λxs M Q=>∃i j,xs=[.int i,.int j]/\Q (.int (if j > i then j else i)) M
noncomputable def jQ:RAd:=λxs M Q=>∃i j,xs=[.int i,.int j]/\Q (.int (if j<i then j else i)) M
noncomputable def kW:RAd:=λxs M Q=>(∃i,xs=[.int i]/\Q (.int i) M)∨∃k,xs=[.bl k]/\Q (.int (if k then 1 else 0)) M
theorem pi:aK kU:=λ_ _ _ _ h j=>(by obtain⟨i,e,q⟩:=j;exact⟨i,e,h _ _ q⟩)
theorem mG:aK jP:=λ_ _ _ _ h z=>(by obtain⟨i,j,e,q⟩:=z;exact⟨i,j,e,h _ _ q⟩)
theorem mH:aK jQ:=λ_ _ _ _ h z=>(by obtain⟨i,j,e,q⟩:=z;exact⟨i,j,e,h _ _ q⟩)
theorem pj:aK kW:=λ_ _ _ _ h q=>q.elim (λj=>(by obtain⟨i,e,q⟩:=j;exact .inl ⟨i,e,h _ _ q⟩)) λj=>(by obtain⟨i,e,q⟩:=j;exact .inr ⟨i,e,h _ _ q⟩)
theorem tH:CallR X (.builtin "abs") (lR X.K kU):=by
 refine CallR.of xJ λvs H Q h=>?_;obtain⟨ds,M,rm,rs,i,rfl,q⟩:=h;obtain⟨v,rfl,r⟩:=rs.one
 cases Vt.mp r
 exact⟨i,rfl,q _ H Ext.refl rm (Vt.mpr rfl)⟩
theorem r6(z:X.calm=N3):CallR X (.builtin "max") (lR X.K jP):=by
 refine CallR.of (uT z) λvs H Q h=>?_;obtain⟨ds,M,rm,rs,i,j,rfl,q⟩:=h;obtain⟨v,u,rfl,B,F⟩:=rs.two
 cases Vt.mp B
 cases Vt.mp F
 exact⟨i,j,rfl,q _ H Ext.refl rm (Vt.mpr rfl)⟩
theorem r8(z:X.calm=N3):CallR X (.builtin "min") (lR X.K jQ):=by
 refine CallR.of (uU z) λvs H Q h=>?_;obtain⟨ds,M,rm,rs,i,j,rfl,q⟩:=h;obtain⟨v,u,rfl,B,F⟩:=rs.two
 cases Vt.mp B
 cases Vt.mp F
 exact⟨i,j,rfl,q _ H Ext.refl rm (Vt.mpr rfl)⟩
theorem tI:CallR X (.type "int") (lR X.K kW):=by
 refine CallR.of uV λvs H Q h=>?_;obtain⟨ds,M,rm,rs,⟨i,rfl,q⟩|⟨i,rfl,q⟩⟩:=h
 ·obtain⟨v,rfl,r⟩:=rs.one
  cases Vt.mp r
  exact .inl ⟨i,rfl,q _ H Ext.refl rm (Vt.mpr rfl)⟩
 ·obtain⟨v,rfl,r⟩:=rs.one
  cases Vv.mp r
  exact .inr ⟨i,rfl,q _ H Ext.refl rm (Vt.mpr rfl)⟩
noncomputable def aM(M:Mem):D->Option (List D)
 |.tup ds=>Z ds
 |.con ds=>Z ds
 |.ref a=>match M a with
  |some (.lst ds)=>Z ds
  |_=>Y
 |_=>Y
theorem pC(rm:RM K M H)(r:RD K H x v)(e:aM M x=Z ds):∃p vs,v=.ref p/\(SqL K H p vs∨SqT K H p vs)/\RDs K H ds vs:=by
 cases x with
 |tup es=>
  cases e
  obtain⟨a,us,rfl,j,ru⟩:=Vz r;exact⟨a,us,rfl,.inr j,ru⟩
 |con es=>
  cases e
  obtain⟨a,us,rfl,j,ru⟩:=Vy.mp r;exact⟨a,us,rfl,.inl j.sq,ru⟩
 |ref a=>
  cases Vu.mp r
  simp only[aM]at e
  cases e0:M a with
  |none=>rw[e0]at e;cases e
  |some o=>
   rw[e0]at e
   cases o with
   |dct _ _=>cases e
   |fdc _=>cases e
   |dcn _=>cases e
   |tab _ _=>cases e
   |fdn _=>cases e
   |lst es=>
    cases e
    obtain⟨us,j,ru⟩:=rm _ _ e0;exact⟨a,us,rfl,.inl (SqL.of j),ru⟩
 |_=>cases e
noncomputable def nP:RAd:=λxs M Q=>∃x ds,xs=[x]/\aM M x=Z ds/\∀p,M p=Y->Q (.ref p) (ag M p (.lst ds))
noncomputable def jR:RAd:=λxs M Q=>∃x ds,xs=[x]/\aM M x=Z ds/\Q (.tup ds) M
theorem mJ:aK nP:=λ_ _ _ _ h j=>(by obtain⟨x,ds,e,l,q⟩:=j;exact⟨x,ds,e,l,λp n=>h _ _ (q p n)⟩)
theorem jS:aK jR:=λ_ _ _ _ h j=>(by obtain⟨x,ds,e,l,q⟩:=j;exact⟨x,ds,e,l,h _ _ q⟩)
theorem r9:CallR X (.type "list") (lR X.K nP):=by refine CallR.of oI λvs H Q h=>?_;obtain⟨ds,M,rm,rs,x,es,rfl,l,q⟩:=h;obtain⟨v,rfl,r⟩:=rs.one;obtain⟨p,us,rfl,sq,ru⟩:=pC rm r l;exact⟨p,us,rfl,sq,λl' n=>cW rm ru q n⟩
theorem pE:CallR X (.type "tuple") (lR X.K jR):=by
 refine CallR.of nK λvs H Q h=>?_;obtain⟨ds,M,rm,rs,x,es,rfl,l,q⟩:=h;obtain⟨v,rfl,r⟩:=rs.one
 cases x with
 |tup ds'=>
  cases l
  obtain⟨a,us,rfl,j,ru⟩:=Vz r;exact⟨a,us,rfl,.inr ⟨j,q _ H Ext.refl rm r⟩⟩
 |con ds'=>
  cases l
  obtain⟨a,us,rfl,j,ru⟩:=Vy.mp r;exact⟨a,us,rfl,.inl ⟨j.sq,λl' n=>dM rm ru q n⟩⟩
 |ref a=>
  cases Vu.mp r
  simp only[aM]at l
  cases e0:M a with
  |none=>rw[e0]at l;cases l
  |some o=>
   rw[e0]at l
   cases o with
   |dct _ _=>cases l
   |fdc _=>cases l
   |dcn _=>cases l
   |tab _ _=>cases l
   |fdn _=>cases l
   |lst es'=>
    cases l
    obtain⟨us,j,ru⟩:=rm _ _ e0;exact⟨a,us,rfl,.inl ⟨SqL.of j,λl' n=>dM rm ru q n⟩⟩
 |_=>cases l
end
end
variable{e:Expr}{tA:TTd}
section
section
variable{X:Cx}
noncomputable def tJ:RAd:=λxs M Q=>∃(x:D) (ns:List Int),xs=[x]/\aM M x=Z (ns.map D.int)/\Q (.int ns.sum) M
theorem pF:aK tJ:=λ_ _ _ _ h j=>(by obtain⟨x,ds,e,l,q⟩:=j;exact⟨x,ds,e,l,h _ _ q⟩)
theorem VI{K:Frag}{H:Hp}:∀{ns:List Int} {vs:List V},RDs K H (ns.map D.int) vs->vs=ns.map V.int
 |[],_,h=>RDs.nil_iff.mp h
 |n::ns,_,h=>by obtain⟨v,r,rfl,h1,h2⟩:=Vw.mp h;rw[Vt.mp h1,VI h2];rfl
theorem pG{pins:List (VQ×Obj)}{σ:St}{s:r0}{p:VQ}{ns:List Int}{its:List i3}(I:Inv X pins σ H s)(O:X.calm=N3)(rv:Vals (ns.map V.int) its)(q:Q (.int ns.sum) H)(h:∀(R:i3->r0->Prop),(∀I' St fp,(∀b∈fp,b<(s.heap.push I').objs.size)->St 0 (s.heap.push I')->Walks X.prog X.w X.A.in1 s.heap.objs.size fp [s.heap.objs.size] its.toArray.size (λi v=>its.toArray[i]?=Z v) St->R (.ref s.heap.objs.size) {s with heap:=s.heap.push I'})->KU (model X.prog X.w) X.A.in1 (S0 (.ref p)) R X.xe s):
 KU (model X.prog X.w) X.A (call (.builtin "sum") [.ref p]) (EP X pins σ Q) X.xe s:=by
 refine call_sum_walkG (h _ λob St fp z st W=>⟨_,fp,_,_,_,St,λi=>ns.getD i 0,rfl,W,st,z,λi v F=>?_,λh' tk t' G=>?_⟩)
 ·have j:its[i]?=Z v:=by simpa using F
  have J:=rv.length;rw[q7]at J;have hi:i<its.length:=(KN.mp j).1;have L:(ns.map V.int)[i]?=Z (.int (ns.getD i 0)):=by
   rw[KL,y3 ∅]
   simp[I7,y3 (show i<ns.length by lia)]
  obtain⟨u,B,t,rfl⟩:=rv.get L;rw[j]at B;cases B;exact⟨t,rfl⟩
 ·have e:preSum (fun i=>ns.getD i 0) its.toArray.size=ns.sum:=by
   rw[preSum_getD,KR,<-rv.length,q7,List.take_length]
  rw[e];refine⟨.int ns.sum,H,I.kept (h':=h') (t':=tk) λb o eb=>?_,⟨t',rfl⟩,q⟩;exact G b o (by simp;exact Lc (z4 eb)) (p0 _ eb)
theorem tK(B:X.calm=N3):CallR X (.builtin "sum") (lR X.K tJ):=by
 intro pins s σ H xs us Q I rv h;obtain⟨ds,M,rm,rs,x,ns,rfl,l,q⟩:=h;obtain⟨v,rfl,r⟩:=rs.one;obtain⟨u,rfl,ru⟩:=dC rv;obtain⟨p,vs,rfl,sq,L⟩:=pC rm r l
 cases ru
 have e:=VI L;subst e;have fin:=q (.int ns.sum) H Ext.refl rm (Vt.mpr rfl)
 rcases sq with sq|sq
 ·obtain⟨its,rv,pl,O⟩:=I.list sq;have F:p≠s.heap.objs.size:=by
   obtain⟨o,n,e,_⟩:=pl;exact Lc (z4 e)
  refine pG I B rv fin λR G=>Nb pl.isList ?_;refine G _ _ [s.heap.objs.size,p] (λb J=>?_) ⟨⟨_,KG _ rfl,rfl,rfl⟩,pl.isList.at λo e=>p0 _ e⟩ (Walks.list (by rw[PF];exact I.ok.hd B) s.heap.objs.size p F its.toArray)
  rw[MD]
  rcases KH.mp J with z|z
  ·lia
  ·have z':b=p:=by simpa using z
   subst z';obtain⟨o,n,e,_⟩:=pl;exact Rm (z4 e)
 ·obtain⟨its,rv,pl,O⟩:=I.tuple sq;have j:p<s.heap.objs.size:=by
   obtain⟨o,e,_⟩:=pl;exact z4 e
  refine pG I B rv fin λR G=>MJ (show s.heap.IsTuple p its.toArray from pl) ?_;refine G _ _ [s.heap.objs.size,p] (λb J=>?_) ⟨⟨_,KG _ rfl,rfl,rfl⟩,?_⟩ (Walks.tuple (by rw[PF];exact I.ok.hd B) s.heap.objs.size p (Lc j) its.toArray)
  ·rw[MD]
   rcases KH.mp J with z|z
   ·lia
   ·have z':b=p:=by simpa using z
    rw[z'];exact Rm j
  ·obtain⟨o,e,c,n,d⟩:=pl;exact⟨o,p0 _ e,c,n,d⟩
noncomputable def yp(M:Mem):D->Option Bool
 |.non=>Z VP
 |.bl b=>Z b
 |.int i=>Z (i != 0)
 |.tup ds=>Z (!ds.isEmpty)
 |.con ds=>Z (!ds.isEmpty)
 |.ref a=>match M a with
  |some (.lst ds)=>Z (!ds.isEmpty)
  |_=>Y
 |_=>Y
noncomputable def tL(t:TEd):TTd:=λρ M Q=>t ρ M λx M1=>∃b,yp M1 x=Z b/\Q b M1
theorem yq{t:TEd}(h:ad t):aP (tL t):=λρ M Q Q' i q=>h _ _ _ _ (λx B j=>(by obtain⟨k,e,z⟩:=j;exact⟨k,e,i _ _ z⟩)) q
theorem Dd{b:Bool}(rm:RM K M H)(r:RD K H x v)(e:yp M x=Z b):xH K v H b:=by
 have emp:∀{ds:List D} {vs:List V},RDs K H ds vs->(!ds.isEmpty) = !vs.isEmpty:=λ{ds vs} h=>by
  have l:=h.length
  cases ds<;>cases vs<;>first|rfl|(simp at l)
 cases x with
 |non=>cases e;cases VA.mp r;rfl
 |bl k=>cases e;cases Vv.mp r;rfl
 |int i=>cases e;cases Vt.mp r;rfl
 |tup ds=>
  cases e
  obtain⟨a,vs,rfl,j,rs⟩:=Vz r;exact .inr (.inl ⟨vs,j,emp rs⟩)
 |con ds=>
  cases e
  obtain⟨a,vs,rfl,j,rs⟩:=Vy.mp r;exact .inl ⟨vs,j.sq,emp rs⟩
 |ref a=>
  cases Vu.mp r
  simp only[yp]at e
  cases e0:M a with
  |none=>rw[e0]at e;cases e
  |some o=>
   rw[e0]at e
   cases o with
   |dct _ _=>cases e
   |fdc _=>cases e
   |dcn _=>cases e
   |tab _ _=>cases e
   |fdn _=>cases e
   |lst ds=>
    cases e
    obtain⟨vs,j,rs⟩:=rm _ _ e0;exact .inl ⟨vs,SqL.of j,emp rs⟩
 |str _=>cases e
 |fn _=>cases e
variable{a b:Expr}{ta tb:TEd}{pos:Pos}
theorem De(m:ad ta)(B:PE X a (lE X.K ta))(he:∀whole,isTrue a X.env whole=(do let v <-whole;Ri a.pos;holding [v] (truthy v))):PT X a (lT X.K (tL ta)):=by refine PT.imp (xI B he) λσ H Q h=>?_;obtain⟨ρ,M,rs,rm,q⟩:=h;exact⟨ρ,M,rs,rm,m _ _ _ _ (λx L F v H1 G j z=>(by obtain⟨k,e,J⟩:=F;exact⟨k,Dd j z e,J H1 G j⟩)) q⟩
noncomputable def nQ(t:TTd):TTd:=λρ M Q=>t ρ M λc M1=>Q (!c) M1
theorem vp{t:TTd}(h:aP t):aP (nQ t):=λρ M Q Q' i q=>h _ _ _ _ (λc z j=>i _ _ j) q
theorem Df(m:aP tA)(j:PT X a (lT X.K tA)):PT X (.UnaryOp .Not a pos) (lT X.K (nQ tA)):=by refine PT.imp (Cq j) λσ H Q h=>?_;obtain⟨ρ,M,rs,rm,q⟩:=h;exact⟨ρ,M,rs,rm,m _ _ _ _ (λc B z=>z) q⟩
noncomputable def nR(t u:TTd):TTd:=λρ M Q=>t ρ M λc M1=>if c=N3 then u ρ M1 Q else Q VP M1
noncomputable def tM(t u:TTd):TTd:=λρ M Q=>t ρ M λc M1=>if c=N3 then Q N3 M1 else u ρ M1 Q
theorem vq{t u:TTd}(h:aP t)(k:aP u):aP (nR t u):=λρ M Q Q' i q=>h _ _ _ _ (λc z j=>by
 cases c with
 |true=>rw[if_pos rfl]at j⊢;exact k _ _ _ _ i j
 |false=>rw[if_neg KW]at j⊢;exact i _ _ j) q
theorem yr{t u:TTd}(h:aP t)(k:aP u):aP (tM t u):=λρ M Q Q' i q=>h _ _ _ _ (λc z j=>by
 cases c with
 |true=>rw[if_pos rfl]at j⊢;exact i _ _ j
 |false=>rw[if_neg KW]at j⊢;exact k _ _ _ _ i j) q
theorem B2(j:PT X a (lT X.K tA)):PW X (.BoolOp .And [a] pos) (lT X.K tA):=As j
theorem Dg(j:PT X a (lT X.K tA)):PW X (.BoolOp .Or [a] pos) (lT X.K tA):=Co j
theorem Dh{tB:TTd}{rest:List Expr}(mA:aP tA)(mB:aP tB)(F:PT X a (lT X.K tA))(G:PW X (.BoolOp .And (b::rest) pos) (lT X.K tB)):PW X (.BoolOp .And (a::b::rest) pos) (lT X.K (nR tA tB)):=by
 refine PW.imp (Cp F G) λσ H Q h=>?_;obtain⟨ρ,M,rs,rm,q⟩:=h;refine⟨ρ,M,rs,rm,mA _ _ _ _ (λc J z H1 B j=>?_) q⟩
 cases c with
 |true=>rw[if_pos rfl]at z⊢;exact⟨ρ,J,rs.mono (B.stab rm),j,mB _ _ _ _ (λd M2 k=>k.ext B) z⟩
 |false=>rw[if_neg KW]at z⊢;exact z H1 B j
theorem EX{tB:TTd}{rest:List Expr}(mA:aP tA)(mB:aP tB)(F:PT X a (lT X.K tA))(G:PW X (.BoolOp .Or (b::rest) pos) (lT X.K tB)):PW X (.BoolOp .Or (a::b::rest) pos) (lT X.K (tM tA tB)):=by
 refine PW.imp (Et F G) λσ H Q h=>?_;obtain⟨ρ,M,rs,rm,q⟩:=h;refine⟨ρ,M,rs,rm,mA _ _ _ _ (λc J z H1 B j=>?_) q⟩
 cases c with
 |true=>rw[if_pos rfl]at z⊢;exact z H1 B j
 |false=>rw[if_neg KW]at z⊢;exact⟨ρ,J,rs.mono (B.stab rm),j,mB _ _ _ _ (λd M2 k=>k.ext B) z⟩
noncomputable def nS(ta tb:TEd):TEd:=λρ M Q=>ta ρ M λx M1=>∃c,x=.bl c/\if c=N3 then tb ρ M1 Q else Q (.bl VP) M1
noncomputable def tN(ta tb:TEd):TEd:=λρ M Q=>ta ρ M λx M1=>∃c,x=.bl c/\if c=N3 then Q (.bl N3) M1 else tb ρ M1 Q
noncomputable def nT(ta:TEd):TEd:=λρ M Q=>ta ρ M λx M1=>∃c,x=.bl c/\Q (.bl (!c)) M1
theorem vt(h:ad ta)(k:ad tb):ad (nS ta tb):=λρ M Q Q' i q=>h _ _ _ _ (λx z ⟨c,e,j⟩=>⟨c,e,by
 cases c with
 |true=>rw[if_pos rfl]at j⊢;exact k _ _ _ _ i j
 |false=>rw[if_neg KW]at j⊢;exact i _ _ j⟩) q
theorem yt(h:ad ta)(k:ad tb):ad (tN ta tb):=λρ M Q Q' i q=>h _ _ _ _ (λx z ⟨c,e,j⟩=>⟨c,e,by
 cases c with
 |true=>rw[if_pos rfl]at j⊢;exact i _ _ j
 |false=>rw[if_neg KW]at j⊢;exact k _ _ _ _ i j⟩) q
theorem vw(h:ad ta):ad (nT ta):=λρ M Q Q' i q=>h _ _ _ _ (λx B j=>(by obtain⟨c,e,z⟩:=j;exact⟨c,e,i _ _ z⟩)) q
theorem vx{op:BoolOp}{t:TEd}(h:PE X a (lE X.K t)):PE X (.BoolOp op [a] pos) (lE X.K t):=Cr h
theorem Di{rest:List Expr}(ma:ad ta)(mb:ad tb)(G:PE X a (lE X.K ta))(J:PE X (.BoolOp .And (b::rest) pos) (lE X.K tb)):PE X (.BoolOp .And (a::b::rest) pos) (lE X.K (nS ta tb)):=by
 refine PE.imp (Ct G J) λσ H Q h=>?_;obtain⟨ρ,M,rs,rm,q⟩:=h;refine⟨ρ,M,rs,rm,ma _ _ _ _ (λx L g9 v H1 B j F=>?_) q⟩;obtain⟨c,e,z⟩:=g9;subst e;refine⟨c,Vv.mp F,?_⟩
 cases c with
 |true=>rw[if_pos rfl]at z⊢;exact⟨ρ,L,rs.mono (B.stab rm),j,mb _ _ _ _ (λd M2 k=>k.ext B) z⟩
 |false=>rw[if_neg KW]at z⊢;exact z _ H1 B j (Vv.mpr rfl)
theorem EY{rest:List Expr}(ma:ad ta)(mb:ad tb)(G:PE X a (lE X.K ta))(J:PE X (.BoolOp .Or (b::rest) pos) (lE X.K tb)):PE X (.BoolOp .Or (a::b::rest) pos) (lE X.K (tN ta tb)):=by
 refine PE.imp (Ew G J) λσ H Q h=>?_;obtain⟨ρ,M,rs,rm,q⟩:=h;refine⟨ρ,M,rs,rm,ma _ _ _ _ (λx L g9 v H1 B j F=>?_) q⟩;obtain⟨c,e,z⟩:=g9;subst e;refine⟨c,Vv.mp F,?_⟩
 cases c with
 |true=>rw[if_pos rfl]at z⊢;exact z _ H1 B j (Vv.mpr rfl)
 |false=>rw[if_neg KW]at z⊢;exact⟨ρ,L,rs.mono (B.stab rm),j,mb _ _ _ _ (λd M2 k=>k.ext B) z⟩
theorem Dj(ma:ad ta)(B:PE X a (lE X.K ta)):PE X (.UnaryOp .Not a pos) (lE X.K (nT ta)):=by refine PE.imp (Cu B) λσ H Q h=>?_;obtain⟨ρ,M,rs,rm,q⟩:=h;refine⟨ρ,M,rs,rm,ma _ _ _ _ (λx J g9 v H1 G j z=>?_) q⟩;obtain⟨c,e,F⟩:=g9;subst e;exact⟨c,Vv.mp z,F _ H1 G j (Vv.mpr rfl)⟩
noncomputable def wIf(t:TTd)(ta tb:TEd):TEd:=λρ M Q=>t ρ M λc M1=>if c=N3 then ta ρ M1 Q else tb ρ M1 Q
theorem B3{t:TTd}(h:aP t)(z:ad ta)(B:ad tb):ad (wIf t ta tb):=λρ M Q Q' i q=>h _ _ _ _ (λc F j=>by
 cases c with
 |true=>rw[if_pos rfl]at j⊢;exact z _ _ _ _ i j
 |false=>rw[if_neg KW]at j⊢;exact B _ _ _ _ i j) q
theorem EZ{c:Expr}{t:TTd}(mt:aP t)(ma:ad ta)(mb:ad tb)(G:PT X c (lT X.K t))(J:PE X a (lE X.K ta))(L:PE X b (lE X.K tb)):PE X (.IfExp c a b pos) (lE X.K (wIf t ta tb)):=by
 refine PE.imp (xz G J L) λσ H Q h=>?_;obtain⟨ρ,M,rs,rm,q⟩:=h;refine⟨ρ,M,rs,rm,mt _ _ _ _ (λx F z H1 B j=>?_) q⟩
 cases x with
 |true=>rw[if_pos rfl]at z⊢;exact⟨ρ,F,rs.mono (B.stab rm),j,ma _ _ _ _ (λd M2 k=>k.ext B) z⟩
 |false=>rw[if_neg KW]at z⊢;exact⟨ρ,F,rs.mono (B.stab rm),j,mb _ _ _ _ (λd M2 k=>k.ext B) z⟩
noncomputable def cB(xs:List D)(lo hi:Option Int):List D:=(xs.drop (HT.sIx xs.length 0 lo)).take (HT.sIx xs.length xs.length hi-HT.sIx xs.length 0 lo)
theorem pH(r:RDs K H ds vs)(lo hi:Option Int):RDs K H (cB ds lo hi) (gN vs lo hi):=by unfold cB gN;rw[r.length];exact(r.drop _).take _
noncomputable abbrev TOd:=aq->Mem->(Option Int->Mem->Prop)->Prop
def gc(T:TOd):Prop:=∀ρ M Q Q',(∀d M',Q d M'->Q' d M')->T ρ M Q->T ρ M Q'
noncomputable def iu:TOd:=λ_ M Q=>Q Y M
noncomputable def nU(t:TEd):TOd:=λρ M Q=>t ρ M λx M1=>∃i,x=.int i/\Q (Z i) M1
theorem rf:gc iu:=λ_ _ _ _ h q=>h _ _ q
theorem vy(h:ad ta):gc (nU ta):=λρ M Q Q' i q=>h _ _ _ _ (λx B j=>(by obtain⟨c,e,z⟩:=j;exact⟨c,e,i _ _ z⟩)) q
noncomputable def lO(K:Frag)(T:TOd):TO:=λσ H Q=>∃ρ M,RS K H σ ρ/\RM K M H/\T ρ M (λo M'=>∀H',Ext M H M' H'->RM K M' H'->Q o H')
theorem B4:PO X Y (lO X.K iu):=λpins s σ H Q I h=>by obtain⟨ρ,M,rs,rm,q⟩:=h;exact AF pins s σ H Q I (q H Ext.refl rm)
theorem B5(m:ad ta)(h:PE X e (lE X.K ta)):PO X (Z e) (lO X.K (nU ta)):=λpins s σ H Q I hq=>by obtain⟨ρ,M,rs,rm,q⟩:=hq;refine AG h pins s σ H Q I ⟨ρ,M,rs,rm,m _ _ _ _ (λx G g9 v H1 F j z=>?_) q⟩;obtain⟨i,e,B⟩:=g9;subst e;exact⟨i,Vt.mp z,B H1 F j⟩
noncomputable def fG:D->Option Int->Option Int->Mem->QD->Prop:=λx lo hi M Q=>match x with
 |.tup ds=>Q (.tup (cB ds lo hi)) M
 |.ref a=>∃ds,M a=Z (.lst ds)/\∀p,M p=Y->Q (.ref p) (ag M p (.lst (cB ds lo hi)))
 |.con ds=>∀p,M p=Y->Q (.ref p) (ag M p (.lst (cB ds lo hi)))
 |_=>False
noncomputable def wSl(te:TEd)(tl th:TOd):TEd:=λρ M Q=>te ρ M λx M1=>tl ρ M1 λl M2=>th ρ M2 λu M3=>fG x l u M3 Q
theorem tO{lo hi:Option Int}{Q Q':QD}(h:∀d M',Q d M'->Q' d M')(q:fG x lo hi M Q):fG x lo hi M Q':=by
 cases x with
 |tup ds=>exact h _ _ q
 |ref a=>obtain⟨ds,e,q⟩:=q;exact⟨ds,e,λp n=>h _ _ (q p n)⟩
 |con ds=>exactλp n=>h _ _ (q p n)
 |_=>exact q.elim
theorem B6{tl th:TOd}(m:ad ta)(ml:gc tl)(mh:gc th):ad (wSl ta tl th):=λρ M Q Q' i q=>m _ _ _ _ (λx F j=>ml _ _ _ _ (λl M2 z=>mh _ _ _ _ (λu G B=>tO i B) z) j) q
theorem F4{lo hi:Option Expr}{tl th:TOd}{p2:Pos}(m:ad ta)(ml:gc tl)(mh:gc th)(he:PE X e (lE X.K ta))(hl:PO X lo (lO X.K tl))(hu:PO X hi (lO X.K th)):
 PE X (.Subscript e (.Slice lo hi Y p2) pos) (lE X.K (wSl ta tl th)):=by
 refine PE.imp (xO (sl_tup.or (sl_list.or xQ)) he hl hu) λσ H Q h=>?_;obtain⟨ρ,M,rs,rm,q⟩:=h;refine⟨ρ,M,rs,rm,m _ _ _ _ (λx M1 q1 v H1 O G U=>?_) q⟩;refine⟨ρ,M1,rs.mono (O.stab rm),G,ml _ _ _ _ (λl M2 q2 H2 F2 L=>?_) q1⟩;refine⟨ρ,M2,(rs.mono (O.stab rm)).mono (F2.stab G),L,mh _ _ _ _ (λu M3 z H3 fv j=>?_) q2⟩;have B:=O.trans (F2.trans fv);have F:=(U.mono (F2.stab G)).mono (fv.stab L)
 cases x with
 |tup ds=>
  obtain⟨a,vs,rfl,J,r⟩:=Vz F
  by_cases hw:HT.sIx vs.length 0 l=0/\HT.sIx vs.length vs.length u=vs.length
  ·refine .inr (.inr ⟨a,vs,rfl,J,hw,?_⟩);have e:cB ds l u=ds:=by
    unfold cB;rw[<-r.length,hw.1,hw.2,r.length];simp
   simp only[fG]at z;rw[e]at z;exact z.ext B _ H3 Ext.refl j F
  ·simp only[fG]at z;exact .inl ⟨a,vs,rfl,J,hw,λp n=>dM j (pH r l u) (z.ext B) n⟩
 |ref a=>
  cases Vu.mp F
  obtain⟨ds,e,z⟩:=z;obtain⟨vs,J,r⟩:=j _ _ e;exact .inr (.inl ⟨a,vs,rfl,SqL.of J,λp n=>cW j (pH r l u) (λp' n'=>(z p' n').ext B) n⟩)
 |con ds=>obtain⟨a,vs,rfl,J,r⟩:=Vy.mp F;exact .inr (.inl ⟨a,vs,rfl,J.sq,λp n=>cW j (pH r l u) (λp' n'=>(z p' n').ext B) n⟩)
 |_=>exact z.elim
end
end
variable{i:Nat}{p pos:Pos}{ta to:TEd}{tg:Expr}{H1:Hp}
section
section
variable{X:Cx}
noncomputable def tyN(M:Mem):D->Option String
 |.non=>Z "NoneType"
 |.bl _=>Z "bool"
 |.int _=>Z "int"
 |.str _=>Z "str"
 |.tup _=>Z "tuple"
 |.ref a=>match M a with
  |some (.lst _)=>Z "list"
  |some (.dct _ _)=>Z "dict"
  |_=>Y
 |.con _=>Y
 |.fn _=>Y
noncomputable def yu(T t:String):Bool:=t==T || (t=="bool"&&T=="int")
theorem F5{t:String}(rm:RM K M H)(r:RD K H x v)(e:tyN M x=Z t):cH K H v (.type t):=by
 cases x with
 |non=>cases e;cases VA.mp r;exact .non
 |bl k=>cases e;cases Vv.mp r;exact .bl k
 |int i=>cases e;cases Vt.mp r;exact .int i
 |str i=>cases e;cases VB.mp r;exact .str i
 |tup ds=>
  cases e
  obtain⟨a,vs,rfl,j,rs⟩:=Vz r;exact .tup j
 |con ds=>cases e
 |fn _=>cases e
 |ref a=>
  cases Vu.mp r
  simp only[tyN]at e
  cases e0:M a with
  |none=>rw[e0]at e;cases e
  |some o=>
   rw[e0]at e
   cases o with
   |lst ds=>
    cases e
    obtain⟨vs,j,rs⟩:=rm _ _ e0;exact .lst j
   |dct t kvs=>
    cases e
    have ro:=rm _ _ e0
    cases t with
    |false=>obtain⟨ps,j,_⟩:=ro;exact .dK j
    |true=>obtain⟨ps,j,_⟩:=ro;exact .dT j
   |fdc kvs=>cases e
   |dcn _=>cases e
   |tab _ _=>cases e
   |fdn _=>cases e
noncomputable def dN:List String:=["NoneType","bool","int","str","tuple","list","dict"]
theorem B7(K:Frag):∀T∈["bool","int","str","tuple","list","dict"],∀t∈dN,PySem.W.kitOne K (.type t) (.type T)=Z (yu T t):=by
 intro T j t z;simp only[dN,KH,Lw,or_false]at j z
 rcases j with rfl|rfl|rfl|rfl|rfl|rfl<;>rcases z with rfl|rfl|rfl|rfl|rfl|rfl|rfl<;>rfl
noncomputable def nV(T:String)(ta:TEd):TEd:=λρ M Q=>ta ρ M λx M1=>∃t,tyN M1 x=Z t/\Q (.bl (yu T t)) M1
theorem vz{T:String}(h:ad ta):ad (nV T ta):=λρ M Q Q' i q=>h _ _ _ _ (λx B j=>(by obtain⟨t,e,z⟩:=j;exact⟨t,e,i _ _ z⟩)) q
theorem B8{t:String}(e:tyN M x=Z t):t∈dN:=by
 cases x with
 |ref a=>
  simp only[tyN]at e
  cases e0:M a with
  |none=>rw[e0]at e;cases e
  |some o=>rw[e0]at e;cases o<;>cases e<;>simp[dN]
 |con _=>cases e
 |fn _=>cases e
 |_=>cases e;simp[dN]
theorem vA(T:String)(j:T∈["bool","int","str","tuple","list","dict"]):CallR X (.builtin "isinstance") (λvs H Q=>∃v t,vs=[v,.ty T]/\cH X.K H v (.type t)/\t∈dN/\Q (.bl (yu T t)) H):=by
 intro pins s σ H xs us Q I r h;obtain⟨v,t,rfl,ty,z,q⟩:=h;obtain⟨u,c,rfl,ru,rc⟩:=nM r
 cases rc
 exact uX I ru ty (B7 X.K T j t z) λtk=>⟨.bl _,H,I.tok tk,rfl,q⟩
theorem B9{T:String}{y:Str}{p2:Pos}(L:T∈["bool","int","str","tuple","list","dict"])(m:ad ta)(he:PE X e (lE X.K ta))(O:Gl X "isinstance")(hm:X.mg "isinstance"=Y)(z:Gl X y)(B:X.mg y=Y)(U:OE y=Z (.type T))(F2:y≠"__name__")(F:(y==("__debug__":Str))=VP)(hs:Lg [e,.Name y p2] X.env=(VP,eval e X.env)::Lg [.Name y p2] X.env)(G:(OG pos (Lg [.Name y p2] X.env)).any (·.1)=VP):
 PE X (.Call (.Name "isinstance" p) [e,.Name y p2] [] pos) (lE X.K (nV T ta)):=by
 have h2:PE X (.Name y p2) (tC (.ty T)):=Ar z B U rfl F2 F;refine PE.imp (bY (vA T L) O hm (by decide +kernel) (dJ he (dJ h2 jA rfl) hs) (by decide) (by decide) hs G) λσ H Q h=>?_
 obtain⟨ρ,M,rs,rm,q⟩:=h;exact⟨ρ,M,rs,rm,m _ _ _ _ (λx M1 fv v H1 x1 j J=>(by obtain⟨t,e,q1⟩:=fv;exact⟨v,t,rfl,F5 j J e,B8 e,q1 _ H1 x1 j (Vv.mpr rfl)⟩)) q⟩
noncomputable def wBM(rd:D->List D->Mem->QD->Prop)(to:TEd)(t:TAd):TEd:=λρ M Q=>to ρ M λx M1=>(∃a xs,x=.ref a/\M1 a=Z (.lst xs))/\t ρ M1 λds M2=>rd x ds M2 Q
def jT(rd:D->List D->Mem->QD->Prop):Prop:=∀x ds M Q Q',(∀d M',Q d M'->Q' d M')->rd x ds M Q->rd x ds M Q'
theorem rQ{rd:D->List D->Mem->QD->Prop}{t:TAd}(j:jT rd)(mo:ad to)(mt:aY t):ad (wBM rd to t):=λρ M Q Q' i q=>mo _ _ _ _ (λx G z=>(by obtain⟨e,B⟩:=z;exact⟨e,mt _ _ _ _ (λds M2 F=>j _ _ _ _ _ i F) B⟩)) q
theorem F6(rm:RM K M H)(r:RD K H x v)(h:∃a xs,x=.ref a/\M a=Z (.lst xs)):tyV K "list" v H:=by
 obtain⟨a,xs,rfl,e⟩:=h
 cases Vu.mp r
 obtain⟨vs,j,_⟩:=rm _ _ e;exact .inl ⟨rfl,vs,SqL.of j⟩
theorem rR{rd:D->List D->Mem->QD->Prop}{r:V->List V->Hp->VK->Prop}{t:TAd}(L:jT rd)(mo:ad to)(mt:aY t)(O:∀v vs H Q,lMt K rd v vs H Q->r v vs H Q)(σ:St)(H:Hp)(Q:VK)(h:lE K (wBM rd to t) σ H Q):tBM K "list" r (lE K to) (lA K t) σ H Q:=by obtain⟨ρ,M,rs,rm,q⟩:=h;refine⟨ρ,M,rs,rm,mo _ _ _ _ (λx U ⟨e,F2⟩ v H1 G j z=>⟨F6 j z e,?_⟩) q⟩;refine⟨ρ,U,rs.mono (G.stab rm),j,mt _ _ _ _ (λds M2 fv vs H2 J B F=>?_) F2⟩;exact O v vs H2 Q ⟨x,ds,M2,B,z.mono (J.stab j),F,L _ _ _ _ _ (λd M' k=>k.ext (G.trans J)) fv⟩
noncomputable def iw:D->List D->Mem->QD->Prop:=λx ds M Q=>∃a xs y,x=.ref a/\ds=[y]/\M a=Z (.lst xs)/\xs.length<KJ/\Q .non (ag M a (.lst (xs++[y])))
theorem iZ:jT iw:=λ_ _ _ _ _ h j=>(by obtain⟨a,xs,y,B,F,G,z,q⟩:=j;exact⟨a,xs,y,B,F,G,z,h _ _ q⟩)
theorem rS{o0:O}(rm:RM K M H)(m:M a=Z o0)(rd:RDs K H ds vs)(r:RD K H d v)(q:KE' K M H Q d (ag M a (.lst ds)))(w:fz (Z o0)=VP:=by rfl):
 Q v (upd H a (.lst vs)):=by
 have st:Stab H (upd H a (.lst vs)):=rm.stabPut m w;exact q v _ (Ext.put m w) (rm.put m ⟨vs,aD,rd.mono st⟩ w) (r.mono st)
theorem yv(v:V)(vs:List V)(H:Hp)(Q:VK)(h:lMt K iw v vs H Q):rH v vs H Q:=by
 obtain⟨x,ds,M,rm,rx,rs,a,xs,y,rfl,rfl,e,z,q⟩:=h
 cases Vu.mp rx
 obtain⟨w,rfl,rw'⟩:=rs.one;obtain⟨us,j,ru⟩:=rm _ _ e;exact⟨a,us,w,rfl,rfl,j,by rw[ru.length];exact z,rS rm e (ru.append (RDs.cons rw' RDs.nil)) (VA.mpr rfl) q⟩
noncomputable abbrev BT:=D->aq->Option aq
noncomputable abbrev BTs:=List D->aq->Option aq
noncomputable def cM(i:Nat):BT:=λd ρ=>Z (ρ.set i (Z d))
noncomputable def jc:BTs:=λds ρ=>match ds with|[]=>Z ρ|_=>Y
noncomputable def cu(b:BT)(bs:BTs):BTs:=λds ρ=>match ds with|d::r=>(b d ρ).bind λρ'=>bs r ρ'|[]=>Y
noncomputable def yw(bs:BTs):BT:=λd ρ=>match d with|.tup ds=>bs ds ρ|_=>Y
noncomputable def lG(K:Frag)(b:BT):TG:=λv σ H Q=>∃d ρ ρ',RD K H d v/\RS K H σ ρ/\b d ρ=Z ρ'/\∀σ',RS K H σ' ρ'->Q σ' H
noncomputable def lGs(K:Frag)(b:BTs):TGs:=λvs σ H Q=>∃ds ρ ρ',RDs K H ds vs/\RS K H σ ρ/\b ds ρ=Z ρ'/\∀σ',RS K H σ' ρ'->Q σ' H
theorem PG.imp{t t':TG}(h:PG X e t)(i:∀v σ H Q,t' v σ H Q->t v σ H Q):PG X e t':=λpins s σ H v u Q I r q=>h pins s σ H v u Q I r (i _ _ _ _ q)
theorem PGs.imp{e:List Expr}{t t':TGs}(h:PGs X e t)(i:∀v σ H Q,t' v σ H Q->t v σ H Q):PGs X e t':=λpins s σ H v u Q I r q=>h pins s σ H v u Q I r (i _ _ _ _ q)
theorem Ba{x:Str}(j:X.N.Nodup)(hi:X.N[i]?=Z x)(hx:Loc X.env.scope x)(hf:X.fn x=N3∨X.env.scope.names.lookup x=Z .local):PG X (.Name x pos) (lG X.K (cM i)):=
 PG.imp (rD j hi hx hf) λv σ H Q ⟨d,ρ,ρ',r,rs,e,q⟩=>by
  cases e
  exact q _ (rs.set i r)
theorem Bb:PGs X [] (lGs X.K jc):=PGs.imp Ax λvs σ H Q ⟨ds,ρ,ρ',r,rs,e,q⟩=>by
 cases ds with
 |nil=>cases e;exact⟨RDs.nil_iff.mp r,q σ rs⟩
 |cons _ _=>cases e
theorem yx{es:List Expr}{b:BT}{bs:BTs}(h1:PG X e (lG X.K b))(h2:PGs X es (lGs X.K bs))(hs:(Mp (e::es) X.env).map (·.2)=assign e X.env::(Mp es X.env).map (·.2)):
 PGs X (e::es) (lGs X.K (cu b bs)):=PGs.imp (xC h1 h2 hs) λvs σ H Q ⟨ds,ρ,ρ',r,rs,e,q⟩=>by
 cases ds with
 |nil=>cases e
 |cons d ds=>
  obtain⟨v,vr,rfl,z,B⟩:=Vw.mp r;simp only[cu]at e
  cases j:b d ρ with
  |none=>rw[j]at e;cases e
  |some ρ1=>rw[j]at e;exact⟨v,vr,rfl,d,ρ,ρ1,z,rs,j,λσ' rs'=>⟨ds,ρ1,ρ',B,rs',e,q⟩⟩
theorem Dl{es:List Expr}{k:Nat}{bs:BTs}{n:Nat}(z:X.calm=N3)(hlen:∀ds ρ ρ',bs ds ρ=Z ρ'->ds.length=n)(h:PGs X es (lGs X.K bs))(B:(Mp es X.env).length=n)(j:(Mp es X.env).findIdx? (·.1)=Y):
 PG X (.Tuple es k pos) (lG X.K (yw bs)):=PG.imp (CA z h B j) λv σ H Q ⟨d,ρ,ρ',r,rs,e,q⟩=>by
 cases d with
 |tup ds=>obtain⟨a,vs,rfl,F,rv⟩:=Vz r;exact⟨a,vs,rfl,F,by rw[rv.length];exact hlen _ _ _ e,ds,ρ,ρ',rv,rs,e,q⟩
 |_=>cases e
noncomputable abbrev TId:=aq->Mem->(List D->(Mem->Prop)->Mem->Prop)->Prop
def cN(T:TId):Prop:=∀ρ M Q Q',(∀xs c M',Q xs c M'->Q' xs c M')->T ρ M Q->T ρ M Q'
def Yl(H H':Hp):Prop:=H'=H∨∃q vs,H q=Y/\H'=upd H q (.tup vs)
def jd(K:Frag)(H1:Hp)(xs:List D)(chk:Mem->Prop)(J:It):Prop:=∀M H,Stab H1 H->RM K M H->chk M->∀i,(xs.length<=i->J.stop i H)/\(i<xs.length->J.go i H /\
 ∀x H',J.yld i H x H'->Yl H H'/\∃d,xs[i]?=Z d/\RD K H' d x)
noncomputable def lI(K:Frag)(T:TId):TI:=λσ H R=>∃ρ M,RS K H σ ρ/\RM K M H/\T ρ M (λxs chk M1=>∀J H1,Ext M H M1 H1->RM K M1 H1->jd K H1 xs chk J->R J H1)
theorem PI.imp{t t':TI}(h:PI X tg e t)(i:∀σ H Q,t' σ H Q->t σ H Q):PI X tg e t':=λpins s σ H Q I q=>h pins s σ H Q I (i _ _ _ q)
theorem Yl.ext{H':Hp}(rm:RM K M H)(y:Yl H H'):Ext M H M H'/\RM K M H':=by
 rcases y with rfl|⟨q,vs,n,rfl⟩
 ·exact⟨Ext.refl,rm⟩
 ·exact⟨VF n,rm.new n⟩
noncomputable def G7(K:Frag)(tl:TE):TI:=λσ H R=>tl σ H λx H1=>∃a,x=.ref a/\(((∃xs,SqL K H1 a xs)/\R (Itl K a) H1)∨((∃xs,SqT K H1 a xs)/\R (Itt K a) H1))
theorem Dm{l:Expr}{tl:TE}(F:PE X l tl):PI X tg l (G7 X.K tl):=by
 intro pins s σ H R I h;refine thn (F pins s σ H _ I h) λv s1 G=>?_;obtain⟨x,H1,j,J,L⟩:=G;obtain⟨a,e,q⟩:=L;subst e
 cases J
 rcases q with⟨⟨xs,z⟩,q⟩|⟨⟨xs,z⟩,q⟩
 ·obtain⟨its,rv,p,O⟩:=j.list z;refine Nb p.isList ?_;refine⟨s1.heap.objs.size,[s1.heap.objs.size],_,_,H1,rfl,j.kept (t':=s1.toks) λb o e=>p0 _ e,uQ a _,⟨_,KG _ rfl,rfl,rfl⟩,λb B=>?_,q⟩;have e:b=s1.heap.objs.size:=by simpa using B
  subst e;exact j.fpOk (L3 _) (j.hok.fresh (L3 _))
 ·obtain⟨its,rv,p,O⟩:=j.tuple z;refine MJ (show s1.heap.IsTuple a its.toArray from p) ?_;refine⟨s1.heap.objs.size,[s1.heap.objs.size],_,_,H1,rfl,j.kept (t':=s1.toks) λb o e=>p0 _ e,t5 a _,⟨_,KG _ rfl,rfl,rfl⟩,λb B=>?_,q⟩;have e:b=s1.heap.objs.size:=by simpa using B
  subst e;exact j.fpOk (L3 _) (j.hok.fresh (L3 _))
noncomputable def tP(ta:TEd):TId:=λρ M R=>ta ρ M λx M1=>∃ds,aM M1 x=Z ds/\R ds (λM=>aM M x=Z ds) M1
theorem yz(h:ad ta):cN (tP ta):=λρ M Q Q' i q=>h _ _ _ _ (λx B j=>(by obtain⟨ds,e,z⟩:=j;exact⟨ds,e,i _ _ _ z⟩)) q
theorem vB{chk:Mem->Prop}(h:∀M H,Stab H1 H->RM K M H->chk M->∃vs,SqL K H a vs/\RDs K H ds vs):jd K H1 ds chk (Itl K a):=λM H st rm c i=>by
 obtain⟨vs,sq,r⟩:=h M H st rm c;have l:=r.length;refine⟨λhi=>⟨vs,sq,∅⟩,λhi=>⟨⟨vs,vs[i]'∅,sq,y3 ∅⟩,λx H' y=>?_⟩⟩
 obtain⟨e,y⟩:=y;subst e;exact⟨.inl rfl,r.getV (y vs sq)⟩
theorem Dn{chk:Mem->Prop}(h:∀M H,Stab H1 H->RM K M H->chk M->∃vs,SqT K H a vs/\RDs K H ds vs):jd K H1 ds chk (Itt K a):=λM H st rm c i=>by
 obtain⟨vs,sq,r⟩:=h M H st rm c;have l:=r.length;refine⟨λhi=>⟨vs,sq,∅⟩,λhi=>⟨⟨vs,vs[i]'∅,sq,y3 ∅⟩,λx H' y=>?_⟩⟩
 obtain⟨e,y⟩:=y;subst e;exact⟨.inl rfl,r.getV (y vs sq)⟩
theorem Do{l:Expr}(m:ad ta)(G:PE X l (lE X.K ta)):PI X tg l (lI X.K (tP ta)):=by
 refine PI.imp (Dm G) λσ H R h=>?_;obtain⟨ρ,M,rs,rm,q⟩:=h;refine⟨ρ,M,rs,rm,m _ _ _ _ (λx L g9 v H1 F j rd1=>?_) q⟩;obtain⟨ds,e,B⟩:=g9
 cases x with
 |tup es=>
  cases e
  obtain⟨a,vs,rfl,z,rv⟩:=Vz rd1;exact⟨a,rfl,.inr ⟨⟨vs,z⟩,B _ H1 F j (Dn λM' H' st _ _=>⟨vs,st.sqT z,rv.mono st⟩)⟩⟩
 |con es=>
  cases e
  obtain⟨a,vs,rfl,z,rv⟩:=Vy.mp rd1;exact⟨a,rfl,.inl ⟨⟨vs,z.sq⟩,B _ H1 F j (vB λM' H' st _ _=>⟨vs,(st.sqF z).sq,rv.mono st⟩)⟩⟩
 |ref a=>
  cases Vu.mp rd1
  have get:∀{M':Mem} {es:List D},aM M' (.ref a)=Z es->M' a=Z (.lst es):=λ{M' es} e=>by
   simp only[aM]at e
   cases e0:M' a with
   |none=>rw[e0]at e;cases e
   |some o=>
    rw[e0]at e
    cases o with
    |dct _ _=>cases e
    |fdc _=>cases e
    |dcn _=>cases e
    |tab _ _=>cases e
    |fdn _=>cases e
    |lst es'=>cases e;rfl
  obtain⟨vs,z,rv⟩:=j _ _ (get e);exact⟨a,rfl,.inl ⟨⟨vs,SqL.of z⟩,B _ H1 F j (vB λM' H' st rm' c=>by obtain⟨us,J,ru⟩:=rm' _ _ (get c);exact⟨us,SqL.of J,ru⟩)⟩⟩
 |_=>cases e
noncomputable def cO(lo:Int)(n:Nat):List D:=(KA n).map λi=>.int (lo+(i:Nat))
theorem Dp{lo:Int}{n:Nat}:jd K H1 (cO lo n) (λ_=>True) (Itr lo n):=λM H st rm c i=>by
 have l:(cO lo n).length=n:=by simp[cO]
 refine⟨λhi=>by show n<=i;lia,λhi=>⟨by show i<n;lia,λx H' y=>?_⟩⟩
 obtain⟨e,y⟩:=y;subst e y;refine⟨.inl rfl,.int (lo+i),?_,Vt.mpr rfl⟩;simp only[cO,KL,Mm (show i<n by lia),O8]
noncomputable def nW(ta:TAd):TId:=λρ M R=>ta ρ M λds M1=>∃j:Int,ds=[.int j] /\ -(2^62)<=j/\j<2^62/\R (cO 0 j.toNat) (λ_=>True) M1
theorem vC{ta:TAd}(h:aY ta):cN (nW ta):=λρ M Q Q' i q=>h _ _ _ _ (λx F z=>(by obtain⟨j,e,a,b,B⟩:=z;exact⟨j,e,a,b,i _ _ _ B⟩)) q
theorem Bc{a:Expr}{ta:TAd}(m:aY ta)(B:Gl X "range")(hm:X.mg "range"=Y)(F:PA X [a] (lA X.K ta))(hs:Lg [a] X.env=[(VP,eval a X.env)]):PI X tg (.Call (.Name "range" p) [a] [] pos) (lI X.K (nW ta)):=by
 refine PI.imp (uR B hm F hs) λσ H R h=>?_;obtain⟨ρ,M,rs,rm,q⟩:=h;refine⟨ρ,M,rs,rm,m _ _ _ _ (λds U g9 vs H1 O z rd1=>?_) q⟩;obtain⟨j,e,G,J,L⟩:=g9;subst e;obtain⟨v,rfl,r⟩:=rd1.one
 cases Vt.mp r
 exact⟨j,rfl,G,J,L _ H1 O z Dp⟩
end
end
variable{b:BT}{xs:List D}{pos':Pos}
section
section
variable{X:Cx}
noncomputable def isT:D->Bool|.tup _=>N3|_=>VP
theorem fH(rm:RM K M H)(r:RD K H x v)(e:aM M x=Z ds):∃p vs,v=.ref p/\SqV K (isT x) H p vs/\RDs K H ds vs:=by
 cases x with
 |tup es=>
  cases e
  obtain⟨a,vs,rfl,j,rv⟩:=Vz r;exact⟨a,vs,rfl,j,rv⟩
 |con es=>
  cases e
  obtain⟨a,vs,rfl,j,rv⟩:=Vy.mp r;exact⟨a,vs,rfl,j.sq,rv⟩
 |ref a=>
  cases Vu.mp r
  simp only[aM]at e
  cases e0:M a with
  |none=>rw[e0]at e;cases e
  |some o=>
   rw[e0]at e
   cases o with
   |dct _ _=>cases e
   |fdc _=>cases e
   |dcn _=>cases e
   |tab _ _=>cases e
   |fdn _=>cases e
   |lst es=>
    cases e
    obtain⟨vs,j,rv⟩:=rm _ _ e0;exact⟨a,vs,rfl,SqL.of j,rv⟩
 |_=>cases e
noncomputable def gd(x y:D):D:=.tup [x,y]
noncomputable def kX(ta tb:TEd):TId:=λρ M R=>aE ta (aE tb br) ρ M λds M1=>∃x y xs ys,ds=[x,y]/\aM M1 x=Z xs/\aM M1 y=Z ys/\R (Pe gd xs ys) (λM=>aM M x=Z xs/\aM M y=Z ys) M1
theorem yA{tb:TEd}(j:ad ta)(z:ad tb):cN (kX ta tb):=λρ M Q Q' i q=>az j (az z aG) _ _ _ _ (λds L B=>(by obtain⟨x,y,xs,ys,e,F,G,J⟩:=B;exact⟨x,y,xs,ys,e,F,G,i _ _ _ J⟩)) q
theorem pI{p:VQ}{o:HO}(n:H p=Y):Stab H (upd H p o):=⟨λa xs e=>by rw[ak (λz=>by rw[z,n]at e;cases e)];exact e,λa o u e=>by rw[ak (λz=>by rw[z,n]at e;cases e)];exact e⟩
theorem Dq{y:D}{ys:List D}{b:VQ}(rx:RD K H1 x (.ref a))(ry:RD K H1 y (.ref b)):jd K H1 (Pe gd xs ys) (λM=>aM M x=Z xs/\aM M y=Z ys) (Itz K (isT x) (isT y) a b):=λM H st rm c i=>by
 obtain⟨fv,vs,O,j,J⟩:=fH rm (rx.mono st) c.1;obtain⟨p2,us,U,z,L⟩:=fH rm (ry.mono st) c.2
 cases O
 cases U
 have l1:=J.length;have l2:=L.length;have lz:(Pe gd xs ys).length=min xs.length ys.length:=List.length_zipWith;refine⟨λhi=>⟨vs,us,j,z,∅⟩,λhi=>⟨⟨vs,us,vs[i]'∅,us[i]'∅,j,z,y3 ∅,y3 ∅⟩,λv H' F2=>?_⟩⟩
 obtain⟨p,v1,v2,n,rfl,rfl,g⟩:=F2;obtain⟨g1,g2⟩:=g vs us j z;obtain⟨d1,B,F⟩:=J.getV g1;obtain⟨d2,hd2,G⟩:=L.getV g2;have sb:=pI (o:=.tup [v1,v2]) n;refine⟨.inr ⟨p,[v1,v2],n,rfl⟩,.tup [d1,d2],?_,VC ⟨p,[v1,v2],rfl,aD,RDs.cons (F.mono sb) (RDs.cons (G.mono sb) RDs.nil)⟩⟩;rw[List.getElem?_zipWith,B,hd2];rfl
theorem Dr{elts:List Expr}{cx}{a b:Expr}{tb:TEd}(ma:ad ta)(mb:ad tb)(G:Gl X "zip")(hm:X.mg "zip"=Y)(J:PA X [a,b] (lA X.K (aE ta (aE tb br))))(hs:Lg [a,b] X.env=[(VP,eval a X.env),(VP,eval b X.env)])(z:Lg [b] X.env=[(VP,eval b X.env)]):
 PI X (.Tuple elts cx pos) (.Call (.Name "zip" p) [a,b] [] pos') (lI X.K (kX ta tb)):=by
 refine PI.imp (D4 G hm J hs z) λσ H R h=>?_;obtain⟨ρ,M,rs,rm,q⟩:=h;refine⟨ρ,M,rs,rm,az ma (az mb aG) _ _ _ _ (λds M1 g9 vs H1 F2 j rd1=>?_) q⟩;obtain⟨x,y,xs,ys,e,L,O,U⟩:=g9;subst e;obtain⟨v,u,rfl,B,F⟩:=rd1.two;obtain⟨fv,vs,rfl,s1,_⟩:=fH j B L;obtain⟨p2,us,rfl,s2,_⟩:=fH j F O;exact⟨fv,p2,isT x,isT y,vs,us,rfl,s1,s2,U _ H1 F2 j (Dq B F)⟩
end
end
section
section
variable{X:Cx}
noncomputable def gf(xs:List D):List D:=xs.mapIdx λi x=>.tup [.int (i:Nat),x]
noncomputable def nX(ta:TEd):TId:=λρ M R=>ta ρ M λx M1=>∃xs,aM M1 x=Z xs/\R (gf xs) (λM=>aM M x=Z xs) M1
theorem vD(h:ad ta):cN (nX ta):=λρ M Q Q' i q=>h _ _ _ _ (λx B j=>(by obtain⟨ds,e,z⟩:=j;exact⟨ds,e,i _ _ _ z⟩)) q
theorem Ds(rx:RD K H1 x (.ref a)):jd K H1 (gf xs) (λM=>aM M x=Z xs) (Ite K (isT x) a):=λM H st rm c i=>by
 obtain⟨L,vs,G,j,F⟩:=fH rm (rx.mono st) c
 cases G
 have l1:=F.length;have lz:(gf xs).length=xs.length:=by simp[gf]
 refine⟨λhi=>⟨vs,j,∅⟩,λhi=>⟨⟨vs,vs[i]'∅,j,y3 ∅⟩,λv H' J=>?_⟩⟩
 obtain⟨p,v1,n,rfl,rfl,g⟩:=J;obtain⟨d1,z,B⟩:=F.getV (g vs j);have sb:=pI (o:=.tup [.int (i:Nat),v1]) n;refine⟨.inr ⟨p,[.int (i:Nat),v1],n,rfl⟩,.tup [.int (i:Nat),d1],?_,VC ⟨p,[.int (i:Nat),v1],rfl,aD,RDs.cons (Vt.mpr rfl) (RDs.cons (B.mono sb) RDs.nil)⟩⟩;simp[gf,SV,z]
theorem Bd{elts:List Expr}{cx}{a:Expr}(ma:ad ta)(B:Gl X "enumerate")(hm:X.mg "enumerate"=Y)(F:PA X [a] (lA X.K (aE ta br)))(hs:Lg [a] X.env=[(VP,eval a X.env)]):
 PI X (.Tuple elts cx pos) (.Call (.Name "enumerate" p) [a] [] pos') (lI X.K (nX ta)):=by
 refine PI.imp (AM B hm F hs) λσ H R h=>?_;obtain⟨ρ,M,rs,rm,q⟩:=h;refine⟨ρ,M,rs,rm,ma _ _ _ _ (λx U g9 vs H1 L j rd1=>?_) q⟩;obtain⟨xs,G,J⟩:=g9;obtain⟨v,rfl,z⟩:=rd1.one;obtain⟨O,us,rfl,s1,_⟩:=fH j z G;exact⟨O,isT x,us,rfl,s1,J _ H1 L j (Ds z)⟩
end
end
variable{te:TEd}{src:TId}
section
noncomputable abbrev NC:=aq->Mem->List D->Prop
noncomputable abbrev TCd:=aq->Mem->List D->NC->Prop
def ci(T:TCd):Prop:=∀ρ M acc N N',(∀ρ' M' acc',N ρ' M' acc'->N' ρ' M' acc')->T ρ M acc N->T ρ M acc N'
structure ExtP(p:VQ)(M:Mem)(H:Hp)(M':Mem)(H':Hp):Prop where
 kp:∀a o,a≠p->fz (M a)=N3->H a=Z o->H' a=Z o
 nw:∀a o,fz (M a)=N3->H a=Z o->M' a=M a
section
variable{K:Frag}{M M' M'':Mem}{H H' H'':Hp}{p:VQ}
theorem ExtP.new(x:ExtP p M H M' H')(a:VQ)(o:HO)(n:M a=Y)(e:H a=Z o):M' a=Y:=(x.nw a o (by rw[n];rfl) e).trans n
theorem Ext.toP(x:Ext M H M' H'):ExtP p M H M' H':=⟨λa o _=>x.kp a o,x.nw⟩
theorem ExtP.refl:ExtP p M H M H:=⟨λ_ _ _ _ h=>h,λ_ _ _ _=>rfl⟩
theorem ExtP.trans(a:ExtP p M H M' H')(B:H p=Z (.lst vs))(j:∃vs',H' p=Z (.lst vs'))(b:ExtP p M' H' M'' H''):ExtP p M H M'' H'':=
 ⟨fun c o ne n h=>b.kp c o ne (by rw[a.nw c o n h];exact n) (a.kp c o ne n h),fun c o n h=>by
  have n':fz (M' c)=N3:=by rw[a.nw c o n h];exact n
  refine Eq.trans ?_ (a.nw c o n h)
  by_cases z:c=p
  ·subst z;obtain⟨vs',e⟩:=j;exact b.nw c _ n' e
  ·exact b.nw c o n' (a.kp c o z n h)⟩
theorem ExtP.stab(r:RM K M H)(j:H p=Z (.lst vs))(x:ExtP p M H M' H'):Stab H H' where
 tup:=λa xs e=>x.kp a _ (λz=>by subst z;rw[j]at e;cases e) (by rw[r.fzT e];rfl) e
 frz:=λa o u e=>x.kp a _ (λz=>by subst z;rw[j]at e;cases e) (r.fzF e) e
theorem pJ{ho:HO}(j:H p=Z (.lst vs)):Stab H (upd H p ho):=⟨λa xs e=>by rw[ak (λz=>by subst z;rw[j]at e;cases e)];exact e,λa o u e=>by rw[ak (λz=>by subst z;rw[j]at e;cases e)];exact e⟩
theorem RM.side{ho:HO}(r:RM K M H)(n:M p=Y)(j:H p=Z (.lst vs)):RM K M (upd H p ho):=λa o e=>by
 have ne:a≠p:=λz=>by subst z;rw[n]at e;cases e
 exact(r a o e).mono (pJ j) λB q=>by rw[ak ne];exact q
end
def iy(K:Frag)(H:Hp)(p:VQ)(acc:List D):Prop:=∃vs,H p=Z (.lst vs)/\RDs K H acc vs
noncomputable def KC(K:Frag)(p:VQ)(M:Mem)(H:Hp)(N:St->Hp->Prop):NC:=λρ' M' acc'=>∀σ' H',ExtP p M H M' H'->RS K H' σ' ρ'->RM K M' H'->iy K H' p acc'->N σ' H'
noncomputable def lC(K:Frag)(p:VQ)(T:TCd):TC:=λσ H N=>∃ρ M acc,RS K H σ ρ/\RM K M H/\M p=Y/\iy K H p acc/\T ρ M acc (KC K p M H N)
theorem KC.ext{p:VQ}{M2 M':Mem}{H2:Hp}{N:St->Hp->Prop}{ρ:aq}{acc:List D}(z:H p=Z (.lst vs))(j:∃vs',H2 p=Z (.lst vs'))(x:ExtP p M H M2 H2)(h:KC K p M H N ρ M' acc):KC K p M2 H2 N ρ M' acc:=λσ' H' y=>h σ' H' (x.trans z j y)
noncomputable def eS(te:TEd):TCd:=λρ M acc N=>te ρ M λx M1=>acc.length<KJ/\N ρ M1 (acc++[x])
noncomputable def bq:List TTd->TCd->TCd
 |[],tb=>tb
 |t::r,tb=>λρ M acc N=>t ρ M λb M1=>if b=N3 then bq r tb ρ M1 acc N else N ρ M1 acc
noncomputable def cw(b:BT)(tb:TCd)(chk:Mem->Prop)(N:NC):List D->NC
 |[]=>λρ M acc=>chk M/\N ρ M acc
 |x::xs=>λρ M acc=>chk M/\∃ρ',b x ρ=Z ρ'/\tb ρ' M acc (cw b tb chk N xs)
noncomputable def dO(src:TId)(b:BT)(tb:TCd):TCd:=λρ M acc N=>src ρ M λxs chk M1=>cw b tb chk N xs ρ M1 acc
noncomputable def iz(fr:List (Option Nat))(src:TId)(b:BT)(tb:TCd):TEd:=λρ M Q=>src ρ M λxs chk M1=>cw b tb chk (λ_ M' acc=>∀p,M' p=Y->Q (.ref p) (ag M' p (.lst acc))) xs (tz fr ρ) M1 []
theorem bO(h:ad te):ci (eS te):=λρ M acc N N' i q=>h _ _ _ _ (λx F j=>(by obtain⟨z,B⟩:=j;exact⟨z,i _ _ _ B⟩)) q
theorem aW{tb:TCd}(z:ci tb):∀{ts:List TTd},(∀t∈ts,aP t)->ci (bq ts tb)
 |[],_=>z
 |t::r,h=>fun ρ M acc N N' i q=>h t Ln _ _ _ _ (fun b F j=>by
  cases b with
  |true=>rw[if_pos rfl]at j⊢;exact aW z (λt' B=>h t' (L9 _ B)) _ _ _ _ _ i j
  |false=>rw[if_neg KW]at j⊢;exact i _ _ _ j) q
theorem gW{b:BT}{tb:TCd}(z:ci tb){chk:Mem->Prop}{N N':NC}(i:∀ρ' M' acc',N ρ' M' acc'->N' ρ' M' acc'):∀(xs:List D) (ρ:aq) (M:Mem) (acc:List D),cw b tb chk N xs ρ M acc->cw b tb chk N' xs ρ M acc
 |[],ρ,M,acc,h=>⟨h.1,i _ _ _ h.2⟩
 |x::xs,ρ,M,acc,⟨c,ρ',e,q⟩=>⟨c,ρ',e,z _ _ _ _ _ (λρ2 M2 j B=>gW z i xs ρ2 M2 j B) q⟩
theorem j0{tb:TCd}(hs:cN src)(j:ci tb):ci (dO src b tb):=λρ M acc N N' i q=>hs _ _ _ _ (λxs c B z=>gW j i xs _ _ _ z) q
theorem mK{fr:List (Option Nat)}{tb:TCd}(hs:cN src)(j:ci tb):ad (iz fr src b tb):=λρ M Q Q' i q=>hs _ _ _ _ (λxs c F z=>gW j (λ_ M' acc B p n=>i _ _ (B p n)) xs _ _ _ z) q
section
variable{K:Frag}{p:VQ}
theorem gX(m:ad te)(σ:St)(H:Hp)(N:St->Hp->Prop)(h:lC K p (eS te) σ H N):zX p (lE K te) σ H N:=by
 obtain⟨ρ,M,acc,rs,rm,n,⟨vs,L,ra⟩,q⟩:=h;refine⟨ρ,M,rs,rm,m _ _ _ _ (λx F2 g9 v H1 F G J=>?_) q⟩;obtain⟨z,O⟩:=g9;have j:=F.keep p _ n L;have U:=F.new p _ n L;have st:=F.stab rm;have B:Stab H1 (upd H1 p (.lst (vs++[v]))):=pJ j;refine⟨vs,j,by rw[ra.length];exact z,O σ _ ⟨λa o ne m' e=>?_,F.nw⟩ ((rs.mono st).mono B) (G.side U j) ⟨vs++[v],aD,((ra.mono st).mono B).append (RDs.cons (J.mono B) RDs.nil)⟩⟩
 rw[ak ne];exact F.kp a o m' e
theorem jU{tb:TCd}(mb:ci tb):∀{ts:List TTd},(∀t∈ts,aP t)->∀(σ:St) (H:Hp) (N:St->Hp->Prop),lC K p (bq ts tb) σ H N->jI (ts.map (lT K)) (lC K p tb) σ H N
 |[],_,σ,H,N,h=>h
 |t::r,hm,σ,H,N,h=>by
  obtain⟨ρ,M,acc,rs,rm,n,⟨vs,G,ra⟩,q⟩:=h;refine⟨ρ,M,rs,rm,hm t Ln _ _ _ _ (λb L F H1 z B=>?_) q⟩;have j:=z.keep p _ n G;have O:=z.new p _ n G;have st:=z.stab rm
  cases b with
  |false=>rw[if_neg KW]at F;dsimp only;rw[if_neg KW];exact F σ H1 z.toP (rs.mono st) B ⟨vs,j,ra.mono st⟩
  |true=>
   rw[if_pos rfl]at F;dsimp only;rw[if_pos rfl];exact jU mb (λt' J=>hm t' (L9 _ J)) σ H1 N ⟨ρ,L,acc,rs.mono st,B,O,⟨vs,j,ra.mono st⟩,
    aW mb (λt' J=>hm t' (L9 _ J)) _ _ _ _ _ (λρ' M' acc' k=>k.ext G ⟨vs,j⟩ z.toP) F⟩
theorem mL{tb:TCd}(mb:ci tb){chk:Mem->Prop}{J:It}{B:Mem}{Nd:NC}{N:St->Hp->Prop}{σ:St}{ρ:aq}{acc:List D}(it:jd K H1 xs chk J)(rs:RS K H1 σ ρ)(rm:RM K B H1)(n:B p=Y)(ac:iy K H1 p acc)(q:cw b tb chk Nd xs ρ B acc)(hN:∀ρ' M' acc' σ' H',ExtP p B H1 M' H'->RS K H' σ' ρ'->RM K M' H'->iy K H' p acc'->Nd ρ' M' acc'->N σ' H'):
 cI J (lG K b) (lC K p tb) N σ H1:=by
 obtain⟨Iq,F,_⟩:=id ac;refine⟨λi m σ H=>m=xs.length-i/\i<=xs.length/\∃ρ M acc,RS K H σ ρ/\RM K M H/\M p=Y/\iy K H p acc/\ExtP p B H1 M H/\cw b tb chk Nd (xs.drop i) ρ M acc,⟨xs.length,by simp,Nv _,ρ,B,acc,rs,rm,n,ac,ExtP.refl,q⟩,?_⟩
 rintro i m σ H ⟨rfl,hi,ρ,M,acc,rs,j,n,ac,x,q⟩;have st:=x.stab rm F;obtain⟨vs,hp,ra⟩:=id ac
 by_cases z:i<xs.length
 ·rw[Mt z]at q;obtain⟨c,ρ',hb,q⟩:=q;obtain⟨go,yl⟩:=(it M H st j c i).2 z;refine .inr ⟨go,λσ' H'=>∃m',m'<xs.length-i/\(m'=xs.length-(i+1)/\i+1<=xs.length/\∃ρ M acc,RS K H' σ' ρ/\RM K M H'/\M p=Y/\iy K H' p acc/\ExtP p B H1 M H'/\cw b tb chk Nd (xs.drop (i+1)) ρ M acc),λσ' H' h=>h,λx' H' y=>?_⟩;obtain⟨yy,d,hd,rd⟩:=yl x' H' y;rw[y3 z]at hd
  cases hd
  obtain⟨xy,rmy⟩:=yy.ext j;have sty:=xy.stab j;have G:=xy.keep p _ n hp;refine⟨_,ρ,ρ',rd,rs.mono sty,hb,λσ2 O=>?_⟩;refine⟨ρ',M,acc,O,rmy,n,⟨vs,G,ra.mono sty⟩,mb _ _ _ _ _ (λρ3 M3 L q3 σ3 H3 x3 U F2 fv=>?_) q⟩;have n3:M3 p=Y:=x3.new p _ n G;exact⟨xs.length-(i+1),∅,rfl,z,ρ3,M3,L,U,F2,n3,fv,(x.trans F ⟨vs,hp⟩ xy.toP).trans F ⟨vs,G⟩ x3,q3⟩
 ·have e:i=xs.length:=by lia
  subst e;rw[Uw]at q;exact .inl ⟨(it M H st j q.1 _).1 (L3 _),hN ρ M acc σ H x rs j ac q.2⟩
theorem j3{tb:TCd}(ms:cN src)(mb:ci tb)(σ:St)(H:Hp)(N:St->Hp->Prop)(h:lC K p (dO src b tb) σ H N):(lI K src) σ H λJ H1=>cI J (lG K b) (lC K p tb) N σ H1:=by obtain⟨ρ,M,acc,rs,rm,n,⟨vs,B,ra⟩,q⟩:=h;refine⟨ρ,M,rs,rm,ms _ _ _ _ (λxs chk O G J H1 z F it=>?_) q⟩;have j:=z.keep p _ n B;have L:=z.new p _ n B;have st:=z.stab rm;exact mL mb it (rs.mono st) F L ⟨vs,j,ra.mono st⟩ G λρ' M' acc' σ' H' x2 rs' rm' ac' k=>k σ' H' (z.toP.trans B ⟨vs,j⟩ x2) rs' rm' ac'
theorem eT{fr:List (Option Nat)}{tb:TCd}(ms:cN src)(mb:ci tb)(σ:St)(H:Hp)(Q:VK)(h:lE K (iz fr src b tb) σ H Q):tw (lI K src) (lG K b) (λp=>lC K p tb) fr σ H Q:=by
 obtain⟨ρ,M,rs,rm,q⟩:=h;refine⟨ρ,M,rs,rm,ms _ _ _ _ (λxs chk G U J H1 F j it p n=>?_) q⟩;have st:=F.stab rm;have xn:Ext G H1 G (upd H1 p (.lst [])):=VF n;have stn:=xn.stab j;have O:G p=Y:=j.out n;refine mL (p:=p) mb (xs:=xs) (chk:=chk) (λM' H' st'=>it M' H' ⟨λa xs e=>st'.tup _ _ (stn.tup _ _ e),λa o u e=>st'.frz _ _ _ (stn.frz _ _ _ e)⟩) (((rs.mono st).mono stn).inh fr) (j.new n) O ⟨[],aD,RDs.nil⟩ U λρ' M' acc' σ' H' L rs' rm' ac' k=>?_;obtain⟨vs,F2,ra⟩:=ac';have n':M' p=Y:=L.new p _ O aD;refine k p n' (.ref p) H' ⟨λa o m e=>?_,λa o m e=>?_⟩ (λa o e=>?_) (Vu.mpr rfl)
 ·have B:=F.kp a o m e;have ne:a≠p:=λz=>by subst z;rw[n]at B;cases B
  exact L.kp a o ne (by rw[F.nw a o m e];exact m) (by rw[ak ne];exact B)
 ·have B:=F.kp a o m e;have ne:a≠p:=λz=>by subst z;rw[n]at B;cases B
  rw[ar ne];exact(L.nw a o (by rw[F.nw a o m e];exact m) (by rw[ak ne];exact B)).trans (F.nw a o m e)
 ·by_cases z:a=p
  ·subst z;rw[ab]at e;cases e;exact⟨vs,F2,ra⟩
  ·rw[ar z]at e;exact rm' a o e
end
end
variable{u:TSd}{c:TTd}
section
noncomputable def jV:TSd:=λD ρ M=>D.nx ρ M
noncomputable def yB(t u:TSd):TSd:=λD ρ M=>t {D with nx:=u D} ρ M
noncomputable def jW:TSd:=λD ρ M=>D.bk ρ M
noncomputable def nY:TSd:=λD ρ M=>D.ct ρ M
noncomputable def nZ(te:TEd):TSd:=λD ρ M=>te ρ M λ_ M1=>D.nx ρ M1
noncomputable def tQ(te:TEd):TSd:=λD ρ M=>te ρ M D.rt
noncomputable def sIf(c:TTd)(t u:TSd):TSd:=λD ρ M=>c ρ M λb M1=>if b=N3 then t D ρ M1 else u D ρ M1
noncomputable def kY(te:TEd)(b:BT):TSd:=λD ρ M=>te ρ M λx M1=>∃ρ',b x ρ=Z ρ'/\D.nx ρ' M1
noncomputable def tR(ta:TAd)(bs:BTs):TSd:=λD ρ M=>ta ρ M λxs M1=>∃ρ',bs xs ρ=Z ρ'/\D.nx ρ' M1
noncomputable def ca(b:BT)(tb:TSd)(chk:Mem->Prop)(D:bV):List Mi.D->aq->Mem->Prop
 |[]=>λρ M=>chk M/\D.nx ρ M
 |x::xs=>λρ M=>chk M/\∃ρ',b x ρ=Z ρ'/\tb {D with nx:=ca b tb chk D xs,ct:=ca b tb chk D xs,bk:=D.nx} ρ' M
noncomputable def tS(src:TId)(b:BT)(tb:TSd):TSd:=λD ρ M=>src ρ M λxs chk M1=>ca b tb chk D xs ρ M1
noncomputable def aS(c:TTd)(tb:TSd)(D:bV):Nat->aq->Mem->Prop
 |0=>λ_ _=>False
 |n+1=>λρ M=>c ρ M λb M1=>if b=N3 then tb {D with nx:=aS c tb D n,ct:=aS c tb D n,bk:=D.nx} ρ M1 else D.nx ρ M1
noncomputable def jX(c:TTd)(tb:TSd):TSd:=λD ρ M=>∃n,aS c tb D n ρ M
theorem mM:aQ jV:=λ_ _ _ _ h q=>h.nx _ _ q
theorem tT:aQ jW:=λ_ _ _ _ h q=>h.bk _ _ q
theorem vE:aQ nY:=λ_ _ _ _ h q=>h.ct _ _ q
theorem vF{t:TSd}(j:aQ t)(z:aQ u):aQ (yB t u):=λa b ρ M h q=>j {a with nx:=u a} {b with nx:=u b} _ _ ⟨λρ' M' q'=>z _ _ _ _ h q',h.rt,h.bk,h.ct⟩ q
theorem vG(h:ad te):aQ (nZ te):=λa b ρ M i q=>h _ _ _ _ (λ_ z j=>i.nx _ _ j) q
theorem yC(h:ad te):aQ (tQ te):=λa b ρ M i q=>h _ _ _ _ (λd z j=>i.rt _ _ j) q
theorem yD{t:TSd}(z:aP c)(B:aQ t)(F:aQ u):aQ (sIf c t u):=λa b ρ M i q=>z _ _ _ _ (λk G j=>by
 cases k with
 |true=>rw[if_pos rfl]at j⊢;exact B _ _ _ _ i j
 |false=>rw[if_neg KW]at j⊢;exact F _ _ _ _ i j) q
theorem yE{bt:BT}(h:ad te):aQ (kY te bt):=λa b ρ M i q=>h _ _ _ _ (λd B j=>(by obtain⟨ρ',e,z⟩:=j;exact⟨ρ',e,i.nx _ _ z⟩)) q
theorem yF{ta:TAd}{bs:BTs}(h:aY ta):aQ (tR ta bs):=λa b ρ M i q=>h _ _ _ _ (λd B j=>(by obtain⟨ρ',e,z⟩:=j;exact⟨ρ',e,i.nx _ _ z⟩)) q
theorem gY{bt:BT}{tb:TSd}(j:aQ tb){chk:Mem->Prop}{a b:bV}(i:LeD a b):∀(xs:List D) (ρ:aq) (M:Mem),ca bt tb chk a xs ρ M->ca bt tb chk b xs ρ M
 |[],ρ,M,h=>⟨h.1,i.nx _ _ h.2⟩
 |x::xs,ρ,M,⟨c,ρ',e,q⟩=>⟨c,ρ',e,j {a with nx:=ca bt tb chk a xs,ct:=ca bt tb chk a xs,bk:=a.nx} {b with nx:=ca bt tb chk b xs,ct:=ca bt tb chk b xs,bk:=b.nx} _ _ ⟨λρ2 M2 z=>gY j i xs ρ2 M2 z,i.rt,i.nx,λρ2 M2 z=>gY j i xs ρ2 M2 z⟩ q⟩
theorem yG{bt:BT}{tb:TSd}(hs:cN src)(j:aQ tb):aQ (tS src bt tb):=λa b ρ M i q=>hs _ _ _ _ (λxs c B z=>gY j i xs _ _ z) q
theorem fx{c:TTd}{tb:TSd}(z:aP c)(B:aQ tb){a b:bV}(i:LeD a b):∀(n:Nat) (ρ:aq) (M:Mem),aS c tb a n ρ M->aS c tb b n ρ M
 |0,ρ,M,h=>h
 |n+1,ρ,M,h=>z _ _ _ _ (fun k G j=>by
  cases k with
  |true=>rw[if_pos rfl]at j⊢;exact B {a with nx:=aS c tb a n,ct:=aS c tb a n,bk:=a.nx} {b with nx:=aS c tb b n,ct:=aS c tb b n,bk:=b.nx} _ _ ⟨λρ2 M2 F=>fx z B i n ρ2 M2 F,i.rt,i.nx,λρ2 M2 F=>fx z B i n ρ2 M2 F⟩ j
  |false=>rw[if_neg KW]at j⊢;exact i.nx _ _ j) h
theorem tU{tb:TSd}(j:aP c)(z:aQ tb):aQ (jX c tb):=λa b ρ M i g9=>(by obtain⟨n,q⟩:=g9;exact⟨n,fx j z i n _ _ q⟩)
section
variable{K:Frag}
theorem mN(D:bN)(σ:St)(H:Hp)(h:lS K jV D σ H):sY D σ H:=by obtain⟨ρ,M,A,rs,rm,l,q⟩:=h;exact l.nx ρ M σ H Ext.refl rs rm q
theorem tV(D:bN)(σ:St)(H:Hp)(h:lS K jW D σ H):uO D σ H:=by obtain⟨ρ,M,A,rs,rm,l,q⟩:=h;exact l.bk ρ M σ H Ext.refl rs rm q
theorem vH(D:bN)(σ:St)(H:Hp)(h:lS K nY D σ H):zO D σ H:=by obtain⟨ρ,M,A,rs,rm,l,q⟩:=h;exact l.ct ρ M σ H Ext.refl rs rm q
theorem yH{t:TSd}(mt:aQ t)(mu:aQ u)(D:bN)(σ:St)(H:Hp)(h:lS K (yB t u) D σ H):Cv (lS K t) (lS K u) D σ H:=by obtain⟨ρ,M,A,rs,rm,l,q⟩:=h;exact⟨ρ,M,{A with nx:=u A},rs,rm,⟨λρ' M' σ' H' x rs' rm' q'=>⟨ρ',M',A,rs',rm',l.ext x,q'⟩,l.rt,l.bk,l.ct⟩,q⟩
theorem vI(m:ad te)(D:bN)(σ:St)(H:Hp)(h:lS K (nZ te) D σ H):zP (lE K te) D σ H:=by obtain⟨ρ,M,A,rs,rm,l,q⟩:=h;exact⟨ρ,M,rs,rm,m _ _ _ _ (λd B F v H1 z j G=>l.nx ρ B σ H1 z (rs.mono (z.stab rm)) j F) q⟩
theorem yI(m:ad te)(D:bN)(σ:St)(H:Hp)(h:lS K (tQ te) D σ H):Cw (lE K te) D σ H:=by obtain⟨ρ,M,A,rs,rm,l,q⟩:=h;exact⟨ρ,M,rs,rm,m _ _ _ _ (λd B F v H1 G j z=>l.rt d B v H1 G j z F) q⟩
theorem Be{t:TSd}(mc:aP c)(D:bN)(σ:St)(H:Hp)(h:lS K (sIf c t u) D σ H):Cz (lT K c) (lS K t) (lS K u) D σ H:=by
 obtain⟨ρ,M,A,rs,rm,l,q⟩:=h;refine⟨ρ,M,rs,rm,mc _ _ _ _ (λk F z H1 B j=>?_) q⟩
 cases k with
 |true=>rw[if_pos rfl]at z⊢;exact⟨ρ,F,A,rs.mono (B.stab rm),j,l.ext B,z⟩
 |false=>rw[if_neg KW]at z⊢;exact⟨ρ,F,A,rs.mono (B.stab rm),j,l.ext B,z⟩
theorem yJ(m:ad te)(D:bN)(σ:St)(H:Hp)(h:lS K (kY te b) D σ H):oD (lE K te) (lG K b) D σ H:=by obtain⟨ρ,M,A,rs,rm,l,q⟩:=h;refine⟨ρ,M,rs,rm,m _ _ _ _ (λd F g9 v H1 B j z=>?_) q⟩;obtain⟨ρ',e,G⟩:=g9;exact⟨d,ρ,ρ',z,rs.mono (B.stab rm),e,λσ' rs'=>l.nx ρ' F σ' H1 B rs' j G⟩
theorem mP(m:ad te)(D:bN)(σ:St)(H:Hp)(h:lS K (kY te (cM i)) D σ H):oD (lE K te) (jx i) D σ H:=by
 obtain⟨ρ,M,A,rs,rm,l,q⟩:=h;refine⟨ρ,M,rs,rm,m _ _ _ _ (λd z g9 v H1 j rm1 rd1=>?_) q⟩;obtain⟨ρ',e,B⟩:=g9
 cases e
 exact l.nx _ z _ H1 j ((rs.mono (j.stab rm)).set i rd1) rm1 B
theorem yK{tb:TSd}(ms:cN src)(mb:aQ tb)(D:bN)(σ:St)(H:Hp)(h:lS K (tS src b tb) D σ H):CH (lI K src) (lG K b) (lS K tb) D σ H:=by
 obtain⟨ρ,M,A,rs,rm,l,q⟩:=h;refine⟨ρ,M,rs,rm,ms _ _ _ _ (λxs chk M1 q1 J H1 x1 G it=>?_) q⟩;refine⟨λi m σ H'=>m=xs.length-i/\i<=xs.length/\∃ρ M2,RS K H' σ ρ/\RM K M2 H'/\Ext M1 H1 M2 H'/\ca b tb chk A (xs.drop i) ρ M2,⟨xs.length,by simp,Nv _,ρ,M1,rs.mono (x1.stab rm),G,Ext.refl,q1⟩,?_⟩
 rintro i m σ2 H2 ⟨rfl,hi,ρ2,M2,L,j,x2,O⟩;have U:=x2.stab G
 by_cases B:i<xs.length
 ·rw[Mt B]at O;obtain⟨c,ρ',hb,q3⟩:=O;obtain⟨go,yl⟩:=(it M2 H2 U j c i).2 B;refine .inr ⟨go,λσ' H'=>∃m',m'<xs.length-i/\(m'=xs.length-(i+1)/\i+1<=xs.length/\∃ρ M,RS K H' σ' ρ/\RM K M H'/\Ext M1 H1 M H'/\ca b tb chk A (xs.drop (i+1)) ρ M),λσ' H' h=>h,λx' H' y=>?_⟩;obtain⟨yy,d,hd,rd⟩:=yl x' H' y;rw[y3 B]at hd
  cases hd
  obtain⟨xy,rmy⟩:=yy.ext j;have F2:=x1.trans (x2.trans xy);refine⟨_,ρ2,ρ',rd,L.mono (xy.stab j),hb,λσ3 Iq=>?_⟩;have nx:∀ρ5 F σ5 z,Ext M2 H' F z->RS K z σ5 ρ5->RM K F z->ca b tb chk A (xs.drop (i+1)) ρ5 F->∃m',m'<xs.length-i/\(m'=xs.length-(i+1)/\i+1<=xs.length/\∃ρ M,RS K z σ5 ρ/\RM K M z/\Ext M1 H1 M z/\ca b tb chk A (xs.drop (i+1)) ρ M):=λρ5 F σ5 z fv Ir Is q5=>⟨xs.length-(i+1),∅,rfl,B,ρ5,F,Ir,Is,(x2.trans xy).trans fv,q5⟩
  refine⟨ρ',M2,{A with nx:=ca b tb chk A (xs.drop (i+1)),ct:=ca b tb chk A (xs.drop (i+1)),bk:=A.nx},Iq,rmy,⟨nx,λd F v z fv=>l.rt d F v z (F2.trans fv),λρ5 F σ5 z fv=>l.nx ρ5 F σ5 z (F2.trans fv),nx⟩,q3⟩
 ·have e:i=xs.length:=by lia
  subst e;rw[Uw]at O;exact .inl ⟨(it M2 H2 U j O.1 _).1 (L3 _),l.nx ρ2 M2 σ2 H2 (x1.trans x2) L j O.2⟩
theorem tW{tb:TSd}(mc:aP c)(mb:aQ tb)(D:bN)(σ:St)(H:Hp)(h:lS K (jX c tb) D σ H):uP (lT K c) (lS K tb) D σ H:=by
 obtain⟨ρ,M,A,rs,rm,l,n,q⟩:=h;refine⟨λm σ' H'=>∃ρ' M',RS K H' σ' ρ'/\RM K M' H'/\Ext M H M' H'/\aS c tb A m ρ' M',⟨n,ρ,M,rs,rm,Ext.refl,q⟩,?_⟩;rintro m σ1 H1 ⟨ρ1,M1,J,L,x1,q1⟩
 cases m with
 |zero=>exact q1.elim
 |succ m=>
  refine⟨ρ1,M1,J,L,mc _ _ _ _ (λk M2 fv H2 x2 O=>?_) q1⟩;have j:=x1.trans x2;have U:=J.mono (x2.stab L)
  cases k with
  |false=>rw[if_neg KW]at fv;dsimp only;rw[if_neg KW];exact l.nx ρ1 M2 σ1 H2 j U O fv
  |true=>
   rw[if_pos rfl]at fv;dsimp only;rw[if_pos rfl];refine⟨λσ' H'=>∃ρ' M',RS K H' σ' ρ'/\RM K M' H'/\Ext M H M' H'/\aS c tb A m ρ' M',λσ' H' h=>⟨m,Ux m,h⟩,ρ1,M2,{A with nx:=aS c tb A m,ct:=aS c tb A m,bk:=A.nx},U,O,⟨?_,λd z v F2 B=>l.rt d z v F2 (j.trans B),λρ5 z σ5 F2 B=>l.nx ρ5 z σ5 F2 (j.trans B),?_⟩,fv⟩
   ·exactλρ5 z σ5 F2 B F G q5=>⟨ρ5,z,F,G,j.trans B,q5⟩
   ·exactλρ5 z σ5 F2 B F G q5=>⟨ρ5,z,F,G,j.trans B,q5⟩
end
noncomputable def gj:D->D->D->Mem->(Mem->Prop)->Prop:=λo i v M Q=>∃a,o=.ref a /\
 ((∃xs k j,i=.int k/\M a=Z (.lst xs)/\ixN xs.length k=Z j/\Q (ag M a (.lst (xs.set j v)))) ∨
  ∃t kvs,M a=Z (.dct t kvs)/\eQ t i=N3/\kvs.length<KJ/\Q (ag M a (.dct t (fq kvs i v))))
noncomputable def tX(te to ti:TEd):TSd:=λD ρ M=>te ρ M λv M1=>to ρ M1 λo M2=>ti ρ M2 λi M3=>gj o i v M3 λM4=>D.nx ρ M4
theorem mQ{o i v:D}{Q Q':Mem->Prop}(h:∀M',Q M'->Q' M')(q:gj o i v M Q):gj o i v M Q':=by
 obtain⟨a,e,⟨xs,k,j,z,B,F,q⟩|⟨t,kvs,z,B,F,q⟩⟩:=q
 ·exact⟨a,e,.inl ⟨xs,k,j,z,B,F,h _ q⟩⟩
 ·exact⟨a,e,.inr ⟨t,kvs,z,B,F,h _ q⟩⟩
theorem yL{ti:TEd}(he:ad te)(ho:ad to)(hi:ad ti):aQ (tX te to ti):=λa b ρ M i q=>he _ _ _ _ (λv F j=>ho _ _ _ _ (λo M2 z=>hi _ _ _ _ (λk G B=>mQ (λM' q'=>i.nx _ _ q') B) z) j) q
section
variable{X:Cx}{K:Frag}
theorem pK(j:X.A.units+1<Oa):PSet X (λo i v H Q=>∃a H',o=.ref a/\DPut H a i v H'/\Q H'):=by
 intro pins s σ H o i v ov iv u Q I ro ri rv h;obtain⟨a,H',rfl,g,q⟩:=h
 cases ro
 exact v8 j I g ri rv λs' I'=>⟨H',I',q⟩
theorem PSet.or{t t':kM}(h:PSet X t)(h':PSet X t'):PSet X (λo i v H Q=>t o i v H Q∨t' o i v H Q):=by
 intro pins s σ H o i v ov iv u Q I ro ri rv q
 rcases q with q|q
 ·exact h pins s σ H o i v ov iv u Q I ro ri rv q
 ·exact h' pins s σ H o i v ov iv u Q I ro ri rv q
section
variable{κ:Type}[DecidableEq κ]{H:Hp}{RK:D->κ->Prop}(inj:∀{d e:D} {k:κ},RK d k->RK e k->d=e)(fn:∀{d:D} {k k':κ},RK d k->RK d k'->k=k')
include inj fn
theorem rT{k:D}{q:κ}(j:RK k q):∀{kvs:List (D×D)} {ps:List (κ×V)},Mo (λp r=>RK p.1 r.1/\RD K H p.2 r.2) kvs ps->
 (kvs.any λp=>decide (p.1=k))=(ps.any λp=>decide (p.1=q))
 |_,_,.nil=>rfl
 |_,_,.cons (a:=p) (b:=r) hr t=>by
  rw[Oo,Oo,rT j t];congr 1
  by_cases e:p.1=k
  ·have e':r.1=q:=by have h1:=hr.1;rw[e]at h1;exact fn h1 j
   rw[decide_eq_true e,decide_eq_true e']
  ·have e':¬r.1=q:=λz=>e (by have h1:=hr.1;rw[z]at h1;exact inj h1 j)
   rw[decide_eq_false e,decide_eq_false e']
theorem rV{k:D}{q:κ}(B:RK k q){d:D}{v:V}(F:RD K H d v):∀{kvs:List (D×D)} {ps:List (κ×V)},Mo (λp r=>RK p.1 r.1/\RD K H p.2 r.2) kvs ps->
 Mo (λp r=>RK p.1 r.1/\RD K H p.2 r.2) (kvs.map λp=>if p.1=k then(p.1,d)else p) (ps.map λp=>if p.1=q then(p.1,v)else p)
 |_,_,.nil=>.nil
 |_,_,.cons (a:=p) (b:=r) j t=>by
  refine .cons ?_ (rV B F t)
  by_cases e:p.1=k
  ·have e':r.1=q:=by have h1:=j.1;rw[e]at h1;exact fn h1 B
   dsimp only;rw[if_pos e,if_pos e'];exact⟨j.1,F⟩
  ·have e':¬r.1=q:=λz=>e (by have h1:=j.1;rw[z]at h1;exact inj h1 B)
   dsimp only;rw[if_neg e,if_neg e'];exact j
theorem pM{k:D}{q:κ}(j:RK k q)(z:RD K H d v){ps:List (κ×V)}(r:Mo (λp r=>RK p.1 r.1/\RD K H p.2 r.2) kvs ps):
 Mo (λp r=>RK p.1 r.1/\RD K H p.2 r.2) (fq kvs k d) (cn ps q v):=by
 unfold fq cn;rw[rT (K:=K) (H:=H) (RK:=RK) inj fn j r]
 by_cases e:(ps.any λp=>decide (p.1=q))=N3
 ·rw[if_pos e,if_pos e];exact rV (RK:=RK) inj fn j z r
 ·rw[if_neg e,if_neg e];exact r.snoc ⟨j,z⟩
end
theorem pN{o i v:D}{ov iv vv:V}{Qd:Mem->Prop}{Q:Hp->Prop}(rm:RM K M H)(ro:RD K H o ov)(ri:RD K H i iv)(rv:RD K H v vv)(h:gj o i v M Qd)(O:∀M' H',Ext M H M' H'->RM K M' H'->Qd M'->Q H'):
 zU ov iv vv H Q∨∃a H',ov=.ref a/\DPut H a iv vv H'/\Q H':=by
 obtain⟨a,rfl,⟨xs,k,j,rfl,B,L,q⟩|⟨t,kvs,F,B,L,q⟩⟩:=h
 ·cases Vu.mp ro
  cases Vt.mp ri
  obtain⟨vs,fv,rs⟩:=rm _ _ B;have st:Stab H (upd H a (.lst (vs.set j vv))):=rm.stabPut B;exact .inl ⟨a,vs,k,j,rfl,rfl,fv,by rw[rs.length];exact L,O _ _ (Ext.put B) (rm.put (o:=.lst (xs.set j v)) B ⟨_,aD,(rs.set j rv).mono st⟩) q⟩
 ·cases Vu.mp ro
  have ro':=rm _ _ F
  cases t with
  |false=>obtain⟨ps,U,pr⟩:=ro';obtain⟨kq,J⟩:=oQ (show fZ i=N3 from B);have st:Stab H (upd H a (.dK (cn ps kq vv))):=rm.stabPut F;have G:=pM (RK:=RKey) RKey.inj RKey.fun J rv pr;rw[kS J ri];refine .inr ⟨a,_,rfl,DPut.k U (by rw[<-Pk pr];exact L),O _ _ (Ext.put F) (rm.put (o:=.dct VP (fq kvs i v)) F ⟨_,aD,Vx G λ_ _ z=>⟨z.1,z.2.mono st⟩⟩) q⟩
  |true=>
   obtain⟨ps,U,pr⟩:=ro';obtain⟨kq,J⟩:=rN (show dZ i=N3 from B);have st:Stab H (upd H a (.dT (cn ps kq vv))):=rm.stabPut F;have G:=pM (RK:=RKeys) RKeys.inj RKeys.fun J rv pr
   cases i<;>first
    |exact J.elim
    | (obtain⟨b,us,rfl,F2,ru⟩:=VO (rO B) ri
       rw[ja J ru]at F2;exact .inr ⟨a,_,rfl,DPut.t U F2 (by rw[<-Pk pr];exact L),O _ _ (Ext.put F) (rm.put (o:=.dct N3 (fq kvs _ v)) F ⟨_,aD,Vx G λ_ _ z=>⟨z.1,z.2.mono st⟩⟩) q⟩)
theorem Dt {o i:Expr}{ti:TEd}{tpos:Pos}(hu:X.A.units+1<Oa)(me:ad te)(mo:ad to)(mi:ad ti)(he:PE X e (lE X.K te))(ho:PE X o (lE X.K to))(hi:PE X i (lE X.K ti))(hs:Pm [.Subscript o i tpos] e pos.line X.env=pure VP)(hw:Oi [.Subscript o i tpos] e X.env=pure Y)(ha:∀v,assign (.Subscript o i tpos) X.env v=(do
   let ov <-holding [v] (eval o X.env)
   let iv <-holding [v,ov] (eval i X.env)
   Ri tpos
   holding [v,ov,iv] (T6 ov iv v)
   release [v,ov,iv] [])):PS X (.Assign [.Subscript o i tpos] e pos) (lS X.K (tX te to ti)):=by
 refine PS.imp (oE he (CB ho hi (PSet.or oG (pK hu)) ha) hs hw rfl) λD σ H h=>?_;obtain⟨ρ,M,A,rs,rm,l,q⟩:=h;refine⟨ρ,M,rs,rm,me _ _ _ _ (λv M1 q1 vv H1 F j G=>?_) q⟩;refine⟨ρ,M1,rs.mono (F.stab rm),j,mo _ _ _ _ (λov M2 q2 vo H2 J z L=>?_) q1⟩;refine⟨ρ,M2,(rs.mono (F.stab rm)).mono (J.stab j),z,mi _ _ _ _ (λiv M3 q3 vi H3 O U F2=>?_) q2⟩;have B:=F.trans (J.trans O);exact pN U (L.mono (O.stab z)) F2 ((G.mono (J.stab j)).mono (O.stab z)) q3 λM' H' x4 fv q4=>l.nx ρ M' σ H' (B.trans x4) (rs.mono ((B.trans x4).stab rm)) fv q4
noncomputable def jY:R2d
 |.int i,.int j,M,Q=>Q (.int (i+j)) M
 |_,_,_,_=>False
noncomputable def jZ:R2d
 |.int i,.int j,M,Q=>Q (.int (i-j)) M
 |_,_,_,_=>False
noncomputable def ka:R2d
 |.int i,.int j,M,Q=>MulOk i j/\Q (.int (i*j)) M
 |_,_,_,_=>False
theorem gZ:aO jY:=by
 intro x y M Q Q' h q
 cases x<;>cases y<;>first|exact q.elim|exact h _ _ q
theorem hJ:aO jZ:=by
 intro x y M Q Q' h q
 cases x<;>cases y<;>first|exact q.elim|exact h _ _ q
theorem hW:aO ka:=by
 intro x y M Q Q' h q
 cases x<;>cases y<;>first|exact q.elim|exact⟨q.1,h _ _ q.2⟩
theorem mR:OpR X (Pb .Add) (l2 X.K jY):=by
 refine OpR.of Az λv u H Q h=>?_;obtain⟨x,y,M,rm,rx,ry,q⟩:=h
 cases x<;>cases y<;>first
  |exact q.elim
  |(cases Vt.mp rx;cases Vt.mp ry;exact⟨_,_,rfl,rfl,q _ H Ext.refl rm (Vt.mpr rfl)⟩)
theorem mU:OpR X (Pb .Sub) (l2 X.K jZ):=by
 refine OpR.of AA λv u H Q h=>?_;obtain⟨x,y,M,rm,rx,ry,q⟩:=h
 cases x<;>cases y<;>first
  |exact q.elim
  |(cases Vt.mp rx;cases Vt.mp ry;exact⟨_,_,rfl,rfl,q _ H Ext.refl rm (Vt.mpr rfl)⟩)
theorem vJ:OpR X (Pb .Mult) (rI MulOk λi j=>.int (i*j)):=opI λ_ _ _ _ _ _ _ z q=>imul_int q z.ok
theorem mV:OpR X (Pb .Mult) (l2 X.K ka):=by
 refine OpR.of vJ λv u H Q h=>?_;obtain⟨x,y,M,rm,rx,ry,q⟩:=h
 cases x<;>cases y<;>first
  |exact q.elim
  |(cases Vt.mp rx;cases Vt.mp ry;exact⟨_,_,rfl,rfl,q.1,q.2 _ H Ext.refl rm (Vt.mpr rfl)⟩)
noncomputable def tY(i:Nat)(rd:R2d)(te:TEd):TSd:=λD ρ M=>∃x,ρ[i]?=Z (Z x)/\te ρ M λy M1=>rd x y M1 λz M2=>D.nx (ρ.set i (Z z)) M2
theorem yM{rd:R2d}(j:aO rd)(he:ad te):aQ (tY i rd te):=λa b ρ M l g9=>(by obtain⟨x,e,q⟩:=g9;exact⟨x,e,he _ _ _ _ (λy G B=>j _ _ _ _ _ (λz M2 F=>l.nx _ _ F) B) q⟩)
theorem pO{x:Str}{op:P1}{rd:R2d}(U:X.N.Nodup)(hi:X.N[i]?=Z x)(hx:Loc X.env.scope x)(he:PE X e (lE X.K te))(ho:OpR X (Pb op) (l2 X.K rd))(F2:aO rd)(me:ad te)(hf:X.fn x=N3∨X.env.scope.names.lookup x=Z .local):PS X (.AugAssign (.Name x pos') op e pos) (lS X.K (tY i rd te)):=by refine PS.imp (CF U hi hx he (ti:=l2 X.K rd) ho hf) λD σ H h=>?_;obtain⟨ρ,M,A,rs,rm,l,d,e,q⟩:=h;obtain⟨v,fv,j⟩:=rs.2 i d e;refine⟨v,fv,ρ,M,rs,rm,me _ _ _ _ (λy M1 q1 u H1 B F G=>?_) q⟩;refine⟨d,y,M1,F,j.mono (B.stab rm),G,F2 _ _ _ _ _ (λz M2 q2 w H2 O J L=>?_) q1⟩;exact l.nx _ M2 _ H2 (B.trans O) ((rs.mono ((B.trans O).stab rm)).set i L) J q2
end
end
end Mi
namespace Mi
variable{K:Frag}
theorem vK{ta:TAd}{i j:Nat}(m:aY ta)(D:bN)(σ:St)(H:Hp)(h:lS K (tR ta (cu (cM i) (cu (cM j) jc))) D σ H):CC i j (lA K ta) D σ H:=by
 obtain⟨ρ,M,A,rs,rm,l,q⟩:=h;refine⟨ρ,M,rs,rm,m _ _ _ _ (λds G g9 vs H1 F B z=>?_) q⟩;obtain⟨ρ',e,J⟩:=g9
 match ds,e,z with
 |[d1,d2],e,z=>obtain⟨v,u,rfl,L,O⟩:=z.two;simp only[cu,cM,jc,Oy,U9]at e;subst e;exact⟨v,u,rfl,l.nx _ G _ H1 F (((rs.mono (F.stab rm)).set i L).set j O) B J⟩
end Mi
section
section
variable{X:Cx}
theorem aH:CG X (λo i H Q=>∃a xs k x,o=.ref a/\i=.int k/\SqL X.K H a xs/\atI xs k=Z x/\Q x H):=by
 intro pins s σ H o i ov iv Q I ro ri h;obtain⟨a,xs,k,x,rfl,rfl,sq,he,q⟩:=h
 cases ro
 obtain⟨t,rfl⟩:=ri;obtain⟨its,r,pl,J⟩:=I.list sq;obtain⟨j,h1,h2,L,B,F⟩:=kN he;obtain⟨w,ew,rw'⟩:=r.get h2;have G:=r.length;have O:=fD;have fin:EP X pins σ Q w s:=⟨x,H,I,rw',q⟩
 by_cases h0:0<=k
 ·have z:k.toNat=j:=N1.inj (by rw[<-h1,SM h0 F])
  exact wpAny_getItem_list pl.isList h0 ∅ (by rw[z];simpa using ew) fin
 ·have z:(k+(its.toArray.size:Int)).toNat=j:=by
   rw[KR,<-G];exact N1.inj (by rw[<-h1,S8 ∅ B])
  exact Sa pl.isList ∅ (by rw[KR];lia) ∅ (by rw[z];simpa using ew) fin
end
namespace Mi
section
variable{X:Cx}
noncomputable def A2:R2d:=λx y M Q=>∃a ds k d,x=.ref a/\y=.int k/\M a=Z (.lst ds)/\atI ds k=Z d/\Q d M
theorem vL:aO A2:=λ_ _ _ _ _ h j=>(by obtain⟨a,ds,k,d,z,B,F,G,q⟩:=j;exact⟨a,ds,k,d,z,B,F,G,h _ _ q⟩)
noncomputable def og(to ti te:TEd)(rd:R2d):TSd:=λD ρ M=>to ρ M λo M1=>ti ρ M1 λi M2=>A2 o i M2 λx M3=>te ρ M3 λy M4=>rd x y M4 λz M5=>gj o i z M5 λM6=>D.nx ρ M6
theorem vM{to ti te:TEd}{rd:R2d}(ho:ad to)(hi:ad ti)(he:ad te)(j:aO rd):aQ (og to ti te rd):=λa b ρ M l q=>ho _ _ _ _ (λo U B=>hi _ _ _ _ (λi M2 F=>vL _ _ _ _ _ (λx F2 G=>he _ _ _ _ (λy fv J=>j _ _ _ _ _ (λz M5 L=>mQ (λM6 O=>l.nx _ _ O) L) J) G) F) B) q
theorem kZ{o i e:Expr}{to ti te:TEd}{op:P1}{rd:R2d}{pos tpos:Pos}(hu:X.A.units+1<Oa)(mo:ad to)(mi:ad ti)(me:ad te)(hr:aO rd)(ho:PE X o (lE X.K to))(hi:PE X i (lE X.K ti))(he:PE X e (lE X.K te))(J:OpR X (Pb op) (l2 X.K rd))(ha:∀ov iv new,augStore i ov iv new=(do holding [new,ov,iv] (T6 ov iv new);release [new,ov,iv] [];pure .next)):PS X (.AugAssign (.Subscript o i tpos) op e pos) (lS X.K (og to ti te rd)):=by
 refine PS.imp (Ay ho hi aH he (tip:=l2 X.K rd) J (PSet.or oG (pK hu)) ha) λD σ H h=>?_;obtain⟨ρ,M,A,rs,rm,l,q⟩:=h;refine⟨ρ,M,rs,rm,mo _ _ _ _ (λd1 M1 q1 v1 H1 x1 j L=>?_) q⟩;have B:=rs.mono (x1.stab rm);refine⟨ρ,M1,B,j,mi _ _ _ _ (λd2 M2 q2 v2 H2 O z U=>?_) q1⟩;have F2:=B.mono (O.stab j);have F:=L.mono (O.stab j);obtain⟨a,ds,k,d,rfl,rfl,e3,e4,q3⟩:=q2
 cases Vu.mp F
 cases Vt.mp U
 obtain⟨vs,fv,rv⟩:=z _ _ e3;obtain⟨v3,Iq,Ir⟩:=jO rv e4;refine⟨a,vs,k,v3,rfl,rfl,SqL.of fv,Iq,?_⟩;refine⟨ρ,M2,F2,z,me _ _ _ _ (λd4 M4 q4 v4 H4 x4 Is Iu=>?_) q3⟩;refine⟨d,d4,M4,Is,Ir.mono (x4.stab z),Iu,hr _ _ _ _ _ (λd5 M5 q5 v5 H5 x5 Iv Iw=>?_) q4⟩;have G:=((x1.trans O).trans x4).trans x5;exact pN Iv (Vu.mpr rfl) (Vt.mpr rfl) Iw q5 λM' H' x6 Ix q6=>l.nx ρ M' σ H' (G.trans x6) (rs.mono ((G.trans x6).stab rm)) Ix q6
end
section
section
variable{X:Cx}
noncomputable def tZ:D->Option Bool
 |.bl b=>Z b
 |.int i=>Z (i != 0)
 |_=>Y
noncomputable def pQ:RAd:=λxs M Q=>∃x ds ts,xs=[x]/\aM M x=Z ds/\ay tZ ds=Z ts/\Q (.bl (ts.all id)) M
theorem pS:aK pQ:=λ_ _ _ _ h j=>(by obtain⟨x,ds,ts,e,z,B,q⟩:=j;exact⟨x,ds,ts,e,z,B,h _ _ q⟩)
theorem pT{α β:Type}{f:α->Option β}:∀{xs:List α} {ys:List β},ay f xs=Z ys->ys.length=xs.length/\∀(i:Nat) x,xs[i]?=Z x->∃y,ys[i]?=Z y/\f x=Z y
 |[],ys,h=>by cases h;exact⟨rfl,λi x e=>by simp at e⟩
 |x::xs,ys,h=>by
  simp only[ay]at h
  cases j:f x with
  |none=>rw[j]at h;cases h
  |some y=>
   rw[j]at h;simp only[Oy]at h
   cases e2:ay f xs with
   |none=>rw[e2]at h;cases h
   |some r=>
    rw[e2]at h;cases h;obtain⟨l,g⟩:=pT e2;refine⟨by simp[l],λi z e=>?_⟩
    cases i with
    |zero=>simp at e;subst e;exact⟨y,rfl,j⟩
    |succ i=>simp at e;simpa using g i z e
theorem Bf{P:Lb}{w:Ly}{A:LD}{E:i3->r0->Prop}{s:r0}{K:Frag}{H:Hp}{d:D}{v:V}{u:i3}{b:Bool}{Q:Bool->r0->Prop}(e:tZ d=Z b)(rd:RD K H d v)(ru:RelV v u)(q:Q b s):KU (model P w) A (truthy u) Q E s:=by
 cases d with
 |bl c=>cases Vv.mp rd;cases ru;cases e;exact O9 q
 |int i=>cases Vt.mp rd;obtain⟨t,rfl⟩:=ru;cases e;exact PyProof.Rows.truthy_int q
 |_=>cases e
theorem range_all{ts:List Bool}:(KA ts.length).all (λi=>ts.getD i VP)=ts.all id/\(KA ts.length).any (λi=>ts.getD i VP)=ts.any id:=by
 have e:(KA ts.length).map (λi=>ts.getD i VP)=ts:=by
  apply List.ext_getElem
  ·simp
  ·intro i h1 h2;simp[I7,y3 h2]
 constructor
 ·conv=>rhs;rw[<-e]
  rw[List.all_map];rfl
 ·conv=>rhs;rw[<-e]
  rw[List.any_map];rfl
theorem yN(L:X.calm=N3){pins:List (VQ×Obj)}{s:r0}{σ:St}{H:Hp}{M:Mem}{x:D}{ds:List D}{ts:List Bool}{v:V}{u:i3}{Q:i3->r0->Prop}{g:List Bool->Bool}(I:Inv X pins σ H s)(rm:RM X.K M H)(rd:RD X.K H x v)(ru:RelV v u)(F2:aM M x=Z ds)(fv:ay tZ ds=Z ts)(fin:∀h' tk,Inv X pins σ H {s with heap:=h',toks:=tk}->Q (.bool (g ts)) {s with heap:=h',toks:=tk})(gg:Nat->(Nat->Bool)->Bool)(O:gg ts.length (λi=>ts.getD i VP)=g ts):
 KU (model X.prog X.w) X.A.in1 (S0 u) (λit s₂=>∃I fp wr n P St tr,it=.ref I/\Walks X.prog X.w X.A.in1 I fp wr n P St/\St 0 s₂.heap/\TruthOf X.prog X.w X.A.in1 P tr /\
  ∀h' tk,(∀b o,b∉wr->s₂.heap.get? b=Z o->h'.get? b=Z o)->Q (.bool (gg n tr)) {s₂ with heap:=h',toks:=tk}) X.xe s:=by
 obtain⟨p,vs,rfl,sq,U⟩:=pC rm rd F2
 cases ru
 obtain⟨lt,get⟩:=pT fv;have lv:=U.length;have tr:∀(its:List i3),Vals vs its->TruthOf X.prog X.w X.A.in1 (λi w=>its.toArray[i]?=Z w) (λi=>ts.getD i VP):=by
  intro its rv i w s' Q' E' hP F;have z:its[i]?=Z w:=by simpa using hP
  have li:=rv.length;have hi:i<its.length:=(KN.mp z).1;obtain⟨d,hd⟩:∃d,ds[i]?=Z d:=⟨ds[i]'∅,y3 ∅⟩
  obtain⟨v',G,rd'⟩:=U.get hd;obtain⟨u',B,ru'⟩:=rv.get G;rw[z]at B;cases B;obtain⟨b,hb,eb⟩:=get i d hd;have:ts.getD i VP=b:=by rw[I7,hb];rfl
  have F:Q' (ts.getD i VP) s':=F;rw[this]at F;exact Bf eb rd' ru' F
 rcases sq with sq|sq
 ·obtain⟨its,rv,pl,hz⟩:=I.list sq;have li:=rv.length;have j:p<s.heap.objs.size:=by obtain⟨o,n,e,_⟩:=pl;exact z4 e
  refine Nb pl.isList ⟨s.heap.objs.size,_,_,_,_,_,_,rfl,Walks.list (by rw[PF];exact I.ok.hd L) s.heap.objs.size p (Lc j) its.toArray,⟨⟨_,KG _ rfl,rfl,rfl⟩,pl.isList.at λo e=>p0 _ e⟩,tr its rv,λh' tk k=>?_⟩
  have J:its.toArray.size=ts.length:=by rw[KR];lia
  rw[J,O];exact fin h' tk (I.kept (t':=tk) λb o e=>k b o (by simp;exact Lc (z4 e)) (p0 _ e))
 ·obtain⟨its,rv,pl,hz⟩:=I.tuple sq;have li:=rv.length;have j:p<s.heap.objs.size:=by obtain⟨o,e,_⟩:=pl;exact z4 e
  have pt:s.heap.IsTuple p its.toArray:=pl;refine MJ pt ⟨s.heap.objs.size,_,_,_,_,_,_,rfl,Walks.tuple (by rw[PF];exact I.ok.hd L) s.heap.objs.size p (Lc j) its.toArray,⟨⟨_,KG _ rfl,rfl,rfl⟩,pt.push _⟩,tr its rv,λh' tk k=>?_⟩
  have J:its.toArray.size=ts.length:=by rw[KR];lia
  rw[J,O];exact fin h' tk (I.kept (t':=tk) λb o e=>k b o (by simp;exact Lc (z4 e)) (p0 _ e))
theorem u5(j:X.calm=N3):CallR X (.builtin "all") (lR X.K pQ):=by intro pins s σ H xs us Q I rv h;obtain⟨ds,M,rm,rs,x,es,ts,rfl,z,B,q⟩:=h;obtain⟨v,rfl,r⟩:=rs.one;obtain⟨u,rfl,ru⟩:=dC rv;exact call_all_walk (yN j I rm r ru z B (g:=λts=>ts.all id) (λh' tk I'=>⟨.bl _,H,I',rfl,q _ H Ext.refl rm (Vv.mpr rfl)⟩) (λn tr=>(KA n).all tr) range_all.1)
noncomputable def oh(t:Bool):TEd:=λ_ M Q=>∀p,M p=Y->Q (.ref p) (ag M p (.dct t []))
theorem vN{t:Bool}:ad (oh t):=λ_ _ _ _ i q p n=>i _ _ (q p n)
theorem Bg{t:Bool}{pos:Pos}:PE X (.Dict [] [] pos) (lE X.K (oh t)):=by
 cases t with
 |false=>refine PE.imp xT λσ H Q g9 p n=>?_;obtain⟨ρ,M,rs,rm,q⟩:=g9;exact q p (rm.out n) (.ref p) _ (Ext.lay n) (rm.lay n ⟨[],aD,.nil⟩) (Vu.mpr rfl)
 |true=>refine PE.imp xU λσ H Q g9 p n=>?_;obtain⟨ρ,M,rs,rm,q⟩:=g9;exact q p (rm.out n) (.ref p) _ (Ext.lay n) (rm.lay n ⟨[],aD,.nil⟩) (Vu.mpr rfl)
end
end
end Mi
end
namespace Srt
structure Cm(prog:Lb)(w:Ly)(A:LD)(s:r0)(kd:Pt)(P:KI->Prop)(lt:KI->KI->Bool):Prop where
 asym:∀x y,lt x y=N3->lt y x=VP
 neg:∀x y z,lt x z=N3->lt x y=N3∨lt y z=N3
 run:∀(x y:KI) (E:i3->r0->Prop) (Q:Bool->r0->Prop),P x->P y->Q (lt x y) s->KU (La prog w) A (keyLt' kd x.1 y.1) Q E s
variable{M:Qf}{x y:KI}{st:LW}{i:Nat}
section
variable{prog:Lb}{w:Ly}{A:LD}{E:i3->r0->Prop}{s:r0}{kd:Pt}{P:KI->Prop}{lt:KI->KI->Bool}
theorem aa{σ α:Type}{x:α}{st:σ}{Q:α->σ->Prop}(q:Q x st):wpS M A E s (pure x) Q st:=λ_ _ _=>⟨rfl,q⟩
theorem cC{σ:Type}{tag:String}{st:σ}{Q:Unit->σ->Prop}(q:Q () st):wpS M A E s (liftM (PySem.rule tag)) Q st:=wpS_lift (Nl ⟨rfl,q⟩)
theorem Bh{σ:Type}{st st':σ}{Q:PUnit->σ->Prop}(q:Q PUnit.unit st'):wpS M A E s (set st') Q st:=λ_ _ _=>⟨rfl,q⟩
theorem kb(c:Cm prog w A s kd P lt){Q:Option Bool->LW->Prop}(j:MQ st=kd)(hx:P x)(z:P y)(q:Q (Z (lt x y)) st):wpS (La prog w) A E s (lt' x y) Q st:=by rw[lt'_eq];refine D2 (Ow ?_);refine D2 (wpS_lift ?_);rw[j];intro Γ p hp;rw[Sem.wp_attempt];exact c.run x y (λe s'=>s'=s/\wpS (La prog w) A E s (do modify λs=>Qn (MQ s) (Lq s) (KZ s) (gallopOf s) (Z e);pure Y) Q st) (λb s'=>s'=s/\wpS (La prog w) A E s (pure (Z b)) Q st) hx z ⟨rfl,aa q⟩ Γ p hp
theorem aI{arr:Array KI}{Q:KI->LW->Prop}(h:arr[i]?=Z x)(q:Q x st):wpS (La prog w) A E s (elem' arr i) Q st:=by rw[elem'_eq,h];exact aa q
theorem Cm.le_trans(c:Cm prog w A s kd P lt){z:KI}(h:lt y x=VP)(h2:lt z y=VP):lt z x=VP:=by
 cases e:lt z x with
 |false=>rfl
 |true=>rcases c.neg z y x e with q|q<;>simp_all
theorem Cm.irr(c:Cm prog w A s kd P lt):lt x x=VP:=by
 cases e:lt x x with
 |false=>rfl
 |true=>have:=c.asym x x e;rw[e]at this;exact this
theorem aw{σ α:Type}{m:StateT σ Sem α}{st:σ}{Q Q':α->σ->Prop}(h:wpS M A E s m Q st)(q:∀a st',Q a st'->Q' a st'):wpS M A E s m Q' st:=Mj h (λa s' z=>⟨z.1,q _ _ z.2⟩) λ_ _ z=>z
end
noncomputable abbrev Dv:=Bool->KI->Array KI->Nat->Nat->Nat->StateT LW Sem (Option Nat)
noncomputable abbrev Dx:=Array KI->Array KI->StateT LW Sem (Array KI)
noncomputable def bey(lt:KI->KI->Bool)(left:Bool)(key x:KI):Bool:=if left=N3 then lt x key else !(lt key x)
structure Same(st st':LW):Prop where
 arr:Lq st'=Lq st
 kind:MQ st'=MQ st
 pend:KZ st'=KZ st
 fail:Nc st'=Nc st
def iA(prog:Lb)(w:Ly)(A:LD)(E:i3->r0->Prop)(s:r0)(kd:Pt)(P:KI->Prop)(lt:KI->KI->Bool)(g:Dv):Prop:=
 ∀(left:Bool) (key:KI) (arr:Array KI) (L xs R:List KI) (base n hint:Nat) (st:LW) (Q:Option Nat->LW->Prop),MQ st=kd->P key->arr.toList=L++xs++R->base=L.length->n=xs.length->(∀x∈xs,P x)->hint<n->
  xs.Pairwise (λx y=>lt y x=VP)->
  (∀X F2,xs=X++F2->(∀x∈X,bey lt left key x=N3)->(∀x∈F2,bey lt left key x=VP)->Q (Z X.length) st)->
  wpS (La prog w) A E s (g left key arr base n hint) Q st
def iB(prog:Lb)(w:Ly)(A:LD)(E:i3->r0->Prop)(s:r0)(kd:Pt)(P:KI->Prop)(lt:KI->KI->Bool)(m:Dx):Prop:=
 ∀(a b:Array KI) (st:LW) (Q:Array KI->LW->Prop),MQ st=kd->(∀x∈a.toList,P x)->(∀x∈b.toList,P x)->0<a.size->0<b.size->
  a.toList.Pairwise (λx y=>lt y x=VP)->b.toList.Pairwise (λx y=>lt y x=VP)->(∀x y,a[0]?=Z x->b[0]?=Z y->lt x y=VP)->(∀x y,a[a.size-1]?=Z x->b[b.size-1]?=Z y->lt x y=VP)->
  (∀r st',r.toList.Perm (a.toList++b.toList)->r.toList.Pairwise (λx y=>lt y x=VP)->Same st st'->Q r st')->
  wpS (La prog w) A E s (m a b) Q st
variable{left:Bool}{key:KI}{j ia ib n na nb:Nat}{xs X l F2 la lb:List KI}{a b:Array KI}
section
variable{prog:Lb}{w:Ly}{A:LD}{E:i3->r0->Prop}{s:r0}{kd:Pt}{P:KI->Prop}{lt:KI->KI->Bool}
theorem hZ(c:Cm prog w A s kd P lt){arr:Array KI}{Q:Option Bool->LW->Prop}(z:MQ st=kd)(hx:P key)(B:P x)(e:arr[j]?=Z x)(q:Q (Z (bey lt left key x)) st):
 wpS (La prog w) A E s (do
  let x <-elem' arr j
  if left=N3 then lt' x key else do
   let r <-lt' key x
   pure (Option.map (λx=>!x) r)) Q st:=by
 refine D2 (aI e ?_)
 cases left with
 |true=>exact kb c z B hx q
 |false=>exact D2 (kb c z hx B (aa q))
theorem pU(c:Cm prog w A s kd P lt)(h:lt y x=VP)(j:bey lt left key y=N3):bey lt left key x=N3:=by
 unfold bey at j⊢
 cases left with
 |true=>
  rw[if_pos rfl]at j⊢
  rcases c.neg y x key j with q|q
  ·rw[h]at q;cases q
  ·exact q
 |false=>
  simp at j⊢
  cases e:lt key x with
  |false=>rfl
  |true=>
   rcases c.neg key y x e with q|q
   ·rw[j]at q;cases q
   ·rw[h]at q;cases q
structure Gal(lt:KI->KI->Bool)(left:Bool)(key:KI)(xs:List KI)(lo hi:Nat):Prop where
 le:lo<=hi
 len:hi<=xs.length
 up:∀i x,i<lo->xs[i]?=Z x->bey lt left key x=N3
 dn:∀i x,hi<=i->xs[i]?=Z x->bey lt left key x=VP
theorem fI{R:KI->KI->Prop}(h:xs.Pairwise R)(z:i<j)(hx:xs[i]?=Z x)(B:xs[j]?=Z y):R x y:=by obtain⟨h1,F⟩:=KN.mp hx;obtain⟨h2,G⟩:=KN.mp B;rw[<-F,<-G];exact List.pairwise_iff_getElem.mp h i j h1 h2 z
theorem iC(c:Cm prog w A s kd P lt)(h:xs.Pairwise (λx y=>lt y x=VP))(z:xs[j]?=Z y)(B:bey lt left key y=N3):∀i x,i<j+1->xs[i]?=Z x->bey lt left key x=N3:=by
 intro i x hi hx
 by_cases e:i=j
 ·subst e;rw[hx]at z;cases z;exact B
 ·exact pU c (fI h ∅ hx z) B
theorem iD(c:Cm prog w A s kd P lt)(h:xs.Pairwise (λx y=>lt y x=VP))(z:xs[j]?=Z y)(B:bey lt left key y=VP):∀i x,j<=i->xs[i]?=Z x->bey lt left key x=VP:=by
 intro i x hi hx
 by_cases e:i=j
 ·subst e;rw[hx]at z;cases z;exact B
 ·cases q:bey lt left key x with
  |false=>rfl
  |true=>have:=pU c (fI h ∅ z hx) q;rw[B]at this;cases this
theorem Gal.out{k:Nat}(g:Gal lt left key xs k k):∃X F2,xs=X++F2/\X.length=k/\(∀x∈X,bey lt left key x=N3)/\(∀x∈F2,bey lt left key x=VP):=by
 refine⟨xs.take k,xs.drop k,(Mx k xs).symm,by rw[Lk];exact MW g.len,λx hx=>?_,λx hx=>?_⟩
 ·obtain⟨i,hi,e⟩:=N6.mp hx;rw[Lk]at hi;exact g.up i x ∅ (by rw[List.getElem_take]at e;rw[<-e];exact y3 _)
 ·obtain⟨i,hi,e⟩:=N6.mp hx;rw[N5]at hi;refine g.dn (k+i) x ∅ ?_
  rw[List.getElem_drop]at e;rw[<-e];exact y3 _
noncomputable abbrev Ord(lt:KI->KI->Bool)(l:List KI):Prop:=l.Pairwise λx y=>lt y x=VP
theorem pV{out A' B:List KI}(h1:Ord lt (out++(X++A')))(h2:Ord lt (out++B))(h:∀x∈X,∀y∈B,lt y x=VP):Ord lt ((out++X)++A')/\Ord lt ((out++X)++B):=by
 refine⟨by rw[L7];exact h1,?_⟩
 rw[L7];obtain⟨j,F,G⟩:=J4.mp h1;obtain⟨U,p2,J⟩:=J4.mp h2;obtain⟨L,F2,fv⟩:=J4.mp F;refine J4.mpr ⟨j,J4.mpr ⟨L,p2,h⟩,λx hx y O=>?_⟩
 rcases KQ.mp O with z|z
 ·exact G x hx y (Lp _ z)
 ·exact J x hx y z
structure ML(lt:KI->KI->Bool)(la lb out:List KI)(ia ib:Nat):Prop where
 pa:Ord lt (out++la.drop ia)
 pb:Ord lt (out++lb.drop ib)
 pm:(out++(la.drop ia++lb.drop ib)).Perm (la++lb)
theorem rW(c:Cm prog w A s kd P lt)(h:Ord lt (l.drop i))(j:l[i]?=Z y)(hx:lt y x=VP):∀z∈l.drop i,lt z x=VP:=by
 obtain⟨hi,e⟩:=KN.mp j;rw[Mt hi,e]at h⊢;intro z B
 rcases KH.mp B with q|q
 ·rw[q];exact hx
 ·exact c.le_trans hx ((PH.mp h).1 z q)
theorem ee(e:l.drop i=X++F2):l.drop (i+X.length)=F2:=by rw[<-R4,e,List.drop_left]
theorem ML.galA(c:Cm prog w A s kd P lt){out:List KI}(m:ML lt la lb out ia ib)(e:la.drop ia=X++F2)(j:lb[ib]?=Z y)(h:∀x∈X,lt y x=VP):ML lt la lb (out++X) (ia+X.length) ib:=by
 have p2:=(J4.mp m.pb).2.1;have q:=pV (X:=X) (A':=F2) (by rw[<-e];exact m.pa) m.pb λx hx=>rW c p2 j (h x hx)
 refine⟨by rw[ee e];exact q.1,q.2,?_⟩
 rw[ee e];refine NQ.trans (OS ?_) m.pm;rw[e];simp
theorem ML.galB(c:Cm prog w A s kd P lt){out:List KI}(m:ML lt la lb out ia ib)(e:lb.drop ib=X++F2)(j:la[ia]?=Z y)(h:∀x∈X,lt y x=VP):ML lt la lb (out++X) ia (ib+X.length):=by
 have p2:=(J4.mp m.pa).2.1;have q:=pV (X:=X) (A':=F2) (by rw[<-e];exact m.pb) m.pa λx hx=>rW c p2 j (h x hx)
 refine⟨q.2,by rw[ee e];exact q.1,?_⟩
 rw[ee e];refine NQ.trans ?_ m.pm;rw[e,L7];refine LX _ ?_;rw[<-L7,<-L7];exact Mf _ NZ
theorem eh(h:l[i]?=Z x):l.drop i=[x]++l.drop (i+1):=by obtain⟨hi,e⟩:=KN.mp h;rw[Mt hi,e];rfl
theorem ML.pushA(c:Cm prog w A s kd P lt){out:List KI}(m:ML lt la lb out ia ib)(hx:la[ia]?=Z x)(j:lb[ib]?=Z y)(h:lt y x=VP):ML lt la lb (out++[x]) (ia+1) ib:=m.galA c (eh hx) j (by simpa using h)
theorem ML.pushB(c:Cm prog w A s kd P lt){out:List KI}(m:ML lt la lb out ia ib)(hx:la[ia]?=Z x)(j:lb[ib]?=Z y)(h:lt x y=VP):ML lt la lb (out++[y]) ia (ib+1):=m.galB c (eh j) hx (by simpa using h)
def Res(lt:KI->KI->Bool)(la lb r:List KI):Prop:=r.Perm (la++lb)/\Ord lt r
theorem ML.fin{out:List KI}(m:ML lt la lb out ia ib)(h:lb.length<=ib):Res lt la lb (out++la.drop ia++lb.drop ib):=by rw[NL h,Mv];refine⟨?_,m.pa⟩;have:=m.pm;rw[NL h,Mv]at this;exact this
theorem ML.finE{out:List KI}(m:ML lt la lb out ia ib)(h:la.length<=ia):Res lt la lb (out++la.drop ia++lb.drop ib):=by rw[NL h,Mv];refine⟨?_,m.pb⟩;have:=m.pm;rw[NL h,Pu]at this;exact this
theorem ML.finA{out:List KI}(m:ML lt la lb out ia ib)(h:∀x∈lb,∀y∈la.drop ia,lt y x=VP):Res lt la lb (out++lb.drop ib++la.drop ia):=by
 refine⟨?_,?_⟩
 ·refine NQ.trans ?_ m.pm;rw[L7];exact LX _ NZ
 ·obtain⟨G,B,F⟩:=J4.mp m.pa;refine J4.mpr ⟨m.pb,B,λx hx y j=>?_⟩
  rcases KQ.mp hx with z|z
  ·exact F x z y j
  ·exact h x (Oe z) y j
theorem ML.size{out:List KI}(m:ML lt la lb out ia ib)(j:ia<=la.length)(z:ib<=lb.length):out.length=ia+ib:=by have:=m.pm.length_eq;simp only[D1,N5]at this;lia
theorem aH(h:i<a.size):∃x,a[i]?=Z x/\a.toList[i]?=Z x/\x∈a.toList:=by refine⟨a[i],LA h,?_,Array.getElem_mem_toList h⟩;rw[Le];exact LA h
theorem bQ:(a.extract i).toList=a.toList.drop i:=by rw[Nw];simp only[PZ];exact Nf (by simp)
theorem Bi(e:a.toList.drop i=X++F2):(a.extract i (i+X.length)).toList=X:=by rw[Nw];simp[PZ,e]
theorem Same.refl:Same st st:=⟨rfl,rfl,rfl,rfl⟩
theorem Same.trans{a b c:LW}(h:Same a b)(g:Same b c):Same a c:=⟨g.arr.trans h.arr,g.kind.trans h.kind,g.pend.trans h.pend,g.fail.trans h.fail⟩
theorem mW{O A' B:List KI}(h1:Ord lt (A'++(F2++O)))(h2:Ord lt (B++O))(h:∀y∈F2,∀x∈B,lt y x=VP):Ord lt (B++(F2++O)):=by
 obtain⟨L,j,U⟩:=J4.mp h1;obtain⟨F,p2,G⟩:=J4.mp h2;refine J4.mpr ⟨F,j,λx hx y J=>?_⟩
 rcases KQ.mp J with z|z
 ·exact h y z x hx
 ·exact G x hx y z
structure MH(lt:KI->KI->Bool)(la lb out:List KI)(na nb:Nat):Prop where
 pa:Ord lt (la.take na++out.reverse)
 pb:Ord lt (lb.take nb++out.reverse)
 pm:(la.take na++lb.take nb++out.reverse).Perm (la++lb)
theorem iE(c:Cm prog w A s kd P lt)(h:Ord lt (l.take n))(J:0<n)(F:l[n-1]?=Z y)(hx:lt x y=VP):∀z∈l.take n,lt x z=VP:=by
 intro z G;obtain⟨i,hi,e⟩:=N6.mp G;have j:(l.take n)[i]?=Z z:=by rw[<-e];exact y3 hi
 have B:(l.take n)[n-1]?=Z y:=by rw[Ol ∅];exact F
 rw[Lk]at hi
 by_cases hin:i=n-1
 ·subst hin;rw[B]at j;cases j;exact hx
 ·exact c.le_trans (fI h ∅ j B) hx
theorem eD(e:l.take n=X++F2):l.take X.length=X:=by
 have h:X.length<=n:=by have:=congrArg LP e;simp only[Lk,D1]at this;lia
 have h2:(l.take n).take X.length=X:=by rw[e,List.take_left]
 rw[List.take_take,MW h]at h2;exact h2
theorem MH.galA(c:Cm prog w A s kd P lt){out:List KI}(m:MH lt la lb out na nb)(e:la.take na=X++F2)(j:0<nb)(z:lb[nb-1]?=Z y)(h:∀x∈F2,lt x y=VP):MH lt la lb (out++F2.reverse) X.length nb:=by
 have p2:=(J4.mp m.pb).1;have h1:Ord lt (X++(F2++out.reverse)):=by rw[<-L7,<-e];exact m.pa
 have q:=mW h1 m.pb λx hx=>iE c p2 j z (h x hx);refine⟨by rw[eD e];simpa using h1,by simpa using q,?_⟩
 rw[eD e];refine NQ.trans ?_ m.pm;rw[e];simp only[List.reverse_append,SW,L7];refine LX _ ?_;rw[<-L7,<-L7];exact Mf _ NZ
theorem MH.galB(c:Cm prog w A s kd P lt){out:List KI}(m:MH lt la lb out na nb)(e:lb.take nb=X++F2)(j:0<na)(z:la[na-1]?=Z y)(h:∀x∈F2,lt x y=VP):MH lt la lb (out++F2.reverse) na X.length:=by
 have p2:=(J4.mp m.pa).1;have h1:Ord lt (X++(F2++out.reverse)):=by rw[<-L7,<-e];exact m.pb
 have q:=mW h1 m.pa λx hx=>iE c p2 j z (h x hx);refine⟨by simpa using q,by rw[eD e];simpa using h1,?_⟩
 rw[eD e];refine NQ.trans (OS ?_) m.pm;rw[e];simp
theorem cX(j:0<n)(h:l[n-1]?=Z x):l.take n=l.take (n-1)++[x]:=by
 obtain⟨k,rfl⟩:∃k,n=k+1:=⟨n-1,∅⟩
 rw[R5]at h⊢;rw[Ua,h];rfl
theorem rX(j:0<n)(h:l[n-1]?=Z x):(l.take (n-1)).length=n-1:=by obtain⟨hi,_⟩:=KN.mp h;rw[Lk];lia
theorem MH.pushA(c:Cm prog w A s kd P lt){out:List KI}(m:MH lt la lb out na nb)(j:0<na)(z:0<nb)(hx:la[na-1]?=Z x)(B:lb[nb-1]?=Z y)(h:lt x y=VP):MH lt la lb (out++[x]) (na-1) nb:=by
 have q:=m.galA c (cX j hx) z B (by simpa using h)
 rw[rX j hx]at q;simpa using q
theorem MH.pushB(c:Cm prog w A s kd P lt){out:List KI}(m:MH lt la lb out na nb)(B:0<na)(j:0<nb)(hx:la[na-1]?=Z x)(z:lb[nb-1]?=Z y)(h:lt y x=VP):MH lt la lb (out++[y]) na (nb-1):=by
 have q:=m.galB c (cX j z) B hx (by simpa using h)
 rw[rX j z]at q;simpa using q
theorem MH.fin{out:List KI}(m:MH lt la lb out na nb)(h:na=0∨nb=0):Res lt la lb (la.take na++lb.take nb++out.reverse):=by
 refine⟨m.pm,?_⟩
 rcases h with rfl|rfl
 ·simpa using m.pb
 ·simpa using m.pa
theorem MH.finB{out:List KI}(m:MH lt la lb out na nb)(h:∀x∈lb.take nb,∀y∈la,lt y x=VP):Res lt la lb (lb.take nb++la.take na++out.reverse):=by
 refine⟨NQ.trans (Mf _ NZ) m.pm,?_⟩;obtain⟨j,G,B⟩:=J4.mp m.pb;rw[L7];refine J4.mpr ⟨j,m.pa,λx hx y F=>?_⟩
 rcases KQ.mp F with z|z
 ·exact h x hx y (Of z)
 ·exact B x hx y z
theorem MH.size{out:List KI}(m:MH lt la lb out na nb)(j:na<=la.length)(z:nb<=lb.length):out.length+na+nb=la.length+lb.length:=by have:=m.pm.length_eq;simp only[D1,Lk,Te]at this;lia
theorem eU:a.toList.take a.size=a.toList:=Nf (by simp)
theorem bn:(a.extract 0 i).toList=a.toList.take i:=by rw[Nw];simp[PZ]
theorem yO(e:a.toList.take n=X++F2):(a.extract X.length n).toList=F2:=by rw[Nw];simp only[PZ];rw[<-List.drop_take,e,List.drop_left]
theorem yP:∀(m old L R:List KI) (a:Array KI),a.toList=L++old++R->m.length=old.length->(Qk (λa x=>a.setIfInBounds (L.length+x.snd) x.fst) a m.zipIdx).toList=L++m++R:=by
 have g:∀(m old L R:List KI) (k:Nat) (a:Array KI),a.toList=L++old++R->m.length=old.length->∀b:Nat,b+k=L.length->(Qk (λa x=>a.setIfInBounds (b+x.snd) x.fst) a (m.zipIdx k)).toList=L++m++R:=by
  intro m
  induction m with
  |nil=>intro old L R k a e h b j;have:old=[]:=Lu.mp h.symm;subst this;simpa using e
  |cons x m ih=>
   intro old L R k a e h b j
   cases old with
   |nil=>simp at h
   |cons y old=>
    rw[RG,Sr];have z:(a.setIfInBounds (b+k) x).toList=(L++[x])++old++R:=by rw[R6,e,j];simp
    have:=ih old (L++[x]) R (k+1) _ z (by simpa using h) b (by simp;lia)
    rw[this];simp
 exactλm old L R a e h=>g m old L R 0 a e h L.length ∅
theorem ae{σ α:Type}{p:Prop}[Decidable p]{j z:StateT σ Sem α}{st:σ}{Q:α->σ->Prop}(h1:p->wpS M A E s j Q st)(h2:¬p->wpS M A E s z Q st):wpS M A E s (if p then j else z) Q st:=by
 split
 ·next h=>exact h1 h
 ·next h=>exact h2 h
theorem ML.cut{out:Array KI}(m:ML lt la lb (out.toList++X) i j)(e:a.toList.drop n=X++F2):ML lt la lb (out++a.extract n (n+X.length)).toList i j:=by rw[L4,Bi e];exact m
theorem MH.cut{out:Array KI}(m:MH lt la lb (out.toList++F2.reverse) i j)(e:a.toList.take n=X++F2):MH lt la lb (out++(a.extract X.length n).reverse).toList i j:=by rw[L4,LH,yO e];exact m
theorem vO{σ α:Type}{m:StateT σ Sem α}{st:σ}{Q:α->σ->Prop}{P:σ->Prop}(j:P st)(h:∀st',P st'->wpS M A E s m Q st'):wpS M A E s m Q st:=h st j
theorem A4{σ α:Type}{m:StateT σ Sem α}{st:σ}{Q:α->σ->Prop}(h:∀Q':α->σ->Prop,(∀a st',Q a st'->Q' a st')->wpS M A E s m Q' st):wpS M A E s m Q st:=h Q λ_ _ h=>h
theorem A5(h:bey lt VP key x=N3):lt key x=VP:=by simpa[bey]using h
theorem vP(h:bey lt VP key x=VP):lt key x=N3:=by simpa[bey]using h
theorem A6(h:bey lt N3 key x=N3):lt x key=N3:=by simpa[bey]using h
theorem vQ(h:bey lt N3 key x=VP):lt x key=VP:=by simpa[bey]using h
theorem pW(e:l.drop i=X++F2)(h:l[i+X.length]?=Z x):x∈F2:=by rw[<-ee e,eh h];simp
theorem pX(e:l.take n=X++F2)(h0:0<X.length)(h:l[X.length-1]?=Z x):x∈X:=by have:=cX h0 h;rw[eD e]at this;rw[this];simp
theorem pY(e:a.toList.drop i=X++F2):X.length<=a.size-i:=by have:=congrArg LP e;simp at this;lia
theorem mX(e:a.toList.take n=X++F2)(h:n<=a.size):X.length+F2.length=n:=by have:=congrArg LP e;simp at this;lia
theorem gk(h:n<=a.size):n=(a.toList.take n).length:=by simp;lia
theorem ML.finR{out:Array KI}(m:ML lt a.toList b.toList out.toList ia ib)(h:b.size<=ib):Res lt a.toList b.toList (out++a.extract ia++b.extract ib).toList:=by
 have:=m.fin (by simpa using h)
 simpa only[L4,bQ]using this
theorem ML.finS{out:Array KI}(m:ML lt a.toList b.toList out.toList ia ib)(h:a.size<=ia):Res lt a.toList b.toList (out++a.extract ia++b.extract ib).toList:=by
 have:=m.finE (by simpa using h)
 simpa only[L4,bQ]using this
theorem ML.finL{out:Array KI}(m:ML lt a.toList b.toList out.toList ia ib)(h:∀x∈b.toList,∀y∈a.toList.drop ia,lt y x=VP):Res lt a.toList b.toList (out++b.extract ib++a.extract ia).toList:=by have:=m.finA h;simpa only[L4,bQ]using this
theorem MH.finR{out:Array KI}(m:MH lt a.toList b.toList out.toList na nb)(h:∀x∈b.toList.take nb,∀y∈a.toList,lt y x=VP):Res lt a.toList b.toList (b.extract 0 nb++a.extract 0 na++out.reverse).toList:=by have:=m.finB h;simpa only[L4,LH,bn]using this
theorem MH.finL{out:Array KI}(m:MH lt a.toList b.toList out.toList na nb)(h:na=0∨nb=0):Res lt a.toList b.toList (a.extract 0 na++b.extract 0 nb++out.reverse).toList:=by have:=m.fin h;simpa only[L4,LH,bn]using this
theorem F7(c:Cm prog w A s kd P lt):
 ∃(g:Dv) (lo hi:Dx),(iA prog w A E s kd P lt g/\(iA prog w A E s kd P lt g->iB prog w A E s kd P lt lo)/\(iA prog w A E s kd P lt g->iB prog w A E s kd P lt hi))/\(iA prog w A E s kd P lt g->iB prog w A E s kd P lt lo->iB prog w A E s kd P lt hi->
  ∀(i sa na pa sb nb pb:Nat) (L r1 r2 R:List KI) (st:LW) (Q:Bool->LW->Prop),MQ st=kd->Nc st=Y->(KZ st)[i]?=Z (sa,na,pa)->(KZ st)[i+1]?=Z (sb,nb,pb)->
   (Lq st).toList=L++(r1++r2)++R->sa=L.length->na=r1.length->sb=L.length+r1.length->nb=r2.length->r1≠[]->r2≠[]->(∀x∈r1,P x)->(∀x∈r2,P x)->Ord lt r1->Ord lt r2->
   (∀m st',(Lq st').toList=L++m++R->m.Perm (r1++r2)->Ord lt m->MQ st'=kd->Nc st'=Y->KZ st'=((KZ st).setIfInBounds i (sa,na+nb,pa)).eraseIdxIfInBounds (i+1)->Q N3 st')->
   wpS (La prog w) A E s (Vd i) Q st):=by
 apply Ub;apply Ub;apply Ub;apply Ql
 rotate_left
 ·intro hg Kf Kg i sa na pa sb nb pb L r1 r2 R st Q hk hf h1 h2 fv JG J7 JH Jm Kh Ki JQ JR o1 o2 q;unfold Vd;refine D2 (Ow ?_);rw[h1,h2];dsimp only;refine D2 (Bh ?_);obtain⟨y0,t2,rfl⟩:∃y t,r2=y::t:=by cases r2 with|nil=>exact absurd rfl Ki|cons y t=>exact⟨y,t,rfl⟩
  have hz:(Lq st)[sb]?=Z y0:=by rw[<-Le,fv,JH];simp
  refine D2 (aI hz ?_);refine D2 (hg VP y0 (Lq st) L r1 (y0::t2++R) sa na 0 _ _ hk (JR _ (by simp)) (by rw[fv];simp) JG J7 JQ (by rw[J7];exact LQ.mpr Kh) o1 λX F2 e hX hY=>?_)
  dsimp only;have lX:∀x∈X,lt y0 x=VP:=λx hx=>by have:=hX x hx;simpa[bey]using this
  have lY:∀x∈F2,lt x y0=VP:=λx hx=>c.asym _ _ (by have:=hY x hx;simpa[bey]using this)
  have hlen:na-X.length=F2.length:=by rw[J7,e];simp
  subst e;obtain⟨oX,oY,oXY⟩:=J4.mp o1;have oy:=PH.mp o2;have JI:∀x∈X,∀z∈y0::t2,lt z x=VP:=λx hx z hz=>by
   rcases KH.mp hz with h|h
   ·rw[h];exact lX x hx
   ·exact c.le_trans (lX x hx) (oy.1 z h)
  refine ae (λh=>?_) (λh=>?_)
  ·have JJ:F2=[]:=Lu.mp (by rw[<-hlen];simpa using h)
   subst JJ;refine aa (q (X++(y0::t2)) _ (by simpa using fv) (by simp) ?_ hk hf rfl)
   exact J4.mpr ⟨oX,o2,JI⟩
  ·have JJ:0<F2.length:=by
    have:na-X.length≠0:=by simpa using h
    lia
   obtain⟨Y0,xl,rfl⟩:∃Y0 xl,F2=Y0++[xl]:=⟨F2.dropLast,F2.getLast (by intro z;rw[z]at JJ;simp at JJ),(MX _).symm⟩
   have Kj:(Lq st)[sa+X.length+(na-X.length)-1]?=Z xl:=by
    rw[<-Le,fv,hlen,JG];simp only[L7,D1,MU];rw[z0 ∅,z0 ∅,z0 ∅]
    rw[show L.length+X.length+(Y0.length+1)-1-L.length-X.length-Y0.length=0 by lia];rfl
   refine D2 (aI Kj ?_);refine D2 (hg N3 xl (Lq st) (L++(X++(Y0++[xl]))) (y0::t2) R sb nb (nb-1) _ _ hk (JQ _ (by simp)) (by rw[fv];simp) (by rw[JH];simp) Jm JR (by rw[Jm];simp) o2 λX2 Y2 e2 J8 J9=>?_)
   dsimp only;have Kk:∀x∈X2,lt xl x=VP:=λx hx=>c.asym _ _ (by have:=J8 x hx;simpa[bey]using this)
   have K0:∀x∈Y2,lt x xl=VP:=λx hx=>by have:=J9 x hx;simpa[bey]using this
   have Kl:Ord lt (X2++Y2):=by rw[<-e2];exact o2
   obtain⟨Km,Kn,K1⟩:=J4.mp Kl;obtain⟨Kx,_,oYl⟩:=J4.mp oY;have lYY:∀x∈Y0++[xl],∀z∈Y2,lt z x=VP:=λx hx z hz=>by
    rcases KQ.mp hx with h|h
    ·exact c.le_trans (oYl x h xl (by simp)) (K0 z hz)
    ·simp at h;subst h;exact K0 z hz
   refine ae (λh=>?_) (λh=>?_)
   ·have IZ:X2=[]:=Lu.mp (by simpa using h)
    subst IZ;have e2:y0::t2=Y2:=by simpa using e2
    refine aa (q (X++(Y0++[xl])++(y0::t2)) _ (by simpa using fv) (SX _) ?_ hk hf rfl)
    refine J4.mpr ⟨o1,o2,λx hx z hz=>?_⟩
    rcases KQ.mp hx with g|g
    ·exact JI x g z hz
    ·exact lYY x g z (by rw[<-e2];exact hz)
   ·have IZ:X2≠[]:=λz=>h (by rw[z];rfl)
    have hx:((Lq st).extract (sa+X.length) sb).toList=Y0++[xl]:=by
     rw[Nw,fv,JG,JH];simp only[PZ];have e1:(L++(X++(Y0++[xl])++y0::t2)++R).drop (L.length+X.length)=(Y0++[xl])++(y0::t2++R):=by rw[<-R4];simp
     rw[e1,show L.length+(X++(Y0++[xl])).length-(L.length+X.length)=(Y0++[xl]).length by simp only[D1];lia,List.take_left]
    have hy:((Lq st).extract sb (sb+X2.length)).toList=X2:=by
     rw[Nw,fv,JH];simp only[PZ];have e1:(L++(X++(Y0++[xl])++y0::t2)++R).drop (L.length+(X++(Y0++[xl])).length)=(y0::t2)++R:=by rw[<-R4];simp
     rw[e1,e2];simp
    have G:∀(r:Array KI) (Iu:LW),r.toList.Perm ((Y0++[xl])++X2)->Ord lt r.toList->Same (PyProof.Rows.SortSt.mk' (MQ st) (Lq st) (((KZ st).setIfInBounds i (sa,na+nb,pa)).eraseIdxIfInBounds (i+1)) (gallopOf st) (Nc st)) Iu->∀Iq:LW,Lq Iq=Qk (λa x=>a.setIfInBounds (sa+X.length+x.snd) x.fst) (Lq Iu) r.toList.zipIdx->MQ Iq=MQ Iu->Nc Iq=Nc Iu->KZ Iq=KZ Iu->Q (Nc Iq).isNone Iq:=by
     intro r Iu hp ho hs Iq g1 g2 g3 g4;have K5:Nc Iq=Y:=g3.trans (hs.fail.trans hf);rw[K5];refine q (X++r.toList++Y2) Iq ?_ ?_ ?_ (g2.trans (hs.kind.trans hk)) K5 (g4.trans hs.pend)
     ·rw[g1,hs.arr];have e3:(Lq st).toList=(L++X)++((Y0++[xl])++X2)++(Y2++R):=by
       rw[fv,e2];simp
      rw[show sa+X.length=(L++X).length by rw[JG];simp]
      rw[yP _ _ _ _ _ e3 (hp.length_eq)];simp
     ·rw[e2];refine NQ.trans (Mf _ (LX _ hp)) ?_;simp
     ·refine J4.mpr ⟨J4.mpr ⟨oX,ho,λx hx z hz=>?_⟩,Kn,λx hx z hz=>?_⟩
      ·rcases KQ.mp (hp.mem_iff.mp hz)with g|g
       ·exact oXY x hx z g
       ·exact JI x hx z (by rw[e2];exact Lp _ g)
      ·rcases KQ.mp hx with g|g
       ·exact JI x g z (by rw[e2];exact Ld _ hz)
       ·rcases KQ.mp (hp.mem_iff.mp g)with g|g
        ·exact lYY x g z hz
        ·exact K1 x g z hz
    have JO:∀x y,((Lq st).extract (sa+X.length) sb)[0]?=Z x->((Lq st).extract sb (sb+X2.length))[0]?=Z y->lt x y=VP:=by
     intro x y IR Jn;rw[<-Le,hx]at IR;rw[<-Le,hy]at Jn;have Jo:=L5 IR;have:y=y0:=by
      cases X2 with
      |nil=>exact absurd rfl IZ
      |cons z t=>simp at e2 Jn;rw[<-Jn,<-e2.1]
     subst this;exact lY x Jo
    have preL:∀x y,((Lq st).extract (sa+X.length) sb)[((Lq st).extract (sa+X.length) sb).size-1]?=Z x->((Lq st).extract sb (sb+X2.length))[((Lq st).extract sb (sb+X2.length)).size-1]?=Z y->lt x y=VP:=by
     intro x y IR Jn;rw[<-Le,<-Lm,hx]at IR;rw[<-Le,<-Lm,hy]at Jn;have IS:=L5 Jn;have:x=xl:=by simp at IR;exact IR.symm
     subst this;exact Kk y IS
    have K6:0<((Lq st).extract (sa+X.length) sb).size:=by rw[<-Lm,hx];simp
    have K7:0<((Lq st).extract sb (sb+X2.length)).size:=by rw[<-Lm,hy];exact LQ.mpr IZ
    have K8:∀x∈((Lq st).extract (sa+X.length) sb).toList,P x:=by rw[hx];exactλx hx=>JQ x (Ld _ hx)
    have K9:∀x∈((Lq st).extract sb (sb+X2.length)).toList,P x:=by rw[hy];exactλx hx=>JR x (by rw[e2];exact Lp _ hx)
    have Ka:Ord lt ((Lq st).extract (sa+X.length) sb).toList:=by rw[hx];exact oY
    have Kb:Ord lt ((Lq st).extract sb (sb+X2.length)).toList:=by rw[hy];exact Km
    refine ae (λh=>?_) (λh=>?_)
    ·refine D2 (Kf _ _ _ _ hk K8 K9 K6 K7 Ka Kb JO preL λr Iu hp ho hs=>?_);rw[hx,hy]at hp;refine D2 (Ng ?_);refine D2 (Ow ?_);exact aa (G r Iu hp ho hs _ rfl rfl rfl rfl)
    ·refine D2 (Kg _ _ _ _ hk K8 K9 K6 K7 Ka Kb JO preL λr Iu hp ho hs=>?_);rw[hx,hy]at hp;refine D2 (Ng ?_);refine D2 (Ow ?_);exact aa (G r Iu hp ho hs _ rfl rfl rfl rfl)
 apply Ql
 ·intro left key arr L xs R base n hint st Q hk J0 fv JS hn hP hh hs q;subst JS hn;have at_:∀i,i<xs.length->∃x,xs[i]?=Z x/\arr[L.length+i]?=Z x/\P x:=by
   intro i hi;refine⟨xs[i],y3 hi,?_,hP _ (Oz _)⟩;rw[<-Le,fv,L7,z0 ∅,KS ∅]
   rw[show L.length+i-L.length=i by lia]
   exact y3 hi
  obtain⟨x0,IR,Jp,Ko⟩:=at_ hint hh;refine D2 (hZ c hk J0 Ko Jp ?_)
  try dsimp only
  refine ae (λhb=>?_) (λhb=>?_)
  ·skip
   refine D2 (aw (Q:=λr st'=>st'=st/\∃la ofs,r=(Y,la,ofs)/\hint+la<xs.length/\la<ofs/\(∀j x,j<hint+la+1->xs[j]?=Z x->bey lt left key x=N3)/\(xs.length<=hint+ofs∨∀j x,hint+ofs<=j->xs[j]?=Z x->bey lt left key x=VP))
    (LN (λi r st'=>st'=st/\∃la ofs,r=(Y,la,ofs)/\hint+la<xs.length/\la<ofs/\i+1<=ofs/\(∀j x,j<hint+la+1->xs[j]?=Z x->bey lt left key x=N3)) ?_ ?_ ⟨rfl,0,1,rfl,hh,∅,∅,iC c hs IR hb⟩) ?_)
   ·rintro i r st' _ hi ⟨rfl,la,ofs,rfl,h1,h2,h3,h4⟩
    try dsimp only
    refine ae (λJa=>?_) (λJa=>?_)
    ·exact aa ⟨rfl,la,ofs,rfl,h1,h2,h4,.inl ∅⟩
    ·skip
     obtain⟨x1,IM,Jb,Jc⟩:=at_ (hint+ofs) ∅
     refine D2 (hZ c hk J0 Jc Jb ?_)
     try dsimp only
     refine ae (λhf=>?_) (λhf=>?_)
     ·exact aa ⟨rfl,la,ofs,rfl,h1,h2,h4,.inr (iD c hs IM (by simpa using hf))⟩
     ·exact aa ⟨rfl,ofs,2*ofs+1,rfl,∅,∅,∅,iC c hs IM (by simpa using hf)⟩
   ·rintro r st' ⟨rfl,la,ofs,rfl,h1,h2,h3,h4⟩;exact⟨rfl,la,ofs,rfl,h1,h2,h4,.inl ∅⟩
   ·rintro r st' ⟨rfl,la,ofs,rfl,h1,h2,h3,h4⟩
    try dsimp only
    have hG:Gal lt left key xs (hint+la+1) (hint+min ofs (xs.length-hint)):=by
     refine⟨∅,∅,h3,λi x hi hx=>?_⟩
     have Kz:i<xs.length:=(KN.mp hx).1
     rcases h4 with h4|h4
     ·lia
     ·exact h4 i x ∅ hx
    generalize hint+la+1=lo at hG;generalize hint+min ofs (xs.length-hint)=hi at hG;refine D2 (aw (Q:=λr st''=>st''=st'/\∃k,r=(Y,k,k)/\Gal lt left key xs k k)
     (LN (λi r st''=>st''=st'/\∃lo hi,r=(Y,lo,hi)/\Gal lt left key xs lo hi/\hi-lo+i<=xs.length) ?_ ?_ ⟨rfl,lo,hi,rfl,hG,by have:=hG.len;lia⟩) ?_)
    ·rintro i r st'' _ hi ⟨rfl,lo,hi,rfl,hG,hm⟩
     try dsimp only
     have hl:=hG.le;have Jq:=hG.len;refine ae (λJa=>?_) (λJa=>?_)
     ·exact aa ⟨rfl,hi,by rw[show lo=hi by lia],by rw[show lo=hi by lia]at hG;exact hG⟩
     ·skip
      obtain⟨x1,IM,Jb,Jc⟩:=at_ (lo+(hi-lo) / 2) ∅
      refine D2 (hZ c hk J0 Jc Jb ?_)
      try dsimp only
      refine ae (λhf=>?_) (λhf=>?_)
      ·exact aa ⟨rfl,_,_,rfl,⟨∅,Jq,iC c hs IM hf,hG.dn⟩,∅⟩
      ·exact aa ⟨rfl,_,_,rfl,⟨∅,∅,hG.up,iD c hs IM (by simpa using hf)⟩,∅⟩
    ·rintro r st'' ⟨rfl,lo,hi,rfl,hG,hm⟩;have hl:=hG.le;exact⟨rfl,hi,by rw[show lo=hi by lia],by rw[show lo=hi by lia]at hG;exact hG⟩
    ·rintro r st'' ⟨rfl,k,rfl,hG⟩;obtain⟨X,F2,e,hl,hX,hY⟩:=hG.out;subst hl;exact aa (q X F2 e hX hY)
  ·skip
   refine D2 (aw (Q:=λr st'=>st'=st/\∃la ofs,r=(Y,la,ofs)/\la<=hint/\la<ofs/\(∀j x,hint-la<=j->xs[j]?=Z x->bey lt left key x=VP)/\(hint<ofs∨∀j x,j<hint-ofs+1->xs[j]?=Z x->bey lt left key x=N3))
    (LN (λi r st'=>st'=st/\∃la ofs,r=(Y,la,ofs)/\la<=hint/\la<ofs/\i+1<=ofs/\(∀j x,hint-la<=j->xs[j]?=Z x->bey lt left key x=VP)) ?_ ?_ ⟨rfl,0,1,rfl,∅,∅,∅,iD c hs IR (by simpa using hb)⟩) ?_)
   ·rintro i r st' _ hi ⟨rfl,la,ofs,rfl,h1,h2,h3,h4⟩
    try dsimp only
    refine ae (λJa=>?_) (λJa=>?_)
    ·exact aa ⟨rfl,la,ofs,rfl,h1,h2,h4,.inl ∅⟩
    ·skip
     obtain⟨x1,IM,Jb,Jc⟩:=at_ (hint-ofs) ∅
     refine D2 (hZ c hk J0 Jc Jb ?_)
     try dsimp only
     refine ae (λhf=>?_) (λhf=>?_)
     ·exact aa ⟨rfl,la,ofs,rfl,h1,h2,h4,.inr (iC c hs IM hf)⟩
     ·exact aa ⟨rfl,ofs,2*ofs+1,rfl,∅,∅,∅,iD c hs IM (by simpa using hf)⟩
   ·rintro r st' ⟨rfl,la,ofs,rfl,h1,h2,h3,h4⟩;exact⟨rfl,la,ofs,rfl,h1,h2,h4,.inl ∅⟩
   ·rintro r st' ⟨rfl,la,ofs,rfl,h1,h2,h3,h4⟩
    try dsimp only
    have hG:Gal lt left key xs (hint+1-min ofs (hint+1)) (hint-la):=by
     refine⟨∅,∅,λi x hi hx=>?_,h3⟩
     rcases h4 with h4|h4
     ·lia
     ·exact h4 i x ∅ hx
    generalize hint+1-min ofs (hint+1)=lo at hG;generalize hint-la=hi at hG;refine D2 (aw (Q:=λr st''=>st''=st'/\∃k,r=(Y,k,k)/\Gal lt left key xs k k)
     (LN (λi r st''=>st''=st'/\∃lo hi,r=(Y,lo,hi)/\Gal lt left key xs lo hi/\hi-lo+i<=xs.length) ?_ ?_ ⟨rfl,lo,hi,rfl,hG,by have:=hG.len;lia⟩) ?_)
    ·rintro i r st'' _ hi ⟨rfl,lo,hi,rfl,hG,hm⟩
     try dsimp only
     have hl:=hG.le;have Jq:=hG.len;refine ae (λJa=>?_) (λJa=>?_)
     ·exact aa ⟨rfl,hi,by rw[show lo=hi by lia],by rw[show lo=hi by lia]at hG;exact hG⟩
     ·skip
      obtain⟨x1,IM,Jb,Jc⟩:=at_ (lo+(hi-lo) / 2) ∅
      refine D2 (hZ c hk J0 Jc Jb ?_)
      try dsimp only
      refine ae (λhf=>?_) (λhf=>?_)
      ·exact aa ⟨rfl,_,_,rfl,⟨∅,Jq,iC c hs IM hf,hG.dn⟩,∅⟩
      ·exact aa ⟨rfl,_,_,rfl,⟨∅,∅,hG.up,iD c hs IM (by simpa using hf)⟩,∅⟩
    ·rintro r st'' ⟨rfl,lo,hi,rfl,hG,hm⟩;have hl:=hG.le;exact⟨rfl,hi,by rw[show lo=hi by lia],by rw[show lo=hi by lia]at hG;exact hG⟩
    ·rintro r st'' ⟨rfl,k,rfl,hG⟩;obtain⟨X,F2,e,hl,hX,hY⟩:=hG.out;subst hl;exact aa (q X F2 e hX hY)
 apply Ql
 ·intro hg a b st Q hk Jd Je JK JL sa sb Jr Js q;refine D2 (cC ?_);obtain⟨b0,JM,Jt,Kr⟩:=aH JL;obtain⟨a0,Jp,Jk,Ks⟩:=aH JK;refine D2 (aI JM ?_);have m0:ML lt a.toList b.toList [] 0 0:=⟨sa,sb,by simp⟩
  have m1:ML lt a.toList b.toList [b0] 0 1:=m0.pushB c Jk Jt (Jr a0 b0 Jp JM);have IT:∀x∈b.toList,∀(i:Nat),i+1=a.size->∀y∈a.toList.drop i,lt y x=VP:=by
   intro x hx i hi y hy;obtain⟨aL,JN,Ju,_⟩:=aH (a:=a) (i:=i) ∅
   obtain⟨bL,JT,Jl,_⟩:=aH (a:=b) (i:=b.size-1) ∅
   have e:a.toList.drop i=[aL]:=by rw[eh Ju,NL (by simp;lia)];rfl
   rw[e]at hy;simp at hy;subst hy;have hl:=Js y bL (by rw[show a.size-1=i by lia];exact JN) JT
   obtain⟨j,hj,e⟩:=N6.mp hx;have Jf:b.toList[j]?=Z x:=by rw[<-e];exact y3 hj
   by_cases hjb:j=b.size-1
   ·subst hjb;rw[Jl]at Jf;cases Jf;exact hl
   ·have:=fI sb (show j<b.size-1 by simp at hj;lia) Jf Jl
    exact c.le_trans this hl
  try dsimp -zeta -zetaHave -zetaUnused only
  refine ae (λh=>?_) (λh=>?_)
  ·skip
   have h:1=b.size:=by simpa using h
   refine aa ?_;have r:=m1.fin (by simp;lia)
   exact q _ _ (by simpa only[L4,L8,Lv,bQ]using r.1) (by simpa only[L4,L8,Lv,bQ]using r.2) Same.refl
  ·skip
   refine ae (λh2=>?_) (λh2=>?_)
   ·skip
    have h2:0+1=a.size:=by simpa using h2
    refine aa ?_;have r:=m1.finA (IT · · 0 h2);exact q _ _ (by simpa only[L4,L8,Lv,bQ]using r.1) (by simpa only[L4,L8,Lv,bQ]using r.2) Same.refl
   ·skip
    have h:1≠b.size:=by simpa using h
    have h2:0+1≠a.size:=by simpa using h2
    refine D2 (Ow ?_)
    try dsimp -zeta -zetaHave -zetaUnused only
    refine D2 (aw (Q:=λr st'=>Same st st'/\∃res t,r=(Z res,t)/\Res lt a.toList b.toList res.toList)
     (LN (λi r st'=>Same st st'/\∃out ia ib mg,r=(Y,out,ia,ib,mg)/\ML lt a.toList b.toList out.toList ia ib/\ia+1<a.size/\ib<b.size/\i+1<=out.size) ?_ ?_ ⟨Same.refl,_,_,_,_,rfl,m1,∅,∅,by simp⟩) ?_)
    ·rintro i r IN _ hi ⟨sm,out,ia,ib,mg,rfl,m,JU,JV,hsz⟩
     try dsimp -zeta -zetaHave -zetaUnused only
     refine D2 (aw (Q:=λr st'=>st'=IN/\((∃B IE II ac bc,r=(Y,B,IE,II,ac,bc)/\ML lt a.toList b.toList B.toList IE II/\IE+1<a.size/\II<b.size/\i+2<=B.size)∨∃res t,r=(Z res,t)/\Res lt a.toList b.toList res.toList))
      (LN (λj r st'=>st'=IN/\∃B IE II ac bc,r=(Y,B,IE,II,ac,bc)/\ML lt a.toList b.toList B.toList IE II/\IE+1<a.size/\II<b.size/\i+1+j<=B.size) ?_ ?_ ⟨rfl,_,_,_,_,_,rfl,m,JU,JV,∅⟩) ?_)
     ·rintro j r Iu _ hj ⟨rfl,B,IE,II,ac,bc,rfl,m2,h1,h2,h3⟩
      try dsimp only
      obtain⟨y,hy,IO,IS⟩:=aH (a:=b) h2;obtain⟨x,hx,Jv,Jo⟩:=aH (a:=a) (i:=IE) ∅
      refine D2 (aI hy (D2 (aI hx (D2 (kb c (sm.kind.trans hk) (Je _ IS) (Jd _ Jo) ?_)))))
      try dsimp only
      refine ae (λhl=>?_) (λhl=>?_)
      ·skip
       refine D2 (aI hy ?_)
       try dsimp only
       have m3:=m2.pushB c Jv IO (c.asym _ _ hl);refine ae (λh=>?_) (λh=>?_)
       ·skip
        have h:II+1=b.size:=by simpa using h
        exact aa ⟨rfl,.inr ⟨_,_,rfl,by simpa only[L4,L8,Lv,bQ]using m3.fin (by simp;lia)⟩⟩
       ·skip
        have h:II+1≠b.size:=by simpa using h
        refine ae (λ_=>?_) (λ_=>?_)
        ·exact aa ⟨rfl,.inl ⟨_,_,_,_,_,rfl,by simpa only[L4,L8]using m3,h1,∅,by simp;lia⟩⟩
        ·exact aa ⟨rfl,_,_,_,_,_,rfl,by simpa only[L4,L8]using m3,h1,∅,by simp;lia⟩
      ·skip
       refine D2 (aI hx ?_)
       try dsimp only
       have m3:=m2.pushA c Jv IO (by simpa using hl)
       refine ae (λh=>?_) (λh=>?_)
       ·skip
        have h:IE+1+1=a.size:=by simpa using h
        exact aa ⟨rfl,.inr ⟨_,_,rfl,by simpa only[L4,L8,Lv,bQ]using m3.finA (IT · · _ h)⟩⟩
       ·skip
        have h:IE+1+1≠a.size:=by simpa using h
        refine ae (λ_=>?_) (λ_=>?_)
        ·exact aa ⟨rfl,.inl ⟨_,_,_,_,_,rfl,by simpa only[L4,L8]using m3,∅,h2,by simp;lia⟩⟩
        ·exact aa ⟨rfl,_,_,_,_,_,rfl,by simpa only[L4,L8]using m3,∅,h2,by simp;lia⟩
     ·rintro r Iu ⟨rfl,B,IE,II,ac,bc,rfl,m2,h1,h2,h3⟩;exact⟨rfl,.inl ⟨_,_,_,_,_,rfl,m2,h1,h2,∅⟩⟩
     ·rintro r Iu ⟨rfl,⟨B,IE,II,ac,bc,rfl,m2,h1,h2,h3⟩|⟨res,t,rfl,J⟩⟩
      ·dsimp -zeta -zetaHave -zetaUnused only;refine D2 (cC ?_);refine D2 (aw (Q:=fun r st'=>Same st st'/\((∃F Iw Ir IF ac bc,r=(Y,F,Iw,Ir,IF,ac,bc)/\ML lt a.toList b.toList F.toList Iw Ir/\Iw+1<a.size/\Ir<b.size/\i+2<=F.size)∨∃res t,r=(Z res,t)/\Res lt a.toList b.toList res.toList))
        (LN (λj r st'=>Same st st'/\∃F Iw Ir IF ac bc,r=(Y,F,Iw,Ir,IF,ac,bc)/\ML lt a.toList b.toList F.toList Iw Ir/\Iw+1<a.size/\Ir<b.size/\i+2<=F.size) ?_ ?_ ⟨sm,_,_,_,_,_,_,rfl,m2,h1,h2,h3⟩) ?_)
       ·rintro j r Iq _ hj ⟨IG,F,Iw,Ir,IF,Jw,Jx,rfl,m3,h1,h2,h5⟩;obtain⟨y,hy,IO,IS⟩:=aH (a:=b) h2;refine A4 λQQ hQ=>?_;have G:∀(st':LW) (res:Array KI) t,Same st st'->Res lt a.toList b.toList res.toList->QQ (.done (Z res,t)) st':=λst' res t hs hr=>hQ _ _ ⟨hs,.inr ⟨_,_,rfl,hr⟩⟩;have JW:∀(st':LW) (out:Array KI) ia ib mg ac bc,Same st st'->ML lt a.toList b.toList out.toList ia ib->ia+1<a.size->ib<b.size->i+2<=out.size->QQ (.done (Y,out,ia,ib,mg,ac,bc)) st'/\QQ (.yield (Y,out,ia,ib,mg,ac,bc)) st':=λst' out ia ib mg ac bc hs p1 p2 p3 p4=>⟨hQ _ _ ⟨hs,.inl ⟨_,_,_,_,_,_,rfl,p1,p2,p3,p4⟩⟩,hQ _ _ ⟨hs,_,_,_,_,_,_,rfl,p1,p2,p3,p4⟩⟩;clear hQ hj
        extract_lets -underBinder s0 vout s1 via s2 vib s3 vmg s4 vac vbc jp vmx
        have Jy:∀mg,wpS (La prog w) A E s (jp () mg) QQ Iq:=by
         intro mg;dsimp -zeta -zetaHave -zetaUnused only[jp,s0,vout,s1,via,s2,vib,s3,vmg,s4,vac,vbc];clear vmx jp vbc vac s4 vmg s3 vib s2 via s1 vout s0;refine D2 (Ng ?_);refine vO (P:=Same st) (IG.trans ⟨rfl,rfl,rfl,rfl⟩) λJg Ix=>?_;have Jz:=Ix.kind.trans hk;refine D2 (aI hy ?_);refine D2 (hg VP y a (a.toList.take Iw) (a.toList.drop Iw) [] _ _ _ _ _ Jz (Je _ IS) (by simp) (gk ∅) (by simp) (λx hx=>Jd x (Oe hx)) ∅ ((J4.mp m3.pa).2.1) λX F2 e hX hY=>?_)
         dsimp -zeta -zetaHave -zetaUnused only;have m4:=m3.galA c e IO λx hx=>A5 (hX x hx);have Iy:∀x4,a.toList[Iw+X.length]?=Z x4->lt x4 y=VP:=λx4 IU=>c.asym _ _ (vP (hY x4 (pW e IU)));have Jh:=pY e
         extract_lets -underBinder +onlyGivenNames vac IV
         clear_value vac
         have J1:∀(O:Array KI) (IP:Nat),ML lt a.toList b.toList O.toList IP Ir->(∀x4,a.toList[IP]?=Z x4->lt x4 y=VP)->IP+1<a.size->i+2<=O.size->wpS (La prog w) A E s (IV () O IP) QQ Jg:=by
          intro O IP JX IW Ku JA;dsimp -zeta -zetaHave -zetaUnused only[IV];clear IV Jh Iy m4 hX hY;obtain⟨x4,IU,IC,JB⟩:=aH (a:=a) (i:=IP) ∅
          refine D2 (aI hy ?_);have m5:=JX.pushB c IC IO (IW x4 IC);rw[<-L8]at m5;have ID:i+2<=(O.push y).size:=by rw[QC];lia
          try dsimp -zeta -zetaHave -zetaUnused only
          extract_lets -underBinder +onlyGivenNames vo5 vi5
          dsimp -zeta -zetaHave -zetaUnused only[vo5];clear vo5;have e5:vi5=Ir+1:=rfl
          clear_value vi5
          subst e5
          revert m5 ID
          generalize O.push y=out5;intro m5 ID;refine ae (λh=>?_) (λh=>?_)
          ·exact aa (G _ _ _ Ix (m5.finR (by have h:=O7 h;lia)))
          ·have h:Ir+1≠b.size:=by simpa using h
           refine D2 (aI IU ?_);refine D2 (hg N3 x4 b (b.toList.take (Ir+1)) (b.toList.drop (Ir+1)) [] _ _ _ _ _ Jz (Jd _ JB) (by simp) (gk ∅) (by simp) (λx hx=>Je x (Oe hx)) ∅ ((J4.mp m5.pb).2.1) λX2 Y2 e2 J8 J9=>?_)
           dsimp -zeta -zetaHave -zetaUnused only;have m6:=m5.galB c e2 IC λx hx=>c.asym _ _ (A6 (J8 x hx));have Iz:∀y6,b.toList[Ir+1+X2.length]?=Z y6->lt y6 x4=VP:=λy6 JC=>vQ (J9 y6 (pW e2 JC));have Ji:=pY e2
           extract_lets -underBinder +onlyGivenNames vbc IX
           clear_value vbc
           have J2:∀(Is:Array KI) (Jj:Nat),ML lt a.toList b.toList Is.toList IP Jj->(∀y6,b.toList[Jj]?=Z y6->lt y6 x4=VP)->Jj<b.size->i+2<=Is.size->wpS (La prog w) A E s (IX () Is Jj) QQ Jg:=by
            intro Is Jj JY IY JP Kc;dsimp -zeta -zetaHave -zetaUnused only[IX];clear IX Ji Iz m6 J8 J9 m5 ID JA h5 h1 h2 hsz JV JU h3;obtain⟨y6,JC,J3,Kd⟩:=aH (a:=b) (i:=Jj) JP;refine D2 (aI IU ?_);have m7:=JY.pushA c IC J3 (IY y6 J3);rw[<-L8]at m7;dsimp only;refine ae (λh=>?_) (λh=>?_)
            ·exact aa (G _ _ _ Ix (m7.finL (IT · · (IP+1) (O7 h))))
            ·have h:IP+1+1≠a.size:=by simpa using h
             have:=JW Jg (Is.push x4) (IP+1) Jj mg vac vbc Ix m7 ∅ JP (by rw[QC];lia)
             exact ae (λ_=>aa this.1) (λ_=>aa this.2)
           clear_value IX
           refine ae (λh0=>?_) (λh0=>?_)
           ·dsimp only;have m6:=m6.cut (a:=b) e2;refine ae (λh=>?_) (λh=>?_)
            ·exact aa (G _ _ _ Ix (m6.finR (by have h:=O7 h;lia)))
            ·have h:Ir+1+X2.length≠b.size:=by simpa using h
             exact J2 _ _ m6 Iz ∅ (by rw[OZ];lia)
           ·have IZ:X2=[]:=Lu.mp ∅
            subst IZ;exact J2 _ _ m5 Iz ∅ ID
         clear_value IV
         refine ae (λh0=>?_) (λh0=>?_)
         ·dsimp only;have m4:=m4.cut (a:=a) e;refine ae (λh=>?_) (λh=>?_)
          ·exact aa (G _ _ _ Ix (m4.finL (IT · · _ (O7 h))))
          ·have h:Iw+X.length+1≠a.size:=by simpa using h
           refine ae (λh=>?_) (λh9=>?_)
           ·exact aa (G _ _ _ Ix (m4.finS (by have h:=O7 h;lia)))
           ·have h9:Iw+X.length≠a.size:=by simpa using h9
            exact J1 _ _ m4 Iy ∅ (by rw[OZ];lia)
         ·have IZ:X=[]:=Lu.mp ∅
          subst IZ;exact J1 _ _ m3 Iy h1 h5
        clear_value jp
        exact ae (λ_=>Jy _) (λ_=>Jy _)
       ·rintro r Iq ⟨IG,F,Iw,Ir,IF,Jw,Jx,rfl,m3,h1,h2,h5⟩;exact⟨IG,.inl ⟨_,_,_,_,_,_,rfl,m3,h1,h2,h5⟩⟩
       ·rintro r Iq ⟨IG,⟨F,Iw,Ir,IF,Jw,Jx,rfl,m3,h1,h2,h5⟩|⟨res,t,rfl,J⟩⟩
        ·dsimp -zeta -zetaHave -zetaUnused only;refine D2 (Ng ?_);exact aa ⟨IG.trans ⟨rfl,rfl,rfl,rfl⟩,_,_,_,_,rfl,m3,h1,h2,∅⟩
        ·exact aa ⟨IG,_,_,rfl,J⟩
      ·exact aa ⟨sm,_,_,rfl,J⟩
    ·rintro r IN ⟨sm,out,ia,ib,mg,rfl,m,JU,JV,hsz⟩;have:=m.size (by simp;lia) (by simp;lia)
     simp at this;lia
    ·rintro r IN ⟨sm,res,t,rfl,J⟩;exact aa (q res IN J.1 J.2 sm)
 ·intro hg a b st Q hk Jd Je JK JL sa sb Jr Js q;refine D2 (cC ?_);obtain⟨bL,JT,Jl,Kv⟩:=aH (a:=b) (i:=b.size-1) ∅
  obtain⟨aL,JN,Ju,Kw⟩:=aH (a:=a) (i:=a.size-1) ∅
  refine D2 (aI JN ?_);have m0:MH lt a.toList b.toList [] a.size b.size:=⟨by rw[eU];simpa using sa,by rw[eU];simpa using sb,by rw[eU,eU];simp⟩
  have m1:MH lt a.toList b.toList [aL] (a.size-1) b.size:=m0.pushA c JK JL Ju Jl (Js aL bL JN JT);have IK:∀x∈b.toList.take 1,∀y∈a.toList,lt y x=VP:=by
   intro x hx y hy;obtain⟨b0,JM,Jt,_⟩:=aH JL;obtain⟨a0,Jp,Jk,_⟩:=aH JK;have ex:x=b0:=by
    rw[cX ∅ Jt]at hx
    simpa using hx
   subst ex;have h:=Jr a0 x Jp JM;obtain⟨j,hj,e⟩:=N6.mp hy;have Jf:a.toList[j]?=Z y:=by rw[<-e];exact y3 hj
   by_cases hj0:j=0
   ·subst hj0;rw[Jk]at Jf;cases Jf;exact h
   ·exact c.le_trans h (fI sa ∅ Jk Jf)
  try dsimp -zeta -zetaHave -zetaUnused only
  refine ae (λh=>?_) (λh=>?_)
  ·skip
   have h:a.size-1=0:=by simpa using h
   refine aa ?_;have r:=m1.fin (.inl h);exact q _ _ (by simpa only[L4,L8,LH,Lv,bn]using r.1) (by simpa only[L4,L8,LH,Lv,bn]using r.2) Same.refl
  ·skip
   refine ae (λh2=>?_) (λh2=>?_)
   ·skip
    have h2:b.size=1:=by simpa using h2
    refine aa ?_;have r:=m1.finB (by rw[h2];exact IK)
    exact q _ _ (by simpa only[L4,L8,LH,Lv,bn]using r.1) (by simpa only[L4,L8,LH,Lv,bn]using r.2) Same.refl
   ·skip
    have h:a.size-1≠0:=by simpa using h
    have h2:b.size≠1:=by simpa using h2
    refine D2 (Ow ?_)
    try dsimp -zeta -zetaHave -zetaUnused only
    refine D2 (aw (Q:=λr st'=>Same st st'/\∃res t,r=(Z res,t)/\Res lt a.toList b.toList res.toList)
     (LN (λi r st'=>Same st st'/\∃na nb out mg,r=(Y,na,nb,out,mg)/\MH lt a.toList b.toList out.toList na nb/\0<na/\1<nb/\na<a.size/\nb<=b.size/\i+1<=out.size) ?_ ?_ ⟨Same.refl,_,_,_,_,rfl,m1,∅,∅,∅,∅,by simp⟩) ?_)
    ·rintro i r IN _ hi ⟨sm,na,nb,out,mg,rfl,m,J7,Jm,JD,JE,hsz⟩
     try dsimp -zeta -zetaHave -zetaUnused only
     refine D2 (aw (Q:=λr st'=>st'=IN/\((∃IA IB B ac bc,r=(Y,IA,IB,B,ac,bc)/\MH lt a.toList b.toList B.toList IA IB/\0<IA/\1<IB/\IA<a.size/\IB<=b.size/\i+2<=B.size)∨∃res t,r=(Z res,t)/\Res lt a.toList b.toList res.toList))
      (LN (λj r st'=>st'=IN/\∃IA IB B ac bc,r=(Y,IA,IB,B,ac,bc)/\MH lt a.toList b.toList B.toList IA IB/\0<IA/\1<IB/\IA<a.size/\IB<=b.size/\i+1+j<=B.size) ?_ ?_ ⟨rfl,_,_,_,_,_,rfl,m,J7,Jm,JD,JE,∅⟩) ?_)
     ·rintro j r Iu _ hj ⟨rfl,IA,IB,B,ac,bc,rfl,m2,h1,h2,IH,IJ,h3⟩
      try dsimp only
      obtain⟨y,hy,IO,IS⟩:=aH (a:=b) (i:=IB-1) ∅
      obtain⟨x,hx,Jv,Jo⟩:=aH (a:=a) (i:=IA-1) ∅
      refine D2 (aI hy (D2 (aI hx (D2 (kb c (sm.kind.trans hk) (Je _ IS) (Jd _ Jo) ?_)))))
      try dsimp only
      refine ae (λhl=>?_) (λhl=>?_)
      ·skip
       refine D2 (aI hx ?_)
       try dsimp only
       have m3:=m2.pushA c h1 ∅ Jv IO (c.asym _ _ hl)
       refine ae (λh=>?_) (λh=>?_)
       ·skip
        have h:IA-1=0:=by simpa using h
        exact aa ⟨rfl,.inr ⟨_,_,rfl,by have r:=m3.fin (.inl h);simpa only[L4,L8,LH,Lv,bn]using r⟩⟩
       ·skip
        have h:IA-1≠0:=by simpa using h
        refine ae (λ_=>?_) (λ_=>?_)
        ·exact aa ⟨rfl,.inl ⟨_,_,_,_,_,rfl,by simpa only[L4,L8,LH,Lv,bn]using m3,∅,h2,∅,IJ,by simp;lia⟩⟩
        ·exact aa ⟨rfl,_,_,_,_,_,rfl,by simpa only[L4,L8,LH,Lv,bn]using m3,∅,h2,∅,IJ,by simp;lia⟩
      ·skip
       refine D2 (aI hy ?_)
       try dsimp only
       have m3:=m2.pushB c h1 ∅ Jv IO (by simpa using hl)
       refine ae (λh=>?_) (λh=>?_)
       ·skip
        have h:IB-1=1:=by simpa using h
        exact aa ⟨rfl,.inr ⟨_,_,rfl,by have r:=m3.finB (by rw[h];exact IK);simpa only[L4,L8,LH,Lv,bn]using r⟩⟩
       ·skip
        have h:IB-1≠1:=by simpa using h
        refine ae (λ_=>?_) (λ_=>?_)
        ·exact aa ⟨rfl,.inl ⟨_,_,_,_,_,rfl,by simpa only[L4,L8,LH,Lv,bn]using m3,h1,∅,IH,∅,by simp;lia⟩⟩
        ·exact aa ⟨rfl,_,_,_,_,_,rfl,by simpa only[L4,L8,LH,Lv,bn]using m3,h1,∅,IH,∅,by simp;lia⟩
     ·rintro r Iu ⟨rfl,IA,IB,B,ac,bc,rfl,m2,h1,h2,IH,IJ,h3⟩;exact⟨rfl,.inl ⟨_,_,_,_,_,rfl,m2,h1,h2,IH,IJ,∅⟩⟩
     ·rintro r Iu ⟨rfl,⟨IA,IB,B,ac,bc,rfl,m2,h1,h2,IH,IJ,h3⟩|⟨res,t,rfl,J⟩⟩
      ·try dsimp -zeta -zetaHave -zetaUnused only
       refine D2 (cC ?_);refine D2 (aw (Q:=λr st'=>Same st st'/\((∃Iv U F IF ac bc,r=(Y,Iv,U,F,IF,ac,bc)/\MH lt a.toList b.toList F.toList Iv U/\0<Iv/\1<U/\Iv<a.size/\U<=b.size/\i+2<=F.size)∨∃res t,r=(Z res,t)/\Res lt a.toList b.toList res.toList))
        (LN (λj r st'=>Same st st'/\∃Iv U F IF ac bc,r=(Y,Iv,U,F,IF,ac,bc)/\MH lt a.toList b.toList F.toList Iv U/\0<Iv/\1<U/\Iv<a.size/\U<=b.size/\i+2<=F.size) ?_ ?_ ⟨sm,_,_,_,_,_,_,rfl,m2,h1,h2,IH,IJ,h3⟩) ?_)
       ·rintro j r Iq _ hj ⟨IG,Iv,U,F,IF,Jw,Jx,rfl,m3,h1,h2,IH,IJ,h5⟩;obtain⟨y,hy,IO,IS⟩:=aH (a:=b) (i:=U-1) ∅
        refine A4 λQQ hQ=>?_;have G:∀(st':LW) (res:Array KI) t,Same st st'->Res lt a.toList b.toList res.toList->QQ (.done (Z res,t)) st':=λst' res t hs hr=>hQ _ _ ⟨hs,.inr ⟨_,_,rfl,hr⟩⟩;have JW:∀(st':LW) (out:Array KI) na nb mg ac bc,Same st st'->MH lt a.toList b.toList out.toList na nb->0<na->1<nb->na<a.size->nb<=b.size->i+2<=out.size->QQ (.done (Y,na,nb,out,mg,ac,bc)) st'/\QQ (.yield (Y,na,nb,out,mg,ac,bc)) st':=λst' out ia ib mg ac bc hs p1 p2 p3 p4 p5 p6=>⟨hQ _ _ ⟨hs,.inl ⟨_,_,_,_,_,_,rfl,p1,p2,p3,p4,p5,p6⟩⟩,hQ _ _ ⟨hs,_,_,_,_,_,_,rfl,p1,p2,p3,p4,p5,p6⟩⟩;clear hQ hj
        extract_lets -underBinder s0 vna s1 vnb s2 vout s3 vmg s4 vac vbc jp vmx
        have Jy:∀mg,wpS (La prog w) A E s (jp () mg) QQ Iq:=by
         intro mg;dsimp -zeta -zetaHave -zetaUnused only[jp,s0,vna,s1,vnb,s2,vout,s3,vmg,s4,vac,vbc];clear vmx jp vbc vac s4 vmg s3 vout s2 vnb s1 vna s0;refine D2 (Ng ?_);refine vO (P:=Same st) (IG.trans ⟨rfl,rfl,rfl,rfl⟩) λJg Ix=>?_;have Jz:=Ix.kind.trans hk;refine D2 (aI hy ?_);refine D2 (hg VP y a [] (a.toList.take Iv) (a.toList.drop Iv) _ _ _ _ _ Jz (Je _ IS) (by simp) rfl (gk ∅) (λx hx=>Jd x (Of hx)) ∅ ((J4.mp m3.pa).1) λX F2 e hX hY=>?_)
         dsimp -zeta -zetaHave -zetaUnused only;have m4:=m3.galA c e ∅ IO λx hx=>c.asym _ _ (vP (hY x hx))
         have Iy:0<X.length->∀x4,a.toList[X.length-1]?=Z x4->lt y x4=VP:=λh0 x4 IU=>A5 (hX x4 (pX e h0 IU));have Jh:=mX e ∅
         extract_lets -underBinder +onlyGivenNames vk vac IV
         clear_value vac
         have J1:∀(IQ:Nat) (O:Array KI),MH lt a.toList b.toList O.toList IQ U->(∀x4,a.toList[IQ-1]?=Z x4->lt y x4=VP)->0<IQ->IQ<a.size->i+2<=O.size->wpS (La prog w) A E s (IV () IQ O) QQ Jg:=by
          intro IQ O JX IW JF Kq JA;dsimp -zeta -zetaHave -zetaUnused only[IV];clear IV vk Jh Iy m4 hX hY;obtain⟨x4,IU,IC,JB⟩:=aH (a:=a) (i:=IQ-1) ∅
          refine D2 (aI hy ?_);have m5:=JX.pushB c JF ∅ IC IO (IW x4 IC)
          rw[<-L8]at m5;have ID:i+2<=(O.push y).size:=by rw[QC];lia
          try dsimp -zeta -zetaHave -zetaUnused only
          extract_lets -underBinder +onlyGivenNames vo5
          dsimp -zeta -zetaHave -zetaUnused only[vo5];clear vo5
          revert m5 ID
          generalize O.push y=out5;intro m5 ID;refine ae (λh=>?_) (λh=>?_)
          ·exact aa (G _ _ _ Ix (m5.finR (by rw[O7 h];exact IK)))
          ·have h:U-1≠1:=by simpa using h
           refine D2 (aI IU ?_);refine D2 (hg N3 x4 b [] (b.toList.take (U-1)) (b.toList.drop (U-1)) _ _ _ _ _ Jz (Jd _ JB) (by simp) rfl (gk ∅) (λx hx=>Je x (Of hx)) ∅ ((J4.mp m5.pb).1) λX2 Y2 e2 J8 J9=>?_)
           dsimp -zeta -zetaHave -zetaUnused only;have m6:=m5.galB c e2 JF IC λx hx=>vQ (J9 x hx);have Iz:0<X2.length->∀y6,b.toList[X2.length-1]?=Z y6->lt x4 y6=VP:=λh0 y6 JC=>c.asym _ _ (A6 (J8 y6 (pX e2 h0 JC)));have Ji:=mX e2 ∅
           extract_lets -underBinder +onlyGivenNames vk vbc IX
           clear_value vbc
           have J2:∀(J6:Nat) (Is:Array KI),MH lt a.toList b.toList Is.toList IQ J6->(∀y6,b.toList[J6-1]?=Z y6->lt x4 y6=VP)->1<J6->J6<=b.size->i+2<=Is.size->wpS (La prog w) A E s (IX () J6 Is) QQ Jg:=by
            intro J6 Is JY IY Ke JZ Kc;dsimp -zeta -zetaHave -zetaUnused only[IX];clear IX vk Ji Iz m6 J8 J9 m5 ID JA h5 h1 h2 IH IJ hsz J7 Jm JD JE h3;obtain⟨y6,JC,J3,Kd⟩:=aH (a:=b) (i:=J6-1) ∅
            refine D2 (aI IU ?_);have m7:=JY.pushA c JF ∅ IC J3 (IY y6 J3)
            rw[<-L8]at m7;dsimp only;refine ae (λh=>?_) (λh=>?_)
            ·exact aa (G _ _ _ Ix (m7.finL (.inl (O7 h))))
            ·have h:IQ-1≠0:=by simpa using h
             have:=λmg ac bc=>JW Jg (Is.push x4) (IQ-1) J6 mg ac bc Ix m7 ∅ Ke ∅ JZ (by rw[QC];lia)
             exact ae (λ_=>aa (this _ _ _).1) (λ_=>aa (this _ _ _).2)
           clear_value IX
           refine ae (λh0=>?_) (λh0=>?_)
           ·dsimp only;have m6:=m6.cut (a:=b) e2;refine ae (λh=>?_) (λh=>?_)
            ·exact aa (G _ _ _ Ix (m6.finR (by rw[O7 h];exact IK)))
            ·have h:X2.length≠1:=by simpa using h
             refine ae (λh9=>?_) (λh9=>?_)
             ·exact aa (G _ _ _ Ix (m6.finL (.inr (O7 h9))))
             ·have h9:X2.length≠0:=by simpa using h9
              exact J2 _ _ m6 (Iz ∅) ∅ ∅ (by rw[OZ];lia)
           ·have h0:¬(U-1-X2.length > 0):=h0;have hl:X2.length=U-1:=by lia
            have Jq:0<X2.length:=∅
            have hr:=Iz Jq;rw[hl]at hr;exact J2 _ _ m5 hr ∅ ∅ ID
         clear_value IV
         refine ae (λh0=>?_) (λh0=>?_)
         ·dsimp only;have m4:=m4.cut (a:=a) e;refine ae (λh=>?_) (λh=>?_)
          ·exact aa (G _ _ _ Ix (m4.finL (.inl (O7 h))))
          ·have h:X.length≠0:=by simpa using h
           exact J1 _ _ m4 (Iy ∅) ∅ ∅ (by rw[OZ];lia)
         ·have h0:¬(Iv-X.length > 0):=h0;have hl:X.length=Iv:=by lia
          have hr:=Iy ∅
          rw[hl]at hr;exact J1 _ _ m3 hr h1 IH h5
        clear_value jp
        exact ae (λ_=>Jy _) (λ_=>Jy _)
       ·rintro r Iq ⟨IG,Iv,U,F,IF,Jw,Jx,rfl,m3,h1,h2,IH,IJ,h5⟩;exact⟨IG,.inl ⟨_,_,_,_,_,_,rfl,m3,h1,h2,IH,IJ,h5⟩⟩
       ·rintro r Iq ⟨IG,⟨Iv,U,F,IF,Jw,Jx,rfl,m3,h1,h2,IH,IJ,h5⟩|⟨res,t,rfl,J⟩⟩
        ·try dsimp -zeta -zetaHave -zetaUnused only
         refine D2 (Ng ?_);exact aa ⟨IG.trans ⟨rfl,rfl,rfl,rfl⟩,_,_,_,_,rfl,m3,h1,h2,IH,IJ,∅⟩
        ·exact aa ⟨IG,_,_,rfl,J⟩
      ·exact aa ⟨sm,_,_,rfl,J⟩
    ·rintro r IN ⟨sm,na,nb,out,mg,rfl,m,J7,Jm,JD,JE,hsz⟩;have:=m.size (by simp;lia) (by simp;lia)
     simp at this;lia
    ·rintro r IN ⟨sm,res,t,rfl,J⟩;exact aa (q res IN J.1 J.2 sm)
end
end Srt
namespace Srt
variable{st:LW}{L R xs:List KI}{i j n:Nat}{x:KI}
section
variable{prog:Lb}{w:Ly}{A:LD}{E:i3->r0->Prop}{s:r0}{kd:Pt}{P:KI->Prop}{lt:KI->KI->Bool}
structure Kp(st st':LW):Prop where
 kind:MQ st'=MQ st
 pend:KZ st'=KZ st
 fail:Nc st'=Nc st
theorem Kp.refl:Kp st st:=⟨rfl,rfl,rfl⟩
theorem Kp.trans{a b c:LW}(h:Kp a b)(g:Kp b c):Kp a c:=⟨g.kind.trans h.kind,g.pend.trans h.pend,g.fail.trans h.fail⟩
theorem rh{a:Array KI}{B:List KI}(e:a.toList=L++(B++R))(hi:i=L.length)(z:j=L.length+B.length):(mirror a i j ((j-i) / 2)).toList=L++(B.reverse++R):=by
 have hs:a.size=L.length+(B.length+R.length):=by rw[<-Lm,e];simp
 apply MA;intro k;rw[Le,getElem?_mirror_all ∅]
 have g:∀n:Nat,a[n]?=(L++(B++R))[n]?:=λn=>by rw[<-Le,e]
 rw[g,g]
 by_cases h1:k<L.length
 ·rw[if_neg ∅,KS h1,KS h1]
 ·by_cases h2:k<j
  ·rw[if_pos ∅,z0 ∅,KS ∅,z0 ∅,KS (by simp;lia),List.getElem?_reverse ∅]
   congr 1;lia
  ·rw[if_neg ∅,z0 ∅,z0 ∅,z0 ∅,z0 (by simp;lia)]
   simp
theorem rj{a:Array KI}{j z:List KI}(e:a.toList=L++((j++z)++x::R)){src d:Nat}(hi:src=L.length+(j.length+z.length))(hd:d=z.length):(bubble a src d).toList=L++((j++x::z)++R):=by
 have hs:a.size=L.length+(j.length+z.length+(R.length+1)):=by rw[<-Lm,e];simp;lia
 apply MA;intro k;rw[Le,getElem?_bubble ∅ d ∅]
 have g:∀n:Nat,a[n]?=(L++((j++z)++x::R))[n]?:=λn=>by rw[<-Le,e]
 rw[g,g,g]
 by_cases h1:k<L.length
 ·rw[if_neg ∅,if_neg ∅,KS h1,KS h1]
 ·by_cases h2:k<L.length+j.length
  ·rw[if_neg ∅,if_neg ∅,z0 ∅,KS (by simp;lia),KS ∅,z0 ∅,KS (by simp;lia),KS ∅]
  ·by_cases h3:k=L.length+j.length
   ·rw[if_pos ∅,z0 ∅,z0 (by simp;lia),z0 ∅,KS (by simp;lia),z0 ∅]
    have F:src-L.length-(j++z).length=0:=by simp;lia
    have B:k-L.length-j.length=0:=∅
    rw[F,B];rfl
   ·by_cases h4:k<=src
    ·rw[if_neg ∅,if_pos ∅,z0 ∅,KS (by simp;lia),z0 ∅,z0 ∅,KS (by simp;lia),z0 ∅]
     have B:k-L.length-j.length=(k-1-L.length-j.length)+1:=∅
     rw[B,OA]
    ·rw[if_neg ∅,if_neg ∅,z0 ∅,z0 (by simp;lia),z0 ∅,z0 (by simp;lia)]
     have B:k-L.length-(j++z).length=(k-L.length-(j++x::z).length)+1:=by simp;lia
     rw[B,OA]
theorem dP(c:Cm prog w A s kd P lt){y:KI}{Q:Option Bool->LW->Prop}(z:MQ st=kd)(hx:(Lq st)[i]?=Z x)(B:(Lq st)[j]?=Z y)(px:P x)(py:P y)(q:Q (Z (lt x y)) st):wpS (La prog w) A E s (ltAt' i j) Q st:=by rw[ltAt'_eq];exact D2 (Ow (D2 (aI hx (D2 (aI B (kb c z px py q))))))
theorem kc{Q:Unit->LW->Prop}{B:List KI}(e:(Lq st).toList=L++(B++R))(hi:i=L.length)(z:j=L.length+B.length)(q:∀st',(Lq st').toList=L++(B.reverse++R)->Kp st st'->Q () st'):wpS (La prog w) A E s (reverseSlice' i j) Q st:=by rw[reverseSlice'_eq];exact Ng (q _ (rh e hi z) ⟨rfl,rfl,rfl⟩)
theorem cr(e:(Lq st).toList=L++xs)(hi:i=L.length+n):(Lq st)[i]?=xs[n]?:=by
 rw[<-Le,e,hi,z0 ∅]
 congr 1;lia
theorem pZ(c:Cm prog w A s kd P lt){y:KI}(h:Ord lt (xs.take n))(B:0<n)(hx:xs[n]?=Z x)(F:xs[n-1]?=Z y)(G:lt x y=VP):Ord lt (xs.take (n+1)):=by
 rw[Ua,hx];refine J4.mpr ⟨h,by simp,λz J u j=>?_⟩
 simp at j;subst j;exact iE c h B F G z J
noncomputable abbrev dm(lt:KI->KI->Bool)(l:List KI):Prop:=l.Pairwise λx y=>lt x y=VP
theorem je(c:Cm prog w A s kd P lt){D:List KI}{e:KI}(h:dm lt (D++[e]))(hx:lt e x=VP):dm lt (D++[e]++[x]):=by
 refine J4.mpr ⟨h,by simp,λz B u j=>?_⟩
 simp at j;subst j;obtain⟨_,_,F⟩:=J4.mp h
 rcases KQ.mp B with g|g
 ·cases q:lt z u with
  |false=>rfl
  | true=>rcases c.neg z e u q with r|r
          ·rw[F z g e (by simp)]at r;cases r
          ·rw[hx]at r;cases r
 ·simp at g;subst g;exact hx
theorem rY{z F:List KI}(h:dm lt (z++F))(he:∀x∈F,∀y∈F,lt x y=VP):dm lt (z++F.reverse):=by obtain⟨h1,h2,B⟩:=J4.mp h;refine J4.mpr ⟨h1,?_,λx hx y j=>B x hx y (Pf.mp j)⟩;rw[SE];exact h2.imp_of_mem λhx j _=>he _ j _ hx
theorem perm_take:(xs.take n++xs.drop n).Perm xs:=by rw[Mx]
theorem j4(c:Cm prog w A s kd P lt){Q:Option Nat->LW->Prop}(hk:MQ st=kd)(O:(Lq st).toList=L++xs)(h0:xs≠[])(hP:∀x∈xs,P x)(q:∀r R st',(Lq st').toList=L++(r++R)->(r++R).Perm xs->r≠[]->Ord lt r->Kp st st'->Q (Z r.length) st'):wpS (La prog w) A E s (countRun' L.length xs.length) Q st:=by
 have IP:0<xs.length:=LQ.mpr h0;rw[countRun'_eq]
 try dsimp -zeta -zetaHave -zetaUnused only
 refine D2 (aw (Q:=λr st'=>st'=st/\∃n,r=(Y,n)/\1<=n/\n<=xs.length/\Ord lt (xs.take n)/\(n=xs.length∨∃x y,xs[n]?=Z x/\xs[n-1]?=Z y/\lt x y=N3))
  (LN (fun i r st'=>st'=st/\r=(Y,i)/\Ord lt (xs.take i)) ?_ ?_ ⟨rfl,rfl,by
   cases xs with
   |nil=>exact absurd rfl h0
   |cons x t=>simp⟩) ?_)
 ·rintro i r st' h1 hi ⟨rfl,rfl,ho⟩;dsimp only;obtain⟨x,hx⟩:∃x,xs[i]?=Z x:=⟨_,y3 hi⟩;obtain⟨y,hy⟩:∃y,xs[i-1]?=Z y:=⟨_,y3 ∅⟩
  refine D2 (dP c hk ((cr O rfl).trans hx) ((cr O ∅).trans hy) (hP _ (L5 hx)) (hP _ (L5 hy)) ?_)
  dsimp only;refine ae (λh=>?_) (λh=>?_)
  ·exact aa ⟨rfl,i,rfl,h1,∅,ho,.inr ⟨x,y,hx,hy,h⟩⟩
  ·exact aa ⟨rfl,rfl,pZ c ho ∅ hx hy (by simpa using h)⟩
 ·rintro r st' ⟨rfl,rfl,ho⟩;exact⟨rfl,_,rfl,∅,∅,ho,.inl ∅⟩
 ·rintro r st' ⟨rfl,n,rfl,Je,IQ,ho,hc⟩;dsimp -zeta -zetaHave -zetaUnused only;have IC:Q (Z n) st':=by
   have:=q (xs.take n) (xs.drop n) st' (by rw[O,Mx]) perm_take (λz=>by have h3:=congrArg LP z;rw[Lk,Nj]at h3;lia) ho Kp.refl
   rw[Lk,MW IQ]at this;exact this
  extract_lets -underBinder +onlyGivenNames vr vn
  dsimp -zeta -zetaHave -zetaUnused only[vr];clear vr;have en:n=vn:=rfl
  clear_value vn
  subst en;refine ae (λh=>aa IC) (λh=>?_);have J1:n≠xs.length:=by simpa using h
  obtain⟨x,y,hx,hy,J2⟩:=hc.resolve_left J1;have Jf:n<xs.length:=∅
  have exs:xs=xs.take n++x::xs.drop (n+1):=by have h1:=(Mx n xs).symm;rw[eh hx]at h1;exact h1
  have IR:y∈xs.take n:=by rw[cX ∅ hy];simp
  extract_lets -underBinder +onlyGivenNames jp
  have IS:∀(B:List KI) (Ir:LW),(Lq Ir).toList=L++(B++x::xs.drop (n+1))->B.Perm (xs.take n)->B.length=n->(∀u∈B,∀v∈B,lt u v=VP)->y∈B->Kp st' Ir->wpS (La prog w) A E s (jp ()) Q Ir:=by
   intro B Ir e1 hB Is Iu Iv Iw;dsimp -zeta -zetaHave -zetaUnused only[jp];clear jp;refine D2 (cC ?_)
   try dsimp -zeta -zetaHave -zetaUnused only
   extract_lets -underBinder +onlyGivenNames vn1 vq1
   have J3:vn1=n+1:=rfl;have eq1:vq1=0:=rfl
   clear_value vn1 vq1
   subst J3 eq1;refine D2 (aw (Q:=λr U=>∃G F R neq,Kp st' U/\(Lq U).toList=L++((G++F)++R)/\((G++F)++R).Perm xs/\r=(Y,(G++F).length,neq)/\F.length=neq+1/\dm lt (G++F)/\(∀u∈F,∀v∈F,lt u v=VP))
    (LN (λi r U=>∃G F R neq,Kp st' U/\(Lq U).toList=L++((G++F)++R)/\((G++F)++R).Perm xs/\r=(Y,(G++F).length,neq)/\F.length=neq+1/\dm lt (G++F)/\(∀u∈F,∀v∈F,lt u v=VP)/\(G++F).length=i) ?_ ?_ ?_) ?_)
   ·rintro i r U Jg hi ⟨G,F,R,neq,kp,ea,hp,rfl,hF,hN,hE,IT⟩;subst IT;have hlen:=hp.length_eq;rw[D1]at hlen;obtain⟨z,R',rfl⟩:∃z R',R=z::R':=by
     cases R with
     |nil=>simp at hlen;simp at hi;lia
     |cons z R'=>exact⟨z,R',rfl⟩
    have J6:F≠[]:=λz=>by rw[z]at hF;simp at hF
    obtain⟨F0,e,rfl⟩:∃F0 e,F=F0++[e]:=⟨F.dropLast,F.getLast J6,(MX _).symm⟩;have hz:(Lq U)[L.length+(G++(F0++[e])).length]?=Z z:=by rw[cr ea rfl,z0 ∅,QM];rfl
    have he:(Lq U)[L.length+(G++(F0++[e])).length-1]?=Z e:=by rw[cr ea (n:=(G++F0).length) (by simp<;>lia),KS (by simp<;>lia),<-L7,z0 ∅,QM];rfl
    have IU:P z:=hP z (hp.mem_iff.mp (by simp))
    have IV:P e:=hP e (hp.mem_iff.mp (by simp))
    dsimp only;refine D2 (dP c (kp.kind.trans hk) hz he IU IV ?_);dsimp only;have IG:dm lt (G++F0++[e]):=by rw[L7];exact hN
    refine ae (λIH=>?_) (λIH=>?_)
    ·have Ix:lt e z=VP:=c.asym _ _ IH;refine ae (λIy=>?_) (λIy=>?_)
     ·refine D2 (kc (L:=L++G) (B:=F0++[e]) (R:=z::R') (by rw[ea];simp) (by simp only[D1]at hF⊢;simp only[MU]at hF⊢;lia) (by simp<;>lia) λfv e3 F2=>?_)
      refine aa ⟨G++(F0++[e]).reverse,[z],R',0,kp.trans F2,by rw[e3];simp,?_,by simp<;>lia,rfl,?_,?_,by simp<;>lia⟩
      ·refine NQ.trans ?_ hp;rw[L7,L7,L7];exact LX _ (Mf _ (Q0 _))
      ·have h1:=rY hN hE;refine J4.mpr ⟨h1,by simp,λu j v J=>?_⟩
       simp at J;subst J;have hm:=je c IG Ix;refine(J4.mp hm).2.2 u ?_ v (by simp)
       rw[L7]
       rcases KQ.mp j with g|g
       ·exact Lp _ g
       ·exact Ld _ (Pf.mp g)
      ·intro u j v J;simp at j J;subst j J;exact c.irr
     ·refine aa ⟨G++(F0++[e]),[z],R',0,kp,by rw[ea];simp,by simpa using hp,by simp<;>lia,rfl,?_,?_,by simp<;>lia⟩
      ·have hm:=je c IG Ix;simpa using hm
      ·intro u j v J;simp at j J;subst j J;exact c.irr
    ·have J7:lt z e=VP:=by simpa using IH
     refine D2 (dP c (kp.kind.trans hk) he hz IV IU ?_);dsimp only;refine ae (λIW=>?_) (λIW=>?_)
     ·exact aa ⟨G,F0++[e],z::R',neq,kp,ea,hp,rfl,hF,hN,hE⟩
     ·have Ix:lt e z=VP:=by simpa using IW
      refine aa ⟨G,(F0++[e])++[z],R',neq+1,kp,by rw[ea];simp,by simpa using hp,by simp<;>lia,by simp at hF⊢;lia,?_,?_,by simp<;>lia⟩
      ·have hm:=je c IG Ix;simpa using hm
      ·have J8:∀u∈F0++[e],lt u z=VP:=fun u j=>by
        cases q1:lt u z with
        |false=>rfl
        | true=>rcases c.neg u e z q1 with r|r
                ·rw[hE u j e (by simp)]at r;cases r
                ·rw[Ix]at r;cases r
       have J9:∀u∈F0++[e],lt z u=VP:=λu j=>by
        cases q1:lt z u with
        |false=>rfl
        | true=>rcases c.neg z e u q1 with r|r
                ·rw[J7]at r;cases r
                ·rw[hE e (by simp) u j]at r;cases r
       intro u j v J
       rcases KQ.mp j with g|g<;>rcases KQ.mp J with g2|g2
       ·exact hE u g v g2
       ·simp at g2;subst g2;exact J8 u g
       ·simp at g;subst g;exact J9 v g2
       ·simp at g g2;subst g g2;exact c.irr
   ·rintro r U ⟨G,F,R,neq,kp,ea,hp,hr,hF,hN,hE,IT⟩;exact⟨G,F,R,neq,kp,ea,hp,hr,hF,hN,hE⟩
   ·refine⟨B,[x],xs.drop (n+1),0,Iw,by rw[e1];simp,?_,by simp[Is],rfl,?_,?_,by simp[Is]⟩
    ·have h9:(B++x::xs.drop (n+1)).Perm xs:=by
      have h9:=Mf (x::xs.drop (n+1)) hB;rw[<-exs]at h9;exact h9
     simpa using h9
    ·refine J4.mpr ⟨List.Pairwise.imp_of_mem (λj J _=>Iu _ j _ J) (List.pairwise_of_forall_mem_list (r:=λ_ _=>True) λ_ _ _ _=>trivial),by simp,λu j v J=>?_⟩
     simp at J;subst J
     cases q1:lt u v with
     |false=>rfl
     | true=>rcases c.neg u y v q1 with r|r
             ·rw[Iu u j y Iv]at r;cases r
             ·rw[c.asym _ _ J2]at r;cases r
    ·intro u j v J;simp at j J;subst j J;exact c.irr
   ·rintro r U ⟨G,F,R,neq,kp,ea,hp,rfl,hF,hN,hE⟩;dsimp -zeta -zetaHave -zetaUnused only
    extract_lets -underBinder +onlyGivenNames vr vs vn2 vq2
    dsimp -zeta -zetaHave -zetaUnused only[vr];have Ja:vn2=(G++F).length:=rfl;have eq2:neq=vq2:=rfl
    clear_value vn2 vq2
    clear vs vr;subst Ja eq2
    extract_lets -underBinder +onlyGivenNames Iz
    have ID:∀(D:List KI) (fv:LW),(Lq fv).toList=L++(D++R)->dm lt D->(D++R).Perm xs->D.length=(G++F).length->0<D.length->Kp st' fv->wpS (La prog w) A E s (Iz ()) Q fv:=by
     intro D fv e3 II IJ IA IE F2;dsimp -zeta -zetaHave -zetaUnused only[Iz];clear Iz;have Jb:0<D.length:=∅
     refine D2 (kc (L:=L) (B:=D) (R:=R) e3 rfl (by rw[IA]) λIX e4 IY=>?_)
     have o4:Ord lt D.reverse:=SE.mpr II;have IB:(D.reverse++R).Perm xs:=(Mf _ (Q0 D)).trans IJ;have IZ:(D.reverse++R).length=xs.length:=IB.length_eq;have IK:Ord lt ((D.reverse++R).take D.length):=by rw[List.take_append_of_le_length (by simp),Nf (by simp)];exact o4
     have IM:∀u∈D.reverse++R,P u:=λu j=>hP u (IB.mem_iff.mp j);have Jc:D.length<=xs.length:=by rw[<-IZ];simp
     rw[<-IA];generalize D.length=N0 at IK Jb Jc;generalize D.reverse++R=ys at e4 IB IZ IK IM;refine D2 (aw (Q:=λr Iq=>Iq=IX/\∃n,r=(Y,n)/\1<=n/\n<=xs.length/\Ord lt (ys.take n))
      (LN (λi r Iq=>Iq=IX/\r=(Y,i)/\Ord lt (ys.take i)) ?_ ?_ ⟨rfl,rfl,IK⟩) ?_)
     ·rintro i r Iq h1 hi ⟨rfl,rfl,ho⟩;dsimp only;obtain⟨u,j⟩:∃u,ys[i]?=Z u:=⟨_,y3 ∅⟩
      obtain⟨v,J⟩:∃v,ys[i-1]?=Z v:=⟨_,y3 ∅⟩
      refine D2 (dP c ((F2.trans IY).kind.trans hk) ((cr e4 rfl).trans j) ((cr e4 ∅).trans J) (IM _ (L5 j)) (IM _ (L5 J)) ?_)
      dsimp only;refine ae (λh=>?_) (λh=>?_)
      ·exact aa ⟨rfl,i,rfl,∅,∅,ho⟩
      ·exact aa ⟨rfl,rfl,pZ c ho ∅ j J (by simpa using h)⟩
     ·rintro r Iq ⟨rfl,rfl,ho⟩;exact⟨rfl,_,rfl,∅,∅,ho⟩
     ·rintro r Iq ⟨rfl,m,rfl,Jh,Ji,ho⟩;refine aa ?_;have:=q (ys.take m) (ys.drop m) Iq (by rw[e4,Mx]) (perm_take.trans IB) (fun z=>by
       have h3:=congrArg LP z;rw[Lk,Nj]at h3;lia) ho (F2.trans IY)
      rw[Lk,MW ∅]at this
      exact this
    clear_value Iz
    refine ae (λIy=>?_) (λIy=>?_)
    ·refine D2 (kc (L:=L++G) (B:=F) (R:=R) (by rw[ea];simp) (by simp<;>lia) (by simp<;>lia) λfv e3 F2=>?_)
     have F2:=kp.trans F2;have e3:(Lq fv).toList=L++((G++F.reverse)++R):=by rw[e3];simp
     have II:=rY hN hE;have IJ:((G++F.reverse)++R).Perm xs:=(Mf _ (LX _ (Q0 _))).trans hp;have IA:(G++F.reverse).length=(G++F).length:=by simp
     have IE:0<(G++F.reverse).length:=by simp<;>lia
     exact ID _ _ e3 II IJ IA IE F2
    ·exact ID _ _ ea hN hp rfl (by simp<;>lia) kp
  clear_value jp
  refine ae (λh1=>?_) (λh1=>?_)
  ·obtain⟨x0,IN⟩:∃x0,xs[0]?=Z x0:=⟨_,y3 IP⟩;refine D2 (dP c hk ((cr O (n:=0) ∅).trans IN) ((cr O ∅).trans hy) (hP _ (L5 IN)) (hP _ (L5 hy)) ?_)
   dsimp only;refine ae (λhr=>aa IC) (λhr=>?_);have hr:lt x0 y=VP:=by simpa using hr
   have J0:∀u∈xs.take n,lt u x0=VP:=λu j=>by
    obtain⟨i,hi,eu⟩:=N6.mp j;have IO:(xs.take n)[i]?=Z u:=by rw[<-eu];exact y3 hi
    have IF:(xs.take n)[0]?=Z x0:=by rw[Ol ∅];exact IN
    by_cases hi0:i=0
    ·subst hi0;rw[IF]at IO;cases IO;exact c.irr
    ·exact fI ho ∅ IF IO
   have Jd:∀u∈xs.take n,lt y u=VP:=iE c ho ∅ hy c.irr
   have heq:∀u∈xs.take n,∀v∈xs.take n,lt u v=VP:=λu j v J=>by exact c.le_trans (c.le_trans (Jd v J) hr) (J0 u j)
   refine D2 (kc (L:=L) (B:=xs.take n) (R:=x::xs.drop (n+1)) (by rw[O];exact congrArg (L ++ ·) exs) rfl (by rw[Lk,MW IQ]) λIr e1 Iw=>?_)
   have hB:(xs.take n).reverse.Perm (xs.take n):=Q0 _;have Is:(xs.take n).reverse.length=n:=by rw[Te,Lk];lia
   have Iu:∀u∈(xs.take n).reverse,∀v∈(xs.take n).reverse,lt u v=VP:=λu j v J=>heq u (Pf.mp j) v (Pf.mp J);have Iv:y∈(xs.take n).reverse:=Pf.mpr IR;exact IS _ _ e1 hB Is Iu Iv Iw
  ·have Ir:=st';have hn:n=1:=by lia
   have Iw:Kp st' st':=Kp.refl;have e1:(Lq st').toList=L++(xs.take n++x::xs.drop (n+1)):=by rw[O];exact congrArg (L ++ ·) exs
   have hB:(xs.take n).Perm (xs.take n):=SX _;have Is:(xs.take n).length=n:=by rw[Lk];lia
   have Iv:=IR;have Iu:∀u∈xs.take n,∀v∈xs.take n,lt u v=VP:=λu j v J=>by
    have e0:xs.take n=[y]:=by subst hn;rw[cX ∅ hy];rfl
    rw[e0]at j J;simp at j J;subst j J;exact c.irr
   exact IS _ _ e1 hB Is Iu Iv Iw
end
end Srt
namespace Srt
variable{R:List KI}{st:LW}
section
variable{prog:Lb}{w:Ly}{A:LD}{E:i3->r0->Prop}{s:r0}{kd:Pt}{P:KI->Prop}{lt:KI->KI->Bool}
theorem mY(c:Cm prog w A s kd P lt){L r:List KI}{n:Nat}{Q:Bool->LW->Prop}(hk:MQ st=kd)(fv:(Lq st).toList=L++(r++R))(h0:r≠[])(ho:Ord lt r)(hn:r.length<=n)(Iq:n<=(r++R).length)(hP:∀x∈r++R,P x)(q:∀r' R' st',(Lq st').toList=L++(r'++R')->(r'++R').Perm (r++R)->r'.length=n->Ord lt r'->Kp st st'->Q N3 st'):wpS (La prog w) A E s (binarySort' L.length n r.length) Q st:=by
 have Ix:0<r.length:=LQ.mpr h0;rw[binarySort'_eq];refine D2 (aw (Q:=λx st'=>x=(Y,())/\∃D T,Kp st st'/\(Lq st').toList=L++(D++T)/\(D++T).Perm (r++R)/\D.length=n/\Ord lt D)
  (LN (λi x st'=>x=(Y,())/\∃D T,Kp st st'/\(Lq st').toList=L++(D++T)/\(D++T).Perm (r++R)/\D.length=i/\Ord lt D) ?_ ?_ ⟨rfl,r,R,Kp.refl,fv,SX _,∅,ho⟩) ?_)
 ·rintro k x B Iy Iz ⟨rfl,D,T,kp,ea,J,hD,O⟩;dsimp only;subst hD;have hlen:=J.length_eq;rw[D1]at hlen;obtain⟨z,T',rfl⟩:∃z T',T=z::T':=by
   cases T with
   |nil=>simp at hlen Iq;lia
   |cons z T'=>exact⟨z,T',rfl⟩
  have Ir:∀u∈D,P u:=λu G=>hP u (J.mem_iff.mp (Lp _ G));have Is:P z:=hP z (J.mem_iff.mp (by simp))
  have hz:(Lq B)[L.length+D.length]?=Z z:=by rw[cr ea rfl,z0 ∅,QM];rfl
  refine D2 (aw (Q:=λx st'=>st'=B/\∃k,x=(Y,k,k)/\Gal lt VP z D k k)
   (LN (fun i x st'=>st'=B/\∃lo hi,x=(Y,lo,hi)/\Gal lt VP z D lo hi/\hi-lo+i<=D.length) ?_ ?_ ⟨rfl,0,D.length,rfl,⟨∅,∅,fun _ _ h=>∅,fun i x hi hx=>by have:=(KN.mp hx).1;lia⟩,∅⟩) ?_)
  ·rintro i x U _ hi ⟨rfl,lo,j,rfl,F,hm⟩;dsimp only;have hl:=F.le;have Iu:=F.len;refine ae (λIv=>?_) (λIv=>?_)
   ·exact aa ⟨rfl,j,by rw[show lo=j by lia],by rw[show lo=j by lia]at F;exact F⟩
   ·obtain⟨u,G⟩:∃u,D[(lo+j) / 2]?=Z u:=⟨_,y3 ∅⟩
    have Iw:(Lq U)[L.length+(lo+j) / 2]?=Z u:=by rw[cr ea rfl,KS ∅];exact G
    refine D2 (dP c (kp.kind.trans hk) hz Iw Is (Ir _ (L5 G)) ?_);dsimp only;refine ae (λhf=>?_) (λhf=>?_)
    ·exact aa ⟨rfl,_,_,rfl,⟨∅,∅,F.up,iD c O G (by simp[bey,hf])⟩,∅⟩
    ·exact aa ⟨rfl,_,_,rfl,⟨∅,Iu,iC c O G (by simpa[bey]using hf),F.dn⟩,∅⟩
  ·rintro x U ⟨rfl,lo,j,rfl,F,hm⟩;have hl:=F.le;exact⟨rfl,j,by rw[show lo=j by lia],by rw[show lo=j by lia]at F;exact F⟩
  ·rintro x U ⟨rfl,l,rfl,F⟩;dsimp only;obtain⟨X,F2,e,hl,hX,hY⟩:=F.out;subst hl e;rw[moveDown'_eq];refine D2 (Ng ?_);refine aa ⟨rfl,X++z::F2,T',kp.trans ⟨rfl,rfl,rfl⟩,rj ea (by simp) (by simp;lia),?_,by simp;lia,?_⟩
   ·refine NQ.trans ?_ J;rw[L7,L7];refine LX _ ?_;rw[RQ];exact List.perm_middle.symm
   ·obtain⟨o1,o2,o3⟩:=J4.mp O;refine J4.mpr ⟨o1,PH.mpr ⟨λu G=>c.asym _ _ (by have:=hY u G;simpa[bey]using this),o2⟩,λu G v hv=>?_⟩
    rcases KH.mp hv with g|g
    ·subst g;have:=hX u G;simpa[bey]using this
    ·exact o3 u G v g
 ·rintro x B ⟨rfl,D,T,kp,ea,J,hD,O⟩;exact⟨rfl,D,T,kp,ea,J,∅,O⟩
 ·rintro x B ⟨rfl,D,T,kp,ea,J,hD,O⟩;exact aa (q D T B ea J hD O kp)
noncomputable def Pd:Nat->List (List KI)->List (Nat×Nat×Nat)->Prop
 |_,[],ps=>ps=[]
 |s,r::rs,ps=>∃p t,ps=(s,r.length,p)::t/\Pd (s+r.length) rs t
theorem Pd.split:∀{l t:List (List KI)} {s:Nat} {ps:List (Nat×Nat×Nat)},Pd s (l++t) ps->∃pl pt,ps=pl++pt/\pl.length=l.length/\Pd s l pl/\Pd (s+l.flatten.length) t pt
 |[],t,s,ps,h=>⟨[],ps,rfl,rfl,rfl,by simpa using h⟩
 |r::l,t,s,ps,h=>by
  obtain⟨p,q,e,h⟩:=h;obtain⟨pl,pt,j,z,h1,h2⟩:=Pd.split h;refine⟨(s,r.length,p)::pl,pt,by rw[e,j];rfl,by simp[z],⟨p,pl,rfl,h1⟩,?_⟩
  rw[LI,D1,<-Ou];exact h2
theorem Pd.join:∀{l t:List (List KI)} {s:Nat} {pl pt:List (Nat×Nat×Nat)},Pd s l pl->Pd (s+l.flatten.length) t pt->Pd s (l++t) (pl++pt)
 |[],t,s,pl,pt,h,g=>by have:pl=[]:=h;subst this;simpa using g
 |r::l,t,s,pl,pt,h,g=>by obtain⟨p,q,e,h⟩:=h;subst e;refine⟨p,q++pt,rfl,Pd.join h ?_⟩;rw[LI,D1,<-Ou]at g;exact g
theorem Pd.length:∀{l:List (List KI)} {s:Nat} {ps:List (Nat×Nat×Nat)},Pd s l ps->ps.length=l.length
 |[],_,_,h=>by rw[show _=[]from h];rfl
 |r::l,s,ps,h=>by obtain⟨p,q,e,h⟩:=h;rw[e];simp[h.length]
structure Rn(lt:KI->KI->Bool)(kd:Pt)(a₀:List KI)(st:LW)(rs:List (List KI))(R:List KI):Prop where
 arr:(Lq st).toList=rs.flatten++R
 perm:(rs.flatten++R).Perm a₀
 ord:∀r∈rs,r≠[]/\Ord lt r
 pend:Pd 0 rs (KZ st).toList
 kind:MQ st=kd
 fail:Nc st=Y
theorem Rn.merge(c:Cm prog w A s kd P lt){a₀:List KI}(hP:∀x∈a₀,P x){l t:List (List KI)}{j F:List KI}(h:Rn lt kd a₀ st (l++j::F::t) R){i:Nat}(hi:i=l.length){Q:Bool->LW->Prop}(q:∀m st',Rn lt kd a₀ st' (l++m::t) R->m.length=j.length+F.length->Q N3 st'):wpS (La prog w) A E s (Vd i) Q st:=by
 obtain⟨g,lo,Iw,⟨O,U,F2⟩,fv⟩:=F7 (E:=E) c;obtain⟨pl,pt,ep,J,Iq,Ir⟩:=h.pend.split;obtain⟨L,t1,e1,Is⟩:=Ir;obtain⟨p2,t2,e2,Iu⟩:=Is;subst e1 e2;have o1:=h.ord j (by simp)
 have o2:=h.ord F (by simp)
 have G:∀x,x∈j∨x∈F->P x:=λx hx=>hP x (h.perm.mem_iff.mp (by simp only[NH,LI,KQ];rcases hx with z|z<;>simp[z]))
 have ip:∀(k:Nat) (v:Nat×Nat×Nat),(KZ st).toList[k]?=Z v->(KZ st)[k]?=Z v:=λk v e=>by rw[<-Le];exact e
 refine fv O (U O) (F2 O) i (0+l.flatten.length) j.length L (0+l.flatten.length+j.length) F.length p2 l.flatten j F (t.flatten++R) st Q h.kind h.fail (ip _ _ ?_) (ip _ _ ?_) (by rw[h.arr];simp) (QN _) rfl ∅ rfl o1.1 o2.1 (λx hx=>G x (.inl hx)) (λx hx=>G x (.inr hx)) o1.2 o2.2 ?_
 ·rw[ep,hi,<-J,z0 ∅,QM];rfl
 ·rw[ep,hi,<-J,z0 ∅,show pl.length+1-pl.length=1 by lia];rfl
 ·intro m st' ea hm om hk hf Iv;have B:m.length=j.length+F.length:=by rw[hm.length_eq];simp
  refine q m st' ⟨by rw[ea];simp,?_,?_,?_,hk,hf⟩ B
  ·refine NQ.trans ?_ h.perm;simp only[NH,LI,L7];refine LX _ ?_;rw[<-L7 j];exact Mf _ hm
  ·intro r hr
   rcases KQ.mp hr with z|z
   ·exact h.ord r (Lp _ z)
   ·rcases KH.mp z with z|z
    ·subst z;exact⟨λz=>by rw[z]at B;have:=LQ.mpr o1.1;simp at B;lia,om⟩
    ·exact h.ord r (by simp[z])
  ·rw[Iv];have e3:(((KZ st).setIfInBounds i (0+l.flatten.length,j.length+F.length,L)).eraseIdxIfInBounds (i+1)).toList=pl++(0+l.flatten.length,j.length+F.length,L)::t2:=by
    rw[Array.toList_eraseIdxIfInBounds,R6,ep,hi,<-J];rw[List.set_append_right _ _ ∅,QM,List.eraseIdx_append_of_length_le ∅,show pl.length+1-pl.length=1 by lia];rfl
   rw[e3];refine Iq.join ⟨L,t2,by rw[B],?_⟩
   rw[B,<-Ou];exact Iu
theorem q8{α:Type}{l:List α}(h:1<l.length):∃t a b,l=t++[a,b]:=by
 obtain⟨t1,b,j⟩:∃t b,l=t++[b]:=⟨l.dropLast,l.getLast (λz=>by rw[z]at h;simp at h),(MX _).symm⟩
 obtain⟨B,a,F⟩:∃t b,t1=t++[b]:=⟨t1.dropLast,t1.getLast (λz=>by rw[j,z]at h;simp at h),(MX _).symm⟩
 exact⟨B,a,b,by rw[j,F];simp⟩
theorem Dy{α:Type}{l:List α}{i:Nat}(h:i+1<l.length):∃t a b u,l=t++a::b::u/\t.length=i:=by
 refine⟨l.take i,l[i],l[i+1],l.drop (i+2),?_,by rw[Lk];lia⟩
 rw[<-Mt ∅,<-Mt ∅,Mx]
theorem Rn.size{a₀:List KI}{rs:List (List KI)}(h:Rn lt kd a₀ st rs R):rs.flatten.length+R.length=a₀.length:=by have:=h.perm.length_eq;rw[D1]at this;exact this
theorem rZ:∀{rs:List (List KI)},(∀r∈rs,r≠[])->rs.length<=rs.flatten.length
 |[],_=>by simp
 |r::rs,h=>by
  have h1:=LQ.mpr (h r (by simp))
  have h2:=rZ (rs:=rs) λr j=>h r (by simp[j])
  rw[LI,D1,LF];lia
theorem vR{l:List (List KI)}{s pw:Nat}{ps:Array (Nat×Nat×Nat)}(h:Pd s l ps.toList):Pd s l (ps.modify (ps.size-1) λx=>(x.1,x.2.1,pw)).toList:=by
 rw[Array.toList_modify];have g:∀(l:List (List KI)) (s k:Nat) (ps:List (Nat×Nat×Nat)),Pd s l ps->Pd s l (ps.modify k λx=>(x.1,x.2.1,pw)):=by
  intro l
  induction l with
  |nil=>intro s k ps h;have:ps=[]:=h;subst this;cases k<;>rfl
  |cons r l ih=>
   intro s k ps h;obtain⟨p,t,e,h⟩:=h;subst e
   cases k with
   |zero=>exact⟨pw,t,rfl,h⟩
   |succ k=>exact⟨p,_,rfl,ih _ k t h⟩
 exact g _ _ _ _ h
theorem rn(c:Cm prog w A s kd P lt){Q:Unit->LW->Prop}(hk:MQ st=kd)(hf:Nc st=Y)(hp:KZ st=#[])(hP:∀x∈(Lq st).toList,P x)(q:∀st',(Lq st').toList.Perm (Lq st).toList->Ord lt (Lq st').toList->Nc st'=Y->Q () st'):wpS (La prog w) A E s sortRuns' Q st:=by
 rw[sortRuns'_eq];refine D2 (Ow ?_)
 try dsimp only
 have hsz:(Lq st).size=(Lq st).toList.length:=by simp
 generalize hA:(Lq st).toList=a₀ at hP q hsz;generalize hS:(Lq st).size=size at hsz;generalize minRun' size size 0=minrun;refine D2 (aw (Q:=λr st'=>∃rs lo,r=(Y,lo)/\Rn lt kd a₀ st' rs [])
  (LN (λi r st'=>∃rs R,r=(Y,rs.flatten.length)/\Rn lt kd a₀ st' rs R/\i<=rs.flatten.length) ?_ ?_ ⟨[],a₀,rfl,⟨by simpa using hA,by simp,by simp,by rw[hp];rfl,hk,hf⟩,by simp⟩) ?_)
 ·rintro i r Iy _ hi ⟨rs,R,rfl,L,Iv⟩
  try dsimp only
  have IJ:=L.size;refine ae (λIG=>?_) (λIG=>?_)
  ·have:R=[]:=Lu.mp ∅
   subst this;exact aa ⟨rs,_,rfl,L⟩
  ·have Iz:size-rs.flatten.length=R.length:=by lia
   have IH:R≠[]:=λz=>by rw[z,Nj]at Iz;lia
   have IA:∀x∈R,P x:=λx hx=>hP x (L.perm.mem_iff.mp (Ld _ hx));rw[Iz];refine D2 (j4 c L.kind L.arr IH IA λr R1 J ea Iq U ho kp=>?_)
   try dsimp only
   have F:Rn lt kd a₀ J rs (r++R1):=⟨ea,(LX _ Iq).trans L.perm,L.ord,by rw[kp.pend];exact L.pend,kp.kind.trans L.kind,kp.fail.trans L.fail⟩
   have IB:r.length+R1.length=R.length:=by rw[<-Iq.length_eq];simp
   refine ae (λIw=>?_) (λIw=>?_)
   ·refine D2 (cC ?_);refine D2 (mY c F.kind F.arr U ho (n:=min R.length minrun) ∅ (by simp;lia) (λx hx=>IA x (Iq.mem_iff.mp hx)) λr2 R2 B IC Iu G II Is=>?_)
    try dsimp only
    refine ae (λh=>absurd h (by simp)) (λ_=>?_)
    have ID:r2≠[]:=λz=>by rw[z]at G;simp at G;have:=LQ.mpr U;lia
    have F:Rn lt kd a₀ B rs (r2++R2):=⟨IC,(LX _ Iu).trans F.perm,F.ord,by rw[Is.pend];exact F.pend,Is.kind.trans F.kind,Is.fail.trans F.fail⟩
    rw[<-G];clear G Iu IC Is ea Iq kp IB Iw;generalize B=J at F;clear ho U;have ho:=II;have U:=ID;generalize r2=r at F ho U;generalize R2=R1 at F;refine D2 (Ow ?_)
    try dsimp only
    have IE:(KZ J).size=rs.length:=by rw[<-Lm];exact F.pend.length
    cases hb:(KZ J).back? with
    |none=>
     try dsimp only
     have HL:rs.flatten.length=rs.flatten.length:=rfl;refine D2 (Ng ?_);have Ix:=LQ.mpr U;have F2:(rs++[r]).flatten.length=rs.flatten.length+r.length:=by rw[NH,D1,HL];simp
     refine aa ⟨rs++[r],R1,by rw[F2],⟨by rw[show _=_ from F.arr];simp,?_,?_,?_,F.kind,F.fail⟩,by rw[F2];lia⟩
     ·refine NQ.trans (OS (by simp)) F.perm
     ·intro u hu
      rcases KQ.mp hu with z|z
      ·exact F.ord u z
      ·simp at z;subst z;exact⟨U,ho⟩
     ·have h8:(KZ (P9 J ((KZ J).push (rs.flatten.length,r.length,0)))).toList=(KZ J).toList++[(rs.flatten.length,r.length,0)]:=by
       show((KZ J).push _).toList=_;rw[L8]
      rw[show _=_ from h8];exact F.pend.join ⟨0,[],by rw[HL,QN],rfl⟩
    |some v=>
     obtain⟨s1,n1,p1⟩:=v
     try dsimp only
     refine D2 (aw (Q:=λx st'=>x=(Y,())/\∃rs',Rn lt kd a₀ st' rs' (r++R1)/\rs'.flatten.length=rs.flatten.length)
      (LN (λi x st'=>x=(Y,())/\∃rs',Rn lt kd a₀ st' rs' (r++R1)/\rs'.flatten.length=rs.flatten.length) ?_ ?_ ⟨rfl,rs,F,rfl⟩) ?_)
     ·rintro j x B _ hj ⟨rfl,rs',O,G⟩;refine D2 (Ow ?_)
      try dsimp only
      have Ir:(KZ B).size=rs'.length:=by rw[<-Lm];exact O.pend.length
      by_cases h1:(KZ B).size > 1
      ·rw[if_pos h1];have h2:(KZ B)[(KZ B).size-2]?=Z ((KZ B)[(KZ B).size-2]'∅):=LA ∅
       rw[h2]
       try dsimp only
       refine ae (λh=>?_) (λh=>?_)
       ·exact aa ⟨rfl,rs',O,G⟩
       ·obtain⟨t,a,b,e⟩:=q8 (l:=rs') ∅
        subst e;refine D2 (O.merge c hP (by rw[Ir];simp) λm fv h4 hm=>?_)
        refine ae (λh=>absurd h (by simp)) (λ_=>aa ⟨rfl,_,h4,?_⟩)
        rw[<-G];simp[hm]
      ·rw[if_neg h1];exact aa ⟨rfl,rs',O,G⟩
     ·rintro x B ⟨rfl,rs',O,G⟩;exact⟨rfl,rs',O,G⟩
     ·rintro x B ⟨rfl,rs',O,G⟩
      try dsimp only
      refine D2 (Ng ?_);have h4:Rn lt kd a₀ (P9 B ((KZ B).modify ((KZ B).size-1) λx=>(x.1,x.2.1,power' size (2*s1+n1) (2*s1+n1+n1+r.length) size))) rs' (r++R1):=⟨O.arr,O.perm,O.ord,vR O.pend,O.kind,O.fail⟩;generalize IF:P9 B ((KZ B).modify ((KZ B).size-1) λx=>(x.1,x.2.1,power' size (2*s1+n1) (2*s1+n1+n1+r.length) size))=fv at h4;have HL:=G;refine D2 (Ng ?_);have Ix:=LQ.mpr U;have F2:(rs'++[r]).flatten.length=rs.flatten.length+r.length:=by rw[NH,D1,HL];simp
      refine aa ⟨rs'++[r],R1,by rw[F2],⟨by rw[show _=_ from h4.arr];simp,?_,?_,?_,h4.kind,h4.fail⟩,by rw[F2];lia⟩
      ·refine NQ.trans (OS (by simp)) h4.perm
      ·intro u hu
       rcases KQ.mp hu with z|z
       ·exact h4.ord u z
       ·simp at z;subst z;exact⟨U,ho⟩
      ·have h8:(KZ (P9 fv ((KZ fv).push (rs.flatten.length,r.length,0)))).toList=(KZ fv).toList++[(rs.flatten.length,r.length,0)]:=by
        show((KZ fv).push _).toList=_;rw[L8]
       rw[show _=_ from h8];exact h4.pend.join ⟨0,[],by rw[HL,QN],rfl⟩
   ·clear ea Iq kp IB Iw;refine D2 (Ow ?_)
    try dsimp only
    have IE:(KZ J).size=rs.length:=by rw[<-Lm];exact F.pend.length
    cases hb:(KZ J).back? with
    |none=>
     try dsimp only
     have HL:rs.flatten.length=rs.flatten.length:=rfl;refine D2 (Ng ?_);have Ix:=LQ.mpr U;have F2:(rs++[r]).flatten.length=rs.flatten.length+r.length:=by rw[NH,D1,HL];simp
     refine aa ⟨rs++[r],R1,by rw[F2],⟨by rw[show _=_ from F.arr];simp,?_,?_,?_,F.kind,F.fail⟩,by rw[F2];lia⟩
     ·refine NQ.trans (OS (by simp)) F.perm
     ·intro u hu
      rcases KQ.mp hu with z|z
      ·exact F.ord u z
      ·simp at z;subst z;exact⟨U,ho⟩
     ·have h8:(KZ (P9 J ((KZ J).push (rs.flatten.length,r.length,0)))).toList=(KZ J).toList++[(rs.flatten.length,r.length,0)]:=by
       show((KZ J).push _).toList=_;rw[L8]
      rw[show _=_ from h8];exact F.pend.join ⟨0,[],by rw[HL,QN],rfl⟩
    |some v=>
     obtain⟨s1,n1,p1⟩:=v
     try dsimp only
     refine D2 (aw (Q:=λx st'=>x=(Y,())/\∃rs',Rn lt kd a₀ st' rs' (r++R1)/\rs'.flatten.length=rs.flatten.length)
      (LN (λi x st'=>x=(Y,())/\∃rs',Rn lt kd a₀ st' rs' (r++R1)/\rs'.flatten.length=rs.flatten.length) ?_ ?_ ⟨rfl,rs,F,rfl⟩) ?_)
     ·rintro j x B _ hj ⟨rfl,rs',O,G⟩;refine D2 (Ow ?_)
      try dsimp only
      have Ir:(KZ B).size=rs'.length:=by rw[<-Lm];exact O.pend.length
      by_cases h1:(KZ B).size > 1
      ·rw[if_pos h1];have h2:(KZ B)[(KZ B).size-2]?=Z ((KZ B)[(KZ B).size-2]'∅):=LA ∅
       rw[h2]
       try dsimp only
       refine ae (λh=>?_) (λh=>?_)
       ·exact aa ⟨rfl,rs',O,G⟩
       ·obtain⟨t,a,b,e⟩:=q8 (l:=rs') ∅
        subst e;refine D2 (O.merge c hP (by rw[Ir];simp) λm fv h4 hm=>?_)
        refine ae (λh=>absurd h (by simp)) (λ_=>aa ⟨rfl,_,h4,?_⟩)
        rw[<-G];simp[hm]
      ·rw[if_neg h1];exact aa ⟨rfl,rs',O,G⟩
     ·rintro x B ⟨rfl,rs',O,G⟩;exact⟨rfl,rs',O,G⟩
     ·rintro x B ⟨rfl,rs',O,G⟩
      try dsimp only
      refine D2 (Ng ?_);have h4:Rn lt kd a₀ (P9 B ((KZ B).modify ((KZ B).size-1) λx=>(x.1,x.2.1,power' size (2*s1+n1) (2*s1+n1+n1+r.length) size))) rs' (r++R1):=⟨O.arr,O.perm,O.ord,vR O.pend,O.kind,O.fail⟩;generalize IF:P9 B ((KZ B).modify ((KZ B).size-1) λx=>(x.1,x.2.1,power' size (2*s1+n1) (2*s1+n1+n1+r.length) size))=fv at h4;have HL:=G;refine D2 (Ng ?_);have Ix:=LQ.mpr U;have F2:(rs'++[r]).flatten.length=rs.flatten.length+r.length:=by rw[NH,D1,HL];simp
      refine aa ⟨rs'++[r],R1,by rw[F2],⟨by rw[show _=_ from h4.arr];simp,?_,?_,?_,h4.kind,h4.fail⟩,by rw[F2];lia⟩
      ·refine NQ.trans (OS (by simp)) h4.perm
      ·intro u hu
       rcases KQ.mp hu with z|z
       ·exact h4.ord u z
       ·simp at z;subst z;exact⟨U,ho⟩
      ·have h8:(KZ (P9 fv ((KZ fv).push (rs.flatten.length,r.length,0)))).toList=(KZ fv).toList++[(rs.flatten.length,r.length,0)]:=by
        show((KZ fv).push _).toList=_;rw[L8]
       rw[show _=_ from h8];exact h4.pend.join ⟨0,[],by rw[HL,QN],rfl⟩
 ·rintro r Iy ⟨rs,R,rfl,L,Iv⟩;have:=L.size;have:R=[]:=Lu.mp ∅
  subst this;exact⟨rs,_,rfl,L⟩
 ·rintro r Iy ⟨rs,lo,rfl,L⟩
  try dsimp only
  refine D2 (aw (Q:=λr st'=>r=(Y,())/\∃rs,Rn lt kd a₀ st' rs []/\rs.length<=1)
   (LN (λi r st'=>r=(Y,())/\∃rs,Rn lt kd a₀ st' rs []/\rs.length+i<=size) ?_ ?_ ⟨rfl,rs,L,?_⟩) ?_)
  ·rintro i r J _ hi ⟨rfl,rs,L,Iv⟩;refine D2 (Ow ?_)
   try dsimp only
   have IE:(KZ J).size=rs.length:=by rw[<-Lm];exact L.pend.length
   refine ae (λh=>?_) (λh=>?_)
   ·exact aa ⟨rfl,rs,L,∅⟩
   ·have go:∀k,k+1<rs.length->wpS (La prog w) A E s (Vd k) (fun b st'=>b=N3/\∃rs',Rn lt kd a₀ st' rs' []/\rs'.length+1=rs.length) J:=by
     intro k hk;obtain⟨t,a,b,u,e,ht⟩:=Dy hk;subst e;refine L.merge c hP ht.symm λm B O _=>⟨rfl,_,O,by simp;lia⟩
    refine D2 (aw (go _ ?_) ?_)
    ·(repeat' split)<;>lia
    ·rintro b B ⟨rfl,rs',O,G⟩;refine ae (λh=>absurd h (by simp)) (λ_=>aa ⟨rfl,rs',O,∅⟩)
  ·rintro r J ⟨rfl,rs,L,Iv⟩;exact⟨rfl,rs,L,∅⟩
  ·have h1:=rZ λr hr=>(L.ord r hr).1;have h2:=L.size;simp only[Nj]at h2;lia
  ·rintro r J ⟨rfl,rs,L,hl⟩;refine aa (q J (by rw[L.arr];exact L.perm) ?_ L.fail)
   rw[L.arr,Mv]
   match rs,hl,L with
   |[],_,_=>exact Rl
   |[r],_,L=>simpa using(L.ord r (by simp)).2
end
end Srt
namespace Srt
def fJ(cap:Nat):Prop:=∀(prog:Lb) (w:Ly) (A:LD) (E:i3->r0->Prop) (s:r0) (kd:Pt) (P:KI->Prop) (lt:KI->KI->Bool),Cm prog w A s kd P lt->∀(st:LW) (Q:Unit->LW->Prop),MQ st=kd->Nc st=Y->KZ st=#[]->(∀x∈(Lq st).toList,P x)->2<=(Lq st).size->(Lq st).size<=cap->
 (∀st',(Lq st').toList.Perm (Lq st).toList->Ord lt (Lq st').toList->Nc st'=Y->Q () st')->wpS (La prog w) A E s sortRuns' Q st
theorem u6{cap:Nat}:fJ cap:=λ_ _ _ _ _ _ _ _ c _ _ j hf z B _ _ q=>rn c j hf z B q
theorem rp:fJ 63:=by
 intro prog w A E s kd P lt c st Q hk hf F2 fv h2 Iq q;rw[sortRuns'_eq];refine D2 (Ow ?_);dsimp only;have J:minRun' (Lq st).size (Lq st).size 0=(Lq st).size:=by
  obtain⟨f,hf⟩:∃f,(Lq st).size=f+1:=⟨(Lq st).size-1,∅⟩
  have:minRun' (f+1) (Lq st).size 0=(Lq st).size:=by rw[minRun'_succ,if_pos ∅];rfl
  rwa[<-hf]at this
 rw[J];have hsz:(Lq st).size=(Lq st).toList.length:=by simp
 generalize hA:(Lq st).toList=a₀ at fv q hsz;generalize hS:(Lq st).size=size at hsz h2 Iq J;have h0:a₀≠[]:=λz=>by rw[z]at hsz;simp at hsz;lia
 refine D2 (aw (Q:=λr st'=>r=(Y,size)/\(Lq st').toList.Perm a₀/\Ord lt (Lq st').toList/\Nc st'=Y/\KZ st'=#[(0,size,0)])
  (LN (λi r st'=>(i=0/\r=(Y,0)/\st'=st)∨(1<=i/\r=(Y,size)/\(Lq st').toList.Perm a₀/\Ord lt (Lq st').toList/\Nc st'=Y/\KZ st'=#[(0,size,0)])) ?_ ?_ (.inl ⟨rfl,rfl,rfl⟩)) ?_)
 ·rintro i r B _ hi (⟨rfl,rfl,rfl⟩|⟨_,rfl,hD⟩)
  ·dsimp only;rw[if_neg ∅]
   rw[show size-0=a₀.length by lia,show min a₀.length size=size by lia]
   refine D2 (j4 (L:=[]) c hk hA h0 fv λr R O ea F Ir ho kp=>?_);dsimp only;have hl:=F.length_eq;rw[D1]at hl;have fin:∀(r':List KI) (j:LW),(Lq j).toList=r'->r'.Perm a₀->Ord lt r'->Kp B j->wpS (La prog w) A E s (modify λz=>P9 z ((KZ z).push (0,size,0))) (λ_ st'=>(Lq st').toList.Perm a₀/\Ord lt (Lq st').toList/\Nc st'=Y/\KZ st'=#[(0,size,0)]) j:=λr' j e3 p3 o3 k3=>by refine Ng ?_;exact⟨by show(Lq j).toList.Perm a₀;rw[e3];exact p3,by show Ord lt (Lq j).toList;rw[e3];exact o3,k3.fail.trans hf,by show(KZ j).push _=_;rw[k3.pend,F2];rfl⟩
   by_cases hlt:r.length<size
   ·rw[if_pos hlt];refine D2 (cC ?_);refine D2 (mY (L:=[]) c (kp.kind.trans hk) ea Ir ho (n:=size) ∅ (by simp;lia) (λx hx=>fv x (F.mem_iff.mp hx)) λr2 R2 j Is G Iy Iu U=>?_)
    rw[if_neg (by simp)]
    refine D2 (Ow ?_);have hb:(KZ j).back?=Y:=by rw[U.pend,kp.pend,F2];rfl
    rw[hb];dsimp only;have Iv:=G.length_eq;rw[D1,D1]at Iv;have:R2=[]:=Lu.mp ∅
    subst this;rw[show 0+size=size by lia]
    refine D2 (aw (fin r2 j (by simpa using Is) (by simpa using G.trans F) Iu (kp.trans U)) λ_ Iw h4=>aa (.inr ⟨∅,rfl,h4⟩))
   ·rw[if_neg hlt];refine D2 (Ow ?_);have hb:(KZ O).back?=Y:=by rw[kp.pend,F2];rfl
    rw[hb];dsimp only;have:R=[]:=Lu.mp ∅
    subst this;have Ix:r.length=size:=by simp at hl;lia
    rw[Ix,show 0+size=size by lia]
    refine D2 (aw (fin r O (by simpa using ea) (by simpa using F) ho kp) λ_ Iw h4=>aa (.inr ⟨∅,rfl,h4⟩))
  ·dsimp only;rw[if_pos (L3 _)];exact aa ⟨rfl,hD⟩
 ·rintro r B (⟨h,_,_⟩|⟨_,rfl,hD⟩)
  ·lia
  ·exact⟨rfl,hD⟩
 ·rintro r B ⟨rfl,p1,o1,f1,pd⟩;dsimp only;refine D2 (aw (LN (I:=λ_ c st''=>st''=B/\c=(Y,())) (Q:=λc st''=>st''=B/\c=(Y,())) ?_ (λ_ _ hh=>hh) ⟨rfl,rfl⟩) ?_)
  ·rintro x c st'' _ _ ⟨rfl,rfl⟩;refine D2 (Ow ?_);rw[if_pos (by rw[pd];exact L3 1)]
   exact aa ⟨rfl,rfl⟩
  ·rintro c st'' ⟨rfl,rfl⟩;exact aa (q _ p1 o1 f1)
end Srt
namespace Srt
inductive Ky where
 |int (i:Int)
 |tup (l:List Ky)
mutual
noncomputable def av:Ky->Ky->Ordering
 |.int a,.int b=>if a<b then .lt else if a=b then .eq else .gt
 |.int _,.tup _=>.lt
 |.tup _,.int _=>.gt
 |.tup a,.tup b=>cmpKs a b
noncomputable def cmpKs:List Ky->List Ky->Ordering
 |[],[]=>.eq
 |[],_::_=>.lt
 |_::_,[]=>.gt
 |x::xs,y::ys=>(av x y).then (cmpKs xs ys)
end
mutual
theorem dq:∀a b,av b a=(av a b).swap
 |.int a,.int b=>by
  simp only[av]
  by_cases h1:a<b
  ·rw[if_pos h1,if_neg ∅,if_neg ∅];rfl
  ·by_cases h2:a=b
   ·rw[if_neg h1,if_pos h2,if_neg ∅,if_pos h2.symm];rfl
   ·rw[if_neg h1,if_neg h2,if_pos ∅];rfl
 |.int _,.tup _=>by simp[av]
 |.tup _,.int _=>by simp[av]
 |.tup a,.tup b=>by simp only[av];exact cmpKs_swap a b
theorem cmpKs_swap:∀a b,cmpKs b a=(cmpKs a b).swap
 |[],[]=>rfl
 |[],_::_=>rfl
 |_::_,[]=>rfl
 |x::xs,y::ys=>by
  simp only[cmpKs];rw[dq x y,cmpKs_swap xs ys]
  cases av x y<;>rfl
end
mutual
theorem iF:∀a b,av a b=.eq->a=b
 |.int a,.int b,h=>by
  simp only[av]at h
  by_cases h1:a<b
  ·rw[if_pos h1]at h;cases h
  ·by_cases h2:a=b
   ·rw[h2]
   ·rw[if_neg h1,if_neg h2]at h;cases h
 |.int _,.tup _,h=>by simp[av]at h
 |.tup _,.int _,h=>by simp[av]at h
 |.tup a,.tup b,h=>by simp only[av]at h;rw[cmpKs_eq a b h]
theorem cmpKs_eq:∀a b,cmpKs a b=.eq->a=b
 |[],[],_=>rfl
 |[],_::_,h=>by simp[cmpKs]at h
 |_::_,[],h=>by simp[cmpKs]at h
 |x::xs,y::ys,h=>by
  simp only[cmpKs]at h
  cases e:av x y with
  |lt=>rw[e]at h;cases h
  |gt=>rw[e]at h;cases h
  |eq=>rw[e]at h;rw[iF x y e,cmpKs_eq xs ys h]
end
mutual
theorem ke:∀a b c,av a b=.lt->av b c=.lt->av a c=.lt
 |.int a,.int b,.int c,h,g=>by
  simp only[av]at h g⊢;have h1:a<b:=by
   by_cases h1:a<b
   ·exact h1
   ·rw[if_neg h1]at h;split at h<;>cases h
  have h2:b<c:=by
   by_cases h1:b<c
   ·exact h1
   ·rw[if_neg h1]at g;split at g<;>cases g
  rw[if_pos ∅]
 |.int _,.tup _,.int _,_,g=>by simp[av]at g
 |.int _,.int _,.tup _,_,_=>by simp[av]
 |.int _,.tup _,.tup _,_,_=>by simp[av]
 |.tup _,.int _,_,h,_=>by simp[av]at h
 |.tup _,.tup _,.int _,_,g=>by simp[av]at g
 |.tup a,.tup b,.tup c,h,g=>by simp only[av]at h g⊢;exact cmpKs_trans a b c h g
theorem cmpKs_trans:∀a b c,cmpKs a b=.lt->cmpKs b c=.lt->cmpKs a c=.lt
 |[],[],_,h,_=>by simp[cmpKs]at h
 |[],_::_,[],_,g=>by simp[cmpKs]at g
 |[],_::_,_::_,_,_=>by simp[cmpKs]
 |_::_,[],_,h,_=>by simp[cmpKs]at h
 |_::_,_::_,[],_,g=>by simp[cmpKs]at g
 |x::xs,y::ys,z::zs,h,g=>by
  simp only[cmpKs]at h g⊢
  cases e:av x y with
  |gt=>rw[e]at h;cases h
  |eq=>
   have:=iF x y e;subst this;rw[e]at h
   cases e2:av x z with
   |gt=>rw[e2]at g;cases g
   |lt=>rfl
   |eq=>rw[e2]at g;exact cmpKs_trans xs ys zs h g
  |lt=>
   cases e2:av y z with
   |gt=>rw[e2]at g;cases g
   |lt=>rw[ke x y z e e2];rfl
   |eq=>have:=iF y z e2;subst this;rw[e];rfl
end
noncomputable def ltK(a b:Ky):Bool:=av a b==.lt
noncomputable def q9(a b:List Ky):Bool:=cmpKs a b==.lt
theorem qa(a b:Ky)(h:ltK a b=N3):ltK b a=VP:=by unfold ltK at h⊢;rw[dq a b,(by simpa using h:av a b=.lt)];rfl
theorem mZ(a b:Ky)(h:ltK a b=VP)(g:ltK b a=VP):a=b:=by
 unfold ltK at h g;rw[dq a b]at g;apply iF
 cases e:av a b with
 |eq=>rfl
 |lt=>rw[e]at h;cases h
 |gt=>rw[e]at g;cases g
theorem Bj(a b c:Ky)(h:ltK a c=N3):ltK a b=N3∨ltK b c=N3:=by
 cases e:ltK a b with
 |true=>exact .inl rfl
 |false=>
  right
  cases j:ltK b a with
  |false=>rw[mZ a b e j]at h;exact h
  |true=>unfold ltK at h j⊢;rw[ke b a c (by simpa using j) (by simpa using h)];rfl
theorem vS(x y:Ky)(xs ys:List Ky):q9 (x::xs) (y::ys)=if(!ltK x y && !ltK y x)=N3 then q9 xs ys else ltK x y:=by
 unfold q9 ltK;rw[dq x y];simp only[cmpKs]
 cases av x y<;>simp
mutual
noncomputable def toK:Mr->Ky
 |.int i=>.int i
 |.tuple xs=>.tup (toKs xs)
 |_=>.int 0
noncomputable def toKs:List Mr->List Ky
 |[]=>[]
 |x::xs=>toK x::toKs xs
end
inductive Cmpb:Mr->Mr->Prop where
 |int (a b:Int):Cmpb (.int a) (.int b)
 |nil (ys:List Mr):Cmpb (.tuple []) (.tuple ys)
 |nil' (xs:List Mr):Cmpb (.tuple xs) (.tuple [])
 |cons {x y:Mr} {xs ys:List Mr}:Cmpb x y->Cmpb (.tuple xs) (.tuple ys)->Cmpb (.tuple (x::xs)) (.tuple (y::ys))
theorem Cmpb.eqv{x y:Mr}(h:Cmpb x y):LV x y=(!ltK (toK x) (toK y) && !ltK (toK y) (toK x)):=by
 have g:∀{x y:Mr},Cmpb x y->LV x y=(av (toK x) (toK y)==.eq):=by
  intro x y h
  induction h with
  |int a b=>
   simp only[LV,toK,av]
   by_cases h1:a<b
   ·rw[if_pos h1];simp;lia
   ·by_cases h2:a=b
    ·rw[if_neg h1,if_pos h2];simp[h2]
    ·rw[if_neg h1,if_neg h2];simp;lia
  |nil ys=>cases ys<;>simp[LV,Qs,toK,toKs,av,cmpKs]
  |nil' xs=>cases xs<;>simp[LV,Qs,toK,toKs,av,cmpKs]
  |@cons x y xs ys h1 h2 ih1 j=>
   simp only[LV]at j⊢;simp only[Qs,toK,toKs,av,cmpKs]at j⊢;rw[ih1,j]
   cases av (toK x) (toK y)<;>simp
 rw[g h];unfold ltK;rw[dq (toK x) (toK y)]
 cases av (toK x) (toK y)<;>rfl
section
variable{prog:Lb}{w:Ly}{A:LD}{E:i3->r0->Prop}{s:r0}
theorem trd{b:Bool}{Q:Bool->r0->Prop}(q:Q b s):KU (La prog w) A (truthOfDropped (.bool b)) Q E s:=by
 unfold truthOfDropped
 wp_walk
 exact q
theorem iG(a b:Int):ltK (.int a) (.int b)=decide (a<b):=by
 simp only[ltK,av]
 by_cases h:a<b
 ·simp[h]
 ·by_cases h2:a=b<;>simp[h,h2]
theorem vT{a b:Int}{t u:Tok}{Q:i3->r0->Prop}(q:Q (.bool (decide (a<b))) s):KU (La prog w) A (UM .Lt (.int a t) (.int b u)) Q E s:=wpAny_richCompare_same (T:="int") rfl rfl F.slot_int_lt (call_int_lt ⟨by simp,q⟩)
noncomputable def cy:List Mr->List Mr->Option Bool
 |x::xs,y::ys=>if LV x y=N3 then cy xs ys else Z (ltK (toK x) (toK y))
 |_,_=>Y
theorem jf:∀{xs ys:List Mr},Cmpb (.tuple xs) (.tuple ys)->ltK (toK (.tuple xs)) (toK (.tuple ys))=match cy xs ys with|some b=>b|none=>decide (xs.length<ys.length)
 |[],[],_=>rfl
 |[],_::_,_=>by simp[cy,toK,toKs,ltK,av,cmpKs]
 |_::_,[],_=>by simp[cy,toK,toKs,ltK,av,cmpKs]
 |x::xs,y::ys,h=>by
  cases h with
  |cons h1 h2=>
   have ih:=jf h2;have e:∀a b:List Ky,ltK (.tup a) (.tup b)=q9 a b:=λa b=>by simp[ltK,q9,av]
   simp only[toK,toKs,e]at ih⊢;rw[vS,<-h1.eqv];simp only[cy]
   split
   ·rw[ih];simp
   ·rfl
noncomputable def cI{α β:Type}(M:Qf)(A:LD)(E:i3->r0->Prop)(f:α->β->Sem (ForInStep β))(Q:β->r0->Prop):List α->β->r0->Prop
 |[],c,s=>Q c s
 |x::xs,c,s=>KU M A (f x c) (λr s'=>match r with|.done c'=>Q c' s'|.yield c'=>cI M A E f Q xs c' s') E s
theorem gn{α β:Type}{M:Qf}{f:α->β->Sem (ForInStep β)}{Q:β->r0->Prop}:∀{l:List α} {c:β} {s:r0},cI M A E f Q l c s->KU M A (forIn l c f) Q E s
 |[],c,s,h=>by rw[QZ];exact y4 h
 |x::xs,c,s,h=>by
  rw[OP];refine gV (Mj h (λr s' j=>?_) λ_ _ z=>z)
  cases r with
  |done c'=>exact y4 j
  |yield c'=>exact gn j
theorem cb{h:Heap}:∀{vs:List i3} {xs:List Mr} {as:List VQ},SU h vs xs as->vs.length=xs.length
 |_,_,_,.nil=>rfl
 |_,_,_,.cons _ r=>by simp[cb r]
theorem jg{α β:Type}{M:Qf}{n:Nat}{f:α->Option β×Unit->Sem (ForInStep (Option β×Unit))}{g:Bool->β}{pr:α->i3×i3}{Q:Option β×Unit->r0->Prop}:
 ∀{l:List α} {vs us:List i3} {xs ys:List Mr} {as bs:List VQ},l.map pr=vs.zip us->SU s.heap vs xs as->SU s.heap us ys bs->Cmpb (.tuple xs) (.tuple ys)->Mz xs=N3->Mz ys=N3->ND xs<=n->
  (∀(z:α) (x y:i3) (d e:Mr) (as bs:List VQ) (R:ForInStep (Option β×Unit)->r0->Prop),z∈l->pr z=(x,y)->Pq s.heap x d as->Pq s.heap y e bs->Cmpb d e->d.canLay0=N3->e.canLay0=N3->d.depth<=n->
   R (if LV d e=N3 then .yield (Y,())else .done (Z (g (ltK (toK d) (toK e))),())) s->KU M A (f z (Y,())) R E s)->
  Q ((cy xs ys).map g,()) s->cI M A E f Q l (Y,()) s
 |[],vs,us,xs,ys,as,bs,e,j,B,F,_,_,_,_,q=>by
  have h1:=cb j;have h2:=cb B;have:vs=[]∨us=[]:=by
   cases vs with
   |nil=>exact .inl rfl
   | cons v vs=>cases us with
     |nil=>exact .inr rfl
     |cons u us=>simp at e
  have G:cy xs ys=Y:=by
   rcases this with rfl|rfl
   ·cases xs with
    |nil=>simp[cy]
    |cons x xs=>simp at h1
   ·cases ys with
    |nil=>cases xs<;>simp[cy]
    |cons y ys=>simp at h2
  rw[G]at q;exact q
 |z::l,vs,us,xs,ys,as,bs,e,j,B,F,lx,ly,hd,hf,q=>by
  cases j with
  |nil=>simp at e
  |cons rx j=>
   cases B with
   |nil=>simp at e
   |cons ry B=>
    simp only[KY,NV,OT]at e;simp only[Mz,tv]at lx ly;simp only[ND]at hd
    cases F with
    |cons J L=>
     simp only[cI];refine hf z _ _ _ _ _ _ _ (by simp) e.1 rx ry J lx.1 ly.1 ∅ ?_
     simp only[cy]at q
     split at q
     ·next h=>rw[if_pos h];exact jg e.2 j B L lx.2 ly.2 ∅ (λz x y d e as bs R O=>hf z x y d e as bs R (by simp[O])) q
     ·next h=>rw[if_neg h];exact q
def G8(n:Nat):Prop:=∀(prog:Lb) (w:Ly) (A:LD) (s:r0) (a b:i3) (d e:Mr) (as bs:List VQ) (E:i3->r0->Prop) (Q:i3->r0->Prop),d.depth<=n->Cmpb d e->Pq s.heap a d as->Pq s.heap b e bs->d.canLay0=N3->e.canLay0=N3->A.units+n+1<Oa->
 Q (.bool (ltK (toK d) (toK e))) s->KU (La prog w) A (UM .Lt a b) Q E s
theorem F8:∀n,G8 n:=by
 intro n
 induction n with
 |zero=>
  intro prog w A s a b d e as bs E Q hd z ra rb ld le fv q
  cases z with
  |int i j=>
   cases ra;cases rb
   exact vT (by rw[<-iG];exact q)
  |nil ys=>simp[OJ]at hd
  |nil' xs=>simp[OJ]at hd
  |cons _ _=>simp[OJ]at hd
 |succ n ih=>
  intro prog w A s a b d e as bs E Q hd z ra rb ld le fv q;have tup:∀xs ys,d=.tuple xs->e=.tuple ys->KU (La prog w) A (UM .Lt a b) Q E s:=by
   rintro xs ys rfl rfl
   cases ra with
   |tuple h1 h2 h3 J=>
    cases rb with
    |tuple g1 g2 g3 L=>
     rename_i l ol vl nl p ob vb nb;have tl:s.TypeIs (.ref l) "tuple":=⟨_,h1,h2⟩;have tb:s.TypeIs (.ref p) "tuple":=⟨_,g1,g2⟩;refine wpAny_richCompare_same_room tl tb UW (LB UW tl F.entry_tuple_lt ?_ (F.args_tuple_lt_2 _ _)) ∅
     unfold N9.«tuple.__lt__»;refine gV ?_;have O:isSubtype (.type "tuple") (.type "tuple")=pure N3:=by rw[Q3];kernel_rfl
     wp_walk
     rw[h3]
     wp_walk
     rw[g3];refine y4 ?_;refine y4 ?_;refine gV (gn (jg (n:=n) (g:=λb=>Fin.done (Flow.ret (Tv b))) (pr:=id) (List.map_id _) J L z ld le (by simp[OJ]at hd;lia) ?_ ?_))
     ·rintro⟨x,y⟩ x' y' d e as bs R _ hz rx ry z ld le hd r
      cases hz
      dsimp only;refine gV (Uy d e _ _ _ _ _ _ rx ry ld le ?_ prog w E _ ?_)
      ·show A.units+1+min d.depth e.depth<Oa;lia
      ·by_cases B:LV d e=N3
       ·rw[if_pos B]at r;rw[B];exact y4 r
       ·rw[if_neg B]at r;have B:LV d e=VP:=by simpa using B
        rw[B];refine gV (Nl (gV (ih prog w _ s x y d e as bs E _ hd z rx ry ld le ?_ ?_)))
        ·show A.units+1+n+1<Oa;lia
        ·exact y4 r
     ·have G:=jf z
      cases e2:cy xs ys with
      |some b=>rw[e2]at G;dsimp only at G;rw[G]at q;exact y4 ⟨_,rfl,by simp,q⟩
      |none=>
       rw[e2]at G;dsimp only at G;rw[G]at q;have U:=cb J;have F2:=cb L;refine y4 ⟨_,rfl,?_,?_⟩
       ·simp[Qe]
       ·simp only[Lm]at U F2;simp only[Qe];rw[U,F2];exact q
  cases z with
  |int i j=>
   cases ra;cases rb
   exact vT (by rw[<-iG];exact q)
  |nil ys=>exact tup _ _ rfl rfl
  |nil' xs=>exact tup _ _ rfl rfl
  |cons _ _=>exact tup _ _ rfl rfl
end
end Srt
namespace Srt
variable{n:Nat}
section
variable{prog:Lb}{w:Ly}{A:LD}{E:i3->r0->Prop}{s:r0}
theorem kf{α β:Type}{M:Qf}{f:α->Sem β}{g:α->β}:∀{l:List α} {Q:List β->r0->Prop},(∀x∈l,∀R:β->r0->Prop,R (g x) s->KU M A (f x) R E s)->Q (l.map g) s->KU M A (l.mapM f) Q E s
 |[],Q,_,q=>by rw[List.mapM_nil];exact y4 q
 |x::xs,Q,h,q=>by rw[R7];refine gV (h x (by simp) _ (gV (kf (λy j=>h y (by simp[j])) (y4 q))))
theorem eV{α β:Type}{M:Qf}{f:α->Sem β}{g:α->β}{xs:Array α}{Q:Array β->r0->Prop}(h:∀x∈xs.toList,∀R:β->r0->Prop,R (g x) s->KU M A (f x) R E s)(q:Q (xs.map g) s):KU M A (xs.mapM f) Q E s:=by
 rw[Array.mapM_eq_mapM_toList];rw[map_eq_pure_bind];refine gV (kf h (y4 ?_));have:(xs.toList.map g).toArray=xs.map g:=by apply Qo.mp;simp
 rw[this];exact q
theorem n8{a:VQ}{v:i3}{vs:List i3}{o:Obj}(h1:s.heap.get? a=Z o)(h2:o.cls=.type "tuple")(j:o.data=.seq (v::vs).toArray n){Q:Option i3->r0->Prop}(q:Q (Z v) s):KU (La prog w) A (firstOfTuple' (.ref a)) Q E s:=by
 unfold firstOfTuple';have ty:s.TypeIs (.ref a) "tuple":=⟨_,h1,h2⟩
 wp_walk
 rw[j];refine y4 ?_;refine y4 ?_;exact y4 q
theorem Bk{a:VQ}{o:Obj}{T:i3}(h1:s.heap.get? a=Z o)(h2:o.cls=T){Q:i3->r0->Prop}(q:Q T s):KU (La prog w) A (typeOf (.ref a)) Q E s:=by
 wp_walk
 rw[h2];exact q
theorem vU{x y:i3}{d e:Mr}{as bs:List VQ}(j:Cmpb d e)(rx:Pq s.heap x d as)(ry:Pq s.heap y e bs)(ld:d.canLay0=N3)(le:e.canLay0=N3)(hd:d.depth<=n)(z:A.units+n+1<Oa){Q:Bool->r0->Prop}(q:Q (ltK (toK d) (toK e)) s):KU (La prog w) A (oneLt' VP x y) Q E s:=by rw[oneLt'_eq];exact gV (F8 n prog w A s x y d e as bs E _ hd j rx ry ld le z (trd q))
theorem n9{b:Bool}{x y:i3}{xs ys:List Mr}{as bs:List VQ}(hb:b=N3->∀d e,xs.head?=Z d->ys.head?=Z e->(∃i,d=.int i)/\∃i,e=.int i)(G:Cmpb (.tuple xs) (.tuple ys))(rx:Pq s.heap x (.tuple xs) as)(ry:Pq s.heap y (.tuple ys) bs)(lx:Mz xs=N3)(ly:Mz ys=N3)(hd:ND xs<=n)(hu:A.units+n+1<Oa){Q:Bool->r0->Prop}(q:Q (ltK (toK (.tuple xs)) (toK (.tuple ys))) s):
 KU (La prog w) A (keyLt' (tuples' b) x y) Q E s:=by
 cases rx with
 |tuple h1 h2 h3 J=>
  cases ry with
  |tuple g1 g2 g3 L=>
   refine gV (Uc h1 h3 ?_);refine gV (Uc g1 g3 ?_);refine gV (gn (jg (n:=n) (g:=id) (pr:=Prod.fst) (List.zipIdx_map_fst _ _) J L G lx ly hd ?_ ?_))
   ·rintro⟨⟨x,y⟩,i⟩ x' y' d e as bs R hz hp rx ry G ld le hd r
    cases hp
    dsimp only;refine gV (Uy d e _ _ _ _ _ _ rx ry ld le ∅ prog w E _ ?_)
    by_cases F:LV d e=N3
    ·rw[if_pos F]at r;rw[F];exact y4 r
    ·rw[if_neg F]at r;have F:LV d e=VP:=by simpa using F
     rw[F];refine gV ?_
     by_cases z:(b&&i==0)=N3
     ·rw[z];simp only[tv,beq_iff_eq]at z;obtain⟨rfl,rfl⟩:=z;have j:=List.mem_zipIdx_iff_getElem?.mp hz;obtain⟨U,F2,t1,fv,B,O⟩:∃(U F2:Int) (t1 fv:Tok),x=.int U t1/\y=.int F2 fv:=by
       generalize hV:RZ _=vl at J j;generalize hU:RZ _=ul at L j
       cases J with
       |nil=>simp at j
       |cons p1 p2=>
        cases L with
        |nil=>simp at j
        |cons q1 q2=>
         simp at j;obtain⟨⟨U,ei⟩,⟨F2,ej⟩⟩:=hb rfl _ _ rfl rfl;subst ei ej
         cases p1;cases q1
         exact⟨_,_,_,_,j.1.symm,j.2.symm⟩
      subst B O
      cases rx;cases ry
      refine oneLt_int ?_;rw[<-iG];exact y4 r
     ·have z:(b&&i==0)=VP:=by simpa using z
      rw[z];exact vU G rx ry ld le hd hu (y4 r)
   ·have B:=jf G
    cases O:cy xs ys with
    |some b=>rw[O]at B;dsimp only at B;rw[B]at q;exact y4 q
    |none=>rw[O]at B;dsimp only at B;rw[B]at q;have n1:=cb J;have n2:=cb L;refine y4 ?_;simp only[Lm]at n1 n2;rw[n1,n2];exact q
end
end Srt
namespace Srt
structure qb(n:Nat)(ds:List Mr):Prop where
 cmp:∀d∈ds,∀e∈ds,Cmpb d e
 lay:∀d∈ds,d.canLay0=N3/\d.depth<=n
 kind:(∀d∈ds,∃i,d=.int i)∨(∀d∈ds,∃i xs,d=.tuple (.int i::xs))∨(∀d∈ds,∃ys xs,d=.tuple (.tuple ys::xs))
noncomputable def cP(h:Heap):i3->Option i3
 |.ref a=>(h.get? a).bind λo=>match o.data with|.seq xs _=>xs[0]?|_=>Y
 |_=>Y
variable{vs:List i3}{h:Heap}{v:i3}
section
variable{prog:Lb}{w:Ly}{A:LD}{E:i3->r0->Prop}{s:r0}
noncomputable def dF(h:Heap)(x:KI):Ky:=toK (MY h x.1)
def RdL(h:Heap)(vs:List i3)(ds:List Mr):Prop:=∀v∈vs,∃d∈ds,∃as,Pq h v d as
theorem i4{arr:Array i3}{T:String}(h0:0<arr.size)(h:∀v∈arr.toList,∀R:i3->r0->Prop,R (.type T) s->KU (La prog w) A (typeOf v) R E s){Q:Option i3->r0->Prop}(q:Q (Z (.type T)) s):KU (La prog w) A (oneTypeOnly' arr) Q E s:=by
 rw[oneTypeOnly'_eq];refine gV (eV (g:=λ_=>LK T) h ?_);have e:(Qp (λ_=>LK T) arr)[0]?=Z (LK T):=by rw[Array.getElem?_map,LA h0];rfl
 rw[e];dsimp only;have j:((Qp (λ_=>LK T) arr).all λx=>x==LK T)=N3:=by rw[Ud];intro i hi;simp
 rw[j];exact y4 q
theorem u7{n:Nat}{kd:Pt}{ds:List Mr}(j:RdL s.heap vs ds)(hs:qb n ds)(h:∀(x y:i3) (d e:Mr) (as bs:List VQ) (E:i3->r0->Prop) (Q:Bool->r0->Prop),d∈ds->e∈ds->Pq s.heap x d as->Pq s.heap y e bs->Q (ltK (toK d) (toK e)) s->KU (La prog w) A (keyLt' kd x y) Q E s):
 Cm prog w A s kd (λx=>x.1∈vs) (λx y=>ltK (dF s.heap x) (dF s.heap y)) where
 asym:=λx y=>qa _ _
 neg:=λx y z=>Bj _ _ _
 run:=λx y E Q hx B q=>by obtain⟨d,hd,as,ra⟩:=j _ hx;obtain⟨e,he,bs,rb⟩:=j _ B;have F:=NF (hs.lay d hd).1 ra;have G:=NF (hs.lay e he).1 rb;unfold dF at q;rw[F,G]at q;exact h _ _ d e as bs E Q hd he ra rb q
theorem qc(j:∀v∈vs,∃u,cP h v=Z u):((vs.toArray.map (cP h)).all λx=>x.isSome)=N3:=by rw[Ud];intro i hi;simp at hi;obtain⟨u,z⟩:=j vs[i] (Oz hi);simp[z]
theorem vW{x:i3}(hx:x∈(UX id (vs.toArray.map (cP h))).toList):∃v∈vs,cP h v=Z x:=by simp at hx;exact hx
theorem vX{u:i3}(j:cP h v=Z u):0<(UX id ((v::vs).toArray.map (cP h))).size:=by rw[<-Lm];simp[j]
theorem ng{d:Mr}{xs:List Mr}{as:List VQ}(r:Pq h v (.tuple (d::xs)) as):∃a o u us n bs,v=.ref a/\h.get? a=Z o/\o.cls=.type "tuple"/\o.data=.seq (u::us).toArray n/\Pq h u d bs:=by
 cases r with
 |@tuple a o vs n xs as h1 h2 j h4=>
  generalize z:vs.toList=vl at h4
  cases h4 with
  |@cons u us _ _ bs _ B p2=>exact⟨_,_,u,us,n,bs,rfl,h1,h2,by rw[j];congr 1;apply Qo.mp;simpa using z,B⟩
theorem F9{n:Nat}{ds:List Mr}(F2:RdL s.heap (v::vs) ds)(hs:qb n ds)(z:A.units+n+1<Oa):
 ∃kd,(∀(E:i3->r0->Prop) (Q:Pt->r0->Prop),Q kd s->KU (La prog w) A (keyKind' (v::vs).toArray) Q E s)/\Cm prog w A s kd (λx=>x.1∈v::vs) (λx y=>ltK (dF s.heap x) (dF s.heap y)):=by
 rcases hs.kind with J|J|J
 ·refine⟨oneType',λE Q q=>?_,u7 F2 hs λx y d e as bs E Q hd he ra rb q=>?_⟩
  ·have hint:∀u∈v::vs,∃i t,u=.int i t:=fun u z=>by
    obtain⟨d,hd,as,ra⟩:=F2 u z;obtain⟨i,rfl⟩:=J d hd
    cases ra
    exact⟨_,_,rfl⟩
   rw[UN];refine gV (eV (g:=λ_=>(Y:Option i3)) (λu z R r=>?_) ?_)
   ·obtain⟨i,t,rfl⟩:=hint u (by simpa using z)
    rw[firstOfTuple'_int];exact y4 r
   ·have fv:((Qp (fun _=>(Y:Option i3)) (v::vs).toArray).all fun x=>x.isSome)=VP:=by
     simp
    rw[fv];have B:((Qp (λ_=>(Y:Option i3)) (v::vs).toArray)[0]?.bind id).isSome=VP:=by simp
    simp only[B,MB,if_false];refine gV (i4 (T:="int") (by simp) (λu z R r=>?_) ?_)
    ·obtain⟨i,t,rfl⟩:=hint u (by simpa using z)
     exact y4 r
    ·exact y4 q
  ·obtain⟨i,rfl⟩:=J d hd;obtain⟨j,rfl⟩:=J e he
   cases ra;cases rb
   rw[keyLt'_oneType];exact oneLt_int (by rw[<-iG];exact q)
 ·refine⟨tuples' N3,λE Q q=>?_,u7 F2 hs λx y d e as bs E Q hd he ra rb q=>?_⟩
  ·have hf:∀u∈v::vs,∃a o i t us n,u=.ref a/\s.heap.get? a=Z o/\o.cls=.type "tuple"/\o.data=.seq (.int i t::us).toArray n:=fun u z=>by
    obtain⟨d,hd,as,ra⟩:=F2 u z;obtain⟨i,xs,rfl⟩:=J d hd;obtain⟨a,o,u1,us,n,bs,fv,B,L,G,O⟩:=ng ra
    cases O
    exact⟨a,o,_,_,us,n,fv,B,L,G⟩
   have F:∀u∈v::vs,∃i t,cP s.heap u=Z (.int i t):=λu z=>by obtain⟨a,o,i,t,us,n,rfl,B,L,G⟩:=hf u z;exact⟨i,t,by simp[cP,B,G]⟩
   rw[UN];refine gV (eV (g:=cP s.heap) (λu z R r=>?_) ?_)
   ·obtain⟨a,o,i,t,us,n,rfl,B,L,G⟩:=hf u (by simpa using z)
    refine n8 B L G ?_;simpa[cP,B,G]using r
   ·rw[qc (λu z=>let⟨i,t,e⟩:=F u z; ⟨_,e⟩)];refine gV (Nl ?_);obtain⟨i0,t0,e0⟩:=F v (by simp)
    refine gV (i4 (T:="int") (vX e0) (λu z R r=>?_) ?_)
    ·obtain⟨u',U,e⟩:=vW z;obtain⟨i,t,e'⟩:=F u' U;rw[e']at e;cases e;exact y4 r
    ·exact y4 q
  ·obtain⟨i,xs,rfl⟩:=J d hd;obtain⟨j,ys,rfl⟩:=J e he;have l1:=hs.lay _ hd;have l2:=hs.lay _ he;refine n9 (n:=n) (λ_ d e hd he=>?_) (hs.cmp _ hd _ he) ra rb (by simpa[Q4]using l1.1) (by simpa[Q4]using l2.1) (by have:=l1.2;simp[OJ]at this;lia) z q
   simp at hd he;subst hd he;exact⟨⟨_,rfl⟩,_,rfl⟩
 ·refine⟨tuples' VP,λE Q q=>?_,u7 F2 hs λx y d e as bs E Q hd he ra rb q=>?_⟩
  ·have hf:∀u∈v::vs,∃a o b ob us n,u=.ref a/\s.heap.get? a=Z o/\o.cls=.type "tuple"/\o.data=.seq (.ref b::us).toArray n/\s.heap.get? b=Z ob/\ob.cls=.type "tuple":=fun u z=>by
    obtain⟨d,hd,as,ra⟩:=F2 u z;obtain⟨ys,xs,rfl⟩:=J d hd;obtain⟨a,o,u1,us,n,bs,fv,B,L,G,O⟩:=ng ra
    cases O with
    |tuple h1 h2 h3 h4=>exact⟨a,o,_,_,us,n,fv,B,L,G,h1,h2⟩
   have F:∀u∈v::vs,∃b ob,cP s.heap u=Z (.ref b)/\s.heap.get? b=Z ob/\ob.cls=.type "tuple":=λu z=>by obtain⟨a,o,b,ob,us,n,rfl,B,L,G,O,e6⟩:=hf u z;exact⟨b,ob,by simp[cP,B,G],O,e6⟩
   rw[UN];refine gV (eV (g:=cP s.heap) (λu z R r=>?_) ?_)
   ·obtain⟨a,o,b,ob,us,n,rfl,B,L,G,O,e6⟩:=hf u (by simpa using z)
    refine n8 B L G ?_;simpa[cP,B,G]using r
   ·rw[qc (λu z=>let⟨i,t,e,_⟩:=F u z; ⟨_,e⟩)];refine gV (Nl ?_);obtain⟨i0,t0,e0,_⟩:=F v (by simp)
    refine gV (i4 (T:="tuple") (vX e0) (λu z R r=>?_) ?_)
    ·obtain⟨u',U,e⟩:=vW z;obtain⟨b,ob,e',O,e6⟩:=F u' U;rw[e']at e;cases e;exact Bk O e6 r
    ·exact y4 q
  ·obtain⟨zs,xs,rfl⟩:=J d hd;obtain⟨zs',ys,rfl⟩:=J e he;have l1:=hs.lay _ hd;have l2:=hs.lay _ he;exact n9 (n:=n) (λh=>by cases h) (hs.cmp _ hd _ he) ra rb (by simpa[Q4]using l1.1) (by simpa[Q4]using l2.1) (by have:=l1.2;simp[OJ]at this;lia) z q
end
end Srt
namespace Srt
inductive Pl:Mr->Prop where
 |int (i:Int):Pl (.int i)
 |tup (xs:List Mr):(∀x∈xs,Pl x)->Pl (.tuple xs)
theorem be{h h':Heap}(k:∀b o,h.get? b=Z o->o.cls=.type "tuple"->h'.get? b=Z o){d:Mr}(p:Pl d):∀{v:i3} {as:List VQ},Pq h v d as->Pq h' v d as:=by
 induction p with
 |int i=>intro v as r;cases r;exact .int _ _
 |tup xs hx ih=>
  intro v as r
  cases r with
  |tuple h1 h2 z B=>
   refine .tuple (k _ _ h1 h2) h2 z ?_;have g:∀(xs:List Mr),(∀x∈xs,∀{v:i3} {as:List VQ},Pq h v x as->Pq h' v x as)->∀(vs:List i3) (as:List VQ),SU h vs xs as->SU h' vs xs as:=by
    intro xs
    induction xs with
    |nil=>intro _ vs as r;cases r;exact .nil
    |cons x xs ihx=>
     intro j vs as r
     cases r with
     |cons F p2=>exact .cons (j x (by simp) F) (ihx (λy G=>j y (by simp[G])) _ _ p2)
   exact g xs ih _ _ B
section
variable{prog:Lb}{w:Ly}{A:LD}{E:i3->r0->Prop}{s:r0}
theorem yQ{α:Type}{R:α->α->Prop}:∀{l:List α},l.length<2->l.Pairwise R
 |[],_=>.nil
 |[_],_=>List.pairwise_singleton _ _
theorem Bl{α:Type}:∀{l:List α},2<=l.length->∃x r,l=x::r
 |x::r,_=>⟨x,r,rfl⟩
theorem Bm{cap:Nat}(S:fJ cap){m:Nat}{a:VQ}{vs:List i3}{n:Nat}{ds:List Mr}(ha:s.heap.get? a=Z (TK "list" vs.toArray n))(F2:RdL s.heap vs ds)(hs:qb m ds)(hp:∀d∈ds,Pl d)(hl:vs.length<=KJ)(Iv:vs.length<=cap)(hu:A.units+m+1<Oa){Q:PySem.Fin->r0->Prop}(q:∀(h':Heap) (out:List i3) (n':Nat),(∀b o,b≠a->s.heap.get? b=Z o->h'.get? b=Z o)->h'.get? a=Z (TK "list" out.toArray n')->out.Perm vs->out.Pairwise (λx y=>ltK (toK (MY s.heap y)) (toK (MY s.heap x))=VP)->Q (.done (.ret .none)) {s with heap:=h'}):
 KU (La prog w) A (N9.«list.sort» ⟨[.ref a],[]⟩) Q E s:=by
 rw[list_sort_plain];refine gV (Uc ha rfl ?_);refine gV (Ov ha rfl ?_ (by simpa using hl) (by simp))
 have g1:=NG ha (λ_=>#[]);generalize Iw:s.heap.update a (Na λ_=>#[])=h1 at g1;generalize (if((#[]:Array i3).size==vs.toArray.size)=N3 then n else n+1)=n1 at g1
 refine gV (UO g1 rfl ?_);refine gV (PX ?_ (by simpa using hl))
 refine gV (Qr ?_ (by simp))
 refine LU ?_;dsimp only;generalize O:({heap:=(h1.push {cls:=LK "tuple",data:=OU vs.toArray.toList.toArray}).push {cls:=LK "list",data:=OU [].toArray},gens:=s.gens,drawn:=s.drawn,toks:=s.toks,os:=s.os}:r0)=s3;have g3:s3.heap.get? a=Z (TK "list" #[] n1):=by rw[<-O];exact p0 _ (p0 _ g1)
 have keep:∀b o,b≠a->s.heap.get? b=Z o->s3.heap.get? b=Z o:=λb o G J=>by rw[<-O,<-Iw];exact p0 _ (p0 _ (by rw[LR _ _ _ _ G];exact J))
 have keepT:∀b o,s.heap.get? b=Z o->o.cls=.type "tuple"->s3.heap.get? b=Z o:=λb o G hc=>keep b o (λz=>by rw[z,ha]at G;cases G;simp at hc) G
 have Ix:RdL s3.heap vs ds:=λv hv=>by obtain⟨d,hd,as,r⟩:=F2 v hv;exact⟨d,hd,as,be keepT (hp d hd) r⟩
 have same:∀v∈vs,MY s3.heap v=MY s.heap v:=λv hv=>by obtain⟨d,hd,as,r⟩:=F2 v hv;rw[NF (hs.lay d hd).1 r,NF (hs.lay d hd).1 (be keepT (hp d hd) r)]
 have q:∀(h':Heap) (out:List i3) (n':Nat),(∀b o,b≠a->s.heap.get? b=Z o->h'.get? b=Z o)->h'.get? a=Z (TK "list" out.toArray n')->out.Perm vs->out.Pairwise (λx y=>ltK (toK (MY s.heap y)) (toK (MY s.heap x))=VP)->Q (.done (.ret .none)) {s3 with heap:=h'}:=by rw[<-O];exact q
 have Iz:∀A':LD,A'.units=A.units->True:=λ_ _=>trivial;clear O
 let Good:LW->Prop:=λst'=>Nc st'=Y/\(Lq st').toList.Perm (vs.zip vs)/\(Lq st').toList.Pairwise (λx y=>ltK (dF s3.heap y) (dF s3.heap x)=VP)
 by_cases F:vs.toArray.size<2
 ·rw[if_pos F,if_pos F];refine gV (y4 ?_);have B:vs.length<2:=by simpa using F
  have run:KU (La prog w) A ((pure ():StateT LW Sem Unit).run (Qn general' (vs.toArray.zip vs.toArray) #[] 7 Y)) (λr s'=>s'=s3/\Good r.2) E s3:=by
   refine y4 ⟨rfl,rfl,?_,?_⟩
   ·show(vs.toArray.zip vs.toArray).toList.Perm _;simp
   ·show List.Pairwise _ (vs.toArray.zip vs.toArray).toList;exact yQ (by simpa using B)
  refine gV (Mj (Q:=λr s'=>s'=s3/\Good r.2) run (λr s' F2=>?_) (λ_ _ z=>z));obtain⟨rfl,L,j,U⟩:=F2;obtain⟨u,st'⟩:=r;refine gV (UO g3 rfl ?_);refine gV (Ov g3 rfl ?_ (by simp) (by simp only[Array.size_map];have:=j.length_eq;simp at this;rw[this];lia))
  dsimp only at L;rw[L];simp only[bne_self_eq_false,MB,if_false];refine y4 ?_;have gq:=NG g3 (λ_=>Qp (λx=>x.snd) (Lq st'));have eo:Qp (λx=>x.snd) (Lq st')=((Lq st').toList.map λx=>x.snd).toArray:=by apply Qo.mp;simp
  refine q _ ((Lq st').toList.map λx=>x.snd) _ (λb o G J=>?_) (by rw[gq,eo]) ?_ ?_
  ·rw[LR _ _ _ _ G];exact keep b o G J
  ·have fv:=j.map (λx:KI=>x.snd);rw[Uz (by simp)]at fv
   exact fv
  ·rw[Mg];refine U.imp_of_mem λ{x y} hx hy hxy=>?_;have mx:=QO (j.mem_iff.mp hx);have my:=QO (j.mem_iff.mp hy);unfold dF at hxy;rw[mx.1,my.1,same y.2 (by rw[<-my.1];exact my.2),same x.2 (by rw[<-mx.1];exact mx.2)]at hxy
   exact hxy
 ·rw[if_neg F,if_neg F];have B:2<=vs.length:=by simpa using F
  obtain⟨v0,Iy,Iq⟩:=Bl B;obtain⟨kd,Ir,Is⟩:=F9 (prog:=prog) (w:=w) (A:=A) (v:=v0) (vs:=Iy) (by rw[<-Iq];exact Ix) hs hu
  rw[<-Iq]at Ir Is;refine gV (Ir E _ ?_);have run:KU (La prog w) A (sortRuns'.run (Qn kd (vs.toArray.zip vs.toArray) #[] 7 Y)) (λr s'=>s'=s3/\Good r.2) E s3:=by
   have ez:(Lq (Qn kd (vs.toArray.zip vs.toArray) #[] 7 Y)).toList=vs.zip vs:=by show(vs.toArray.zip vs.toArray).toList=_;simp
   have h9:wpS (La prog w) A E s3 sortRuns' (λ_ st'=>Good st') (Qn kd (vs.toArray.zip vs.toArray) #[] 7 Y):=by
    have Iu:(Lq (Qn kd (vs.toArray.zip vs.toArray) #[] 7 Y)).size=vs.length:=by rw[<-Lm,ez];simp
    refine S _ _ _ _ _ _ _ _ Is (Qn kd (vs.toArray.zip vs.toArray) #[] 7 Y) _ rfl rfl rfl (λx hx=>?_) (by rw[Iu];exact B) (by rw[Iu];exact Iv) λst' p1 p2 p3=>⟨p3,by rw[ez]at p1;exact p1,p2⟩
    rw[ez]at hx;exact(QO hx).2
   exact h9
  refine gV (Mj (Q:=λr s'=>s'=s3/\Good r.2) run (λr s' F2=>?_) (λ_ _ z=>z));obtain⟨rfl,L,j,U⟩:=F2;obtain⟨u,st'⟩:=r;refine gV (UO g3 rfl ?_);refine gV (Ov g3 rfl ?_ (by simp) (by simp only[Array.size_map];have:=j.length_eq;simp at this;rw[this];lia))
  dsimp only at L;rw[L];simp only[bne_self_eq_false,MB,if_false];refine y4 ?_;have gq:=NG g3 (λ_=>Qp (λx=>x.snd) (Lq st'));have eo:Qp (λx=>x.snd) (Lq st')=((Lq st').toList.map λx=>x.snd).toArray:=by apply Qo.mp;simp
  refine q _ ((Lq st').toList.map λx=>x.snd) _ (λb o G J=>?_) (by rw[gq,eo]) ?_ ?_
  ·rw[LR _ _ _ _ G];exact keep b o G J
  ·have fv:=j.map (λx:KI=>x.snd);rw[Uz (by simp)]at fv
   exact fv
  ·rw[Mg];refine U.imp_of_mem λ{x y} hx hy hxy=>?_;have mx:=QO (j.mem_iff.mp hx);have my:=QO (j.mem_iff.mp hy);unfold dF at hxy;rw[mx.1,my.1,same y.2 (by rw[<-my.1];exact my.2),same x.2 (by rw[<-mx.1];exact mx.2)]at hxy
   exact hxy
theorem u8(u:i3):checkBuiltinCall "sorted" ⟨[u],[]⟩=pure ():=by kernel_rfl
theorem nh{cap:Nat}(S:fJ cap){m:Nat}{u:i3}{ds:List Mr}{C:Heap->List i3->Prop}{Q:i3->r0->Prop}(hu:A.units+m+3<Oa)(hs:qb m ds)(F:∀d∈ds,Pl d)(G:∀(E:i3->r0->Prop) (R:List i3->r0->Prop),(∀(h':Heap) (vs':List i3) (t':Nat),C h' vs'->RdL h' vs' ds->vs'.length<=KJ/\vs'.length<=cap->s.toks<=t'->R vs' {s with heap:=h',toks:=t'})->KU (La prog w) A.in1 (collect u) R E s)(q:∀(h1 h2:Heap) (vs out:List i3) (n' t':Nat),C h1 vs->(∀b o,h1.get? b=Z o->h2.get? b=Z o)->h2.get? h1.objs.size=Z (TK "list" out.toArray n')->out.Perm vs->out.Pairwise (λx y=>ltK (toK (MY h2 y)) (toK (MY h2 x))=VP)->RdL h2 out ds->vs.length<=KJ->s.toks<=t'->Q (.ref h1.objs.size) {s with heap:=h2,toks:=t'}):
 KU (La prog w) A (call (.builtin "sorted") [u]) Q E s:=by
 refine Tx (codeAny_call_builtin plain_sorted entry_sorted (P5 (u8 u) ?_));unfold Builtin.sorted;refine gV (P5 (a:=()) (by kernel_rfl) ?_)
 refine gV (G _ _ λh1 vs t' hC L J ht=>?_);obtain⟨J,O⟩:=J;refine gV (Qr ?_ J);refine gV (LU ?_);have U:RdL (h1.push {cls:=LK "list",data:=OU vs.toArray}) vs ds:=λv B=>by obtain⟨d,hd,as,r⟩:=L v B;exact⟨d,hd,as,be (λb o z _=>p0 _ z) (F d hd) r⟩
 have ha:(h1.push {cls:=LK "list",data:=OU vs.toArray}).get? h1.objs.size=Z (TK "list" vs.toArray 0):=KG _ rfl;refine LB slot_list_sort (T:="list") ⟨_,ha,rfl⟩ entry_list_sort ?_ (args_list_sort _);refine Bm S (m:=m) ha U hs F J O (by show A.units+1+1+m+1<Oa;lia) λh2 out n' keep g2 j F2=>⟨_,rfl,y4 ?_⟩
 have old:∀b o,h1.get? b=Z o->h2.get? b=Z o:=λb o z=>keep b o (Lc (z4 z)) (p0 _ z);have fv:RdL h2 vs ds:=λv B=>by obtain⟨d,hd,as,r⟩:=L v B;exact⟨d,hd,as,be (λb o z _=>old b o z) (F d hd) r⟩
 refine q h1 h2 vs out n' t' hC old g2 j ?_ (λv B=>fv v (j.mem_iff.mp B)) J ht;have same:∀v∈vs,MY (h1.push {cls:=LK "list",data:=OU vs.toArray}) v=MY h2 v:=λv B=>by obtain⟨d,hd,as,r⟩:=L v B;rw[NF (hs.lay d hd).1 (be (λb o z _=>old b o z) (F d hd) r),NF (hs.lay d hd).1 (be (λb o z _=>p0 _ z) (F d hd) r)]
 refine F2.imp_of_mem λ{x y} hx hy hxy=>?_;rw[same y (j.mem_iff.mp hy),same x (j.mem_iff.mp hx)]at hxy;exact hxy
end
end Srt
namespace It
noncomputable def iO(f0:i3)(b:Bool)(d:VQ)(i n ep:Nat)(ok ov:i3):Obj:={cls:=.type "dict_itemiterator",data:=.fields #[f0,.bool b,.ref d,.int i 0,.int n 0,.int ep 0,ok,ov]}
theorem slot_next:Slot "dict_itemiterator" "__next__" "dict_itemiterator.__next__":=.of (owner:="dict_itemiterator") (n:="__next__") (by rw[typeLookup_type,SF];kernel_rfl) (by decide +kernel) (by decide +kernel) (by decide +kernel) (.inl (by decide +kernel)) (by rw[Q3];kernel_rfl)
theorem cj:entryFor table "dict_itemiterator.__next__"=Z N9.«dict_itemiterator.__next__»:=UA (by kernel_rfl)
theorem cE(a:i3):argsOk "dict_itemiterator.__next__" ⟨[a],[]⟩:=by unfold argsOk;kernel_rfl
theorem kg:mroOf (.type "dict_itemiterator")=pure [.type "dict_itemiterator",.type "object"]:=by rw[mroOf_type];kernel_rfl
variable{a it d:VQ}{b:Bool}{i ep:Nat}{ov:i3}{oa:Obj}
section
variable{prog:Lb}{w:Ly}{A:LD}{E:i3->r0->Prop}{s:r0}
theorem yR{M:Qf}{Q:Option Obj->r0->Prop}(q:Q (s.heap.get? a) s):KU M A (loadIfAlive a) Q E s:=λΓ p hp=>by show Sem.wp M Γ (Sem.loadIfAlive a Sem.pure) _ _ p s;rw[Sem.wp_loadIfAlive];exact q
theorem cQ(ty:s.TypeIs (.ref it) "dict_itemiterator"){types:List String}{Q:Bool->r0->Prop}(q:Q (types.any λt=>[LK "dict_itemiterator",LK "object"].contains (LK t)) s):KU (model prog w) A (NY (.ref it) types) Q E s:=by
 have hm:=kg;unfold NY
 wp_walk
 exact q
theorem vY{n:Nat}{ok:i3}{Q:Bool->r0->Prop}(hi:s.heap.get? it=Z (iO (Nm a) b d i n ep ok ov))(j:s.heap.get? a=Z oa)(q:∀h',h'.get? it=Z (iO (Nm a) N3 d i n ep ok ov)->My it s.heap h'->Q VP {s with heap:=h'}):KU (model prog w) A (NO (.ref it)) Q E s:=by
 unfold NO;refine gV (LG hi rfl (x:=Nm a) rfl ?_);refine gV (yR ?_);rw[show((a:Int)).toNat=a from KO a,j];dsimp only;rw[if_neg (by simp)]
 refine gV (LG hi rfl (x:=.bool b) rfl ?_)
 cases b with
 |true=>
  rw[if_neg (by decide)]
  exact y4 (q s.heap hi (Heap.SameBut.refl ..))
 |false=>
  rw[if_pos (by decide)]
  refine gV (Li hi (by simp) λh' e' s'=>?_)
  exact y4 (q h' e' s')
theorem vZ{n:Nat}{ok k v:i3}{Q:i3->r0->Prop}(hi:s.heap.get? it=Z (iO (Nm a) b d i n ep ok ov))(z:s.heap.get? a=Z oa)(q:∀h',h'.get? it=Z (iO (Nm a) N3 d i n ep ok ov)->h'.get? s.heap.objs.size=Z {cls:=.type "tuple",data:=.seq #[k,v]}->(∀b o,b≠it->s.heap.get? b=Z o->h'.get? b=Z o)->Q (.ref s.heap.objs.size) {s with heap:=h'}):KU (model prog w) A (Nh (.ref it) 6 k v) Q E s:=by
 unfold Nh;refine gV (PX ?_ (by size_fits))
 have j:=z4 hi;refine gV (vY (a:=a) (oa:=oa) (p0 _ hi) (p0 _ z) λh' e' s'=>?_);dsimp only;rw[if_neg (by simp)]
 refine y4 (q h' e' ?_ λb o B e=>?_)
 ·exact s'.extBut _ _ (Ml j) (KG _ rfl)
 ·exact s'.extBut _ _ B (p0 _ e)
theorem Bn{ok cd:i3}{dd:Option VQ}{sl:Array (Option i3)}{es:Array Md}{e:Md}{Q:Option i3->r0->Prop}(hi:s.heap.get? it=Z (iO (Nm a) b d i es.size ep ok ov))(F:a≠it)(O:s.heap.get? a=Z oa)(hd:s.heap.get? d=Z {cls:=cd,dict:=dd,data:=.dict es ep,slots:=sl})(he:es[i]?=Z e)(q:∀h',h'.get? it=Z (iO (Nm a) N3 d (i+1) es.size ep ok ov)->h'.get? s.heap.objs.size=Z {cls:=.type "tuple",data:=.seq #[e.key,e.val]}->(∀b o,b≠it->s.heap.get? b=Z o->h'.get? b=Z o)->Q (Z (.ref s.heap.objs.size)) {s with heap:=h'}):KU (model prog w) A (NS (.ref it)) Q E s:=by
 have ty:s.TypeIs (.ref it) "dict_itemiterator":=⟨_,hi,rfl⟩;unfold NS;refine gV (NN (Lr (name:=Ll "__next__") ty slot_next (LB slot_next ty cj ?_ (cE _))));unfold N9.«dict_itemiterator.__next__»;have hm:=kg
 wp_walk
 dsimp only;rw[if_neg (by simp)]
 wp_walk
 simp only[KO,he];refine gV (Mj (Q:=λn s'=>n=2/\s'=s) ?_ (λn s' hs=>?_) λ_ _ z=>z)
 ·wp_walk
  exact⟨by kernel_rfl,rfl⟩
 obtain⟨rfl,rfl⟩:=hs;refine gV (cQ ty ?_);refine gV (Li hi (by simp) λh1 j s1=>?_)
 refine gV (LU ?_);have B:Tj {s' with heap:=h1} (.ref it) "dict_itemiterator":=⟨_,j,rfl⟩
 refine gV (cQ B ?_);rw[if_neg (by decide +kernel)]at j
 have j:h1.get? it=Z (iO (Nm a) b d (i+1) es.size ep ok ov):=j;have hsz:h1.objs.size=s'.heap.objs.size:=s1.1;have G:h1.get? a=Z oa:=s1.extBut a oa F O;refine OR (by decide +kernel) ?_
 refine gV (cQ B ?_);refine OR (by decide +kernel) ?_
 refine vZ (s:={s' with heap:=h1}) j G λh2 U J F2=>?_
 refine y4 ⟨_,rfl,y4 ?_⟩;dsimp only at J⊢;rw[hsz]at J⊢;exact q h2 U J λb o L e=>F2 b o L (s1.extBut b o L e)
theorem nx_end{f0 ok cd:i3}{dd:Option VQ}{sl:Array (Option i3)}{es:Array Md}{Q:Option i3->r0->Prop}(j:A.handled=Y)(hi:s.heap.get? it=Z (iO f0 b d es.size es.size ep ok ov))(hd:s.heap.get? d=Z {cls:=cd,dict:=dd,data:=.dict es ep,slots:=sl})(q:∀h',(∀b o,b≠it->s.heap.get? b=Z o->h'.get? b=Z o)->Q Y {s with heap:=h'}):KU (model prog w) A (NS (.ref it)) Q E s:=by
 have ty:s.TypeIs (.ref it) "dict_itemiterator":=⟨_,hi,rfl⟩;unfold NS;refine gV (NN (Lr (name:=Ll "__next__") ty slot_next (LB slot_next ty cj ?_ (cE _))));unfold N9.«dict_itemiterator.__next__»;have hm:=kg
 wp_walk
 dsimp only;rw[if_neg (by simp)]
 wp_walk
 have he:es[es.size]?=Y:=OK (L3 _);simp only[KO,he];refine gV (Mj (Q:=λn s'=>n=2/\s'=s) ?_ (λn s' hs=>?_) λ_ _ z=>z)
 ·wp_walk
  exact⟨by kernel_rfl,rfl⟩
 obtain⟨rfl,rfl⟩:=hs;refine gV (Li hi (by simp) λh1 F s1=>?_)
 refine gV (m:=Vb (.type "StopIteration") []) ?_;simp only[Vb,Vc];refine gV (Ms ?_ (by size_fits))
 refine gV (m:=P7 _ _) (P5 (a:=MZ) (by first|rfl|(simp only[P7];rfl)) (Ms ?_ (by size_fits)))
 simp only[raiseNew];refine gV (Ti ?_)
 first|rw[show A.in1.handled=Y from j]|rw[j]
 refine gV (y4 (UL ?_));exact gV (Ox (T:="StopIteration") (b:=N3) ⟨_,KG _ rfl,rfl⟩ R0 (y4 (q _ λb o B e=>p0 _ (p0 _ (s1.extBut b o B e)))))
end
end It
namespace It
variable{it d:VQ}{ep:Nat}
section
variable{prog:Lb}{w:Ly}{A:LD}{E:i3->r0->Prop}{s:r0}
theorem w4{i n:Nat}{k v:i3}{Q:i3->r0->Prop}(hi:s.heap.get? it=Z (iO .none VP d i n ep .none .none))(q:∀h',h'.get? it=Z (iO (Nm s.heap.objs.size) VP d i n ep k v)->h'.get? s.heap.objs.size=Z {cls:=.type "tuple",data:=.seq #[k,v]}->(∀b o,b≠it->s.heap.get? b=Z o->h'.get? b=Z o)->Q (.ref s.heap.objs.size) {s with heap:=h'}):KU (model prog w) A (Nh (.ref it) 6 k v) Q E s:=by
 unfold Nh;refine gV (PX ?_ (by size_fits))
 have B:=z4 hi;have j:=p0 ({cls:=.type "tuple",data:=.seq [k,v].toArray}) hi;unfold NO;refine gV (gV (LG j rfl (x:=.none) rfl (y4 ?_)));dsimp only;rw[if_pos rfl];refine gV (LG j rfl (x:=.none) rfl ?_);refine gV (LG j rfl (x:=.none) rfl ?_);refine gV (Li j (by simp) λh1 G s1=>?_)
 refine gV (Li G (by simp) λh2 J s2=>?_)
 refine gV (Li J (by simp) λU L s3=>?_)
 refine gV (Li L (by simp) λF O s4=>?_)
 refine gV (Rp ?_);have kp:∀b o,b≠it->(s.heap.push {cls:=.type "tuple",data:=.seq [k,v].toArray}).get? b=Z o->F.get? b=Z o:=λb o z e=>s4.extBut b o z (s3.extBut b o z (s2.extBut b o z (s1.extBut b o z e)));refine y4 (q F O (kp _ _ (Ml B) (KG _ rfl)) λb o z e=>kp b o z (p0 _ e))
theorem Bo{i:Nat}{cd:i3}{dd:Option VQ}{sl:Array (Option i3)}{es:Array Md}{e:Md}{Q:Option i3->r0->Prop}(hi:s.heap.get? it=Z (iO .none VP d i es.size ep .none .none))(hd:s.heap.get? d=Z {cls:=cd,dict:=dd,data:=.dict es ep,slots:=sl})(he:es[i]?=Z e)(q:∀h',h'.get? it=Z (iO (Nm s.heap.objs.size) VP d (i+1) es.size ep e.key e.val)->h'.get? s.heap.objs.size=Z {cls:=.type "tuple",data:=.seq #[e.key,e.val]}->(∀b o,b≠it->s.heap.get? b=Z o->h'.get? b=Z o)->Q (Z (.ref s.heap.objs.size)) {s with heap:=h'}):KU (model prog w) A (NS (.ref it)) Q E s:=by
 have ty:s.TypeIs (.ref it) "dict_itemiterator":=⟨_,hi,rfl⟩;unfold NS;refine gV (NN (Lr (name:=Ll "__next__") ty slot_next (LB slot_next ty cj ?_ (cE _))));unfold N9.«dict_itemiterator.__next__»;have hm:=kg
 wp_walk
 dsimp only;rw[if_neg (by simp)]
 wp_walk
 simp only[KO,he];refine gV (Mj (Q:=λn s'=>n=2/\s'=s) ?_ (λn s' hs=>?_) λ_ _ z=>z)
 ·wp_walk
  exact⟨by kernel_rfl,rfl⟩
 obtain⟨rfl,rfl⟩:=hs;refine gV (cQ ty ?_);refine gV (Li hi (by simp) λh1 j s1=>?_)
 refine gV (LU ?_);have B:Tj {s' with heap:=h1} (.ref it) "dict_itemiterator":=⟨_,j,rfl⟩
 refine gV (cQ B ?_);rw[if_neg (by decide +kernel)]at j
 have j:h1.get? it=Z (iO .none VP d (i+1) es.size ep .none .none):=j;have hsz:h1.objs.size=s'.heap.objs.size:=s1.1;refine OR (by decide +kernel) ?_
 refine gV (cQ B ?_);refine OR (by decide +kernel) ?_
 refine w4 (s:={s' with heap:=h1}) j λh2 F G L=>?_
 refine y4 ⟨_,rfl,y4 ?_⟩;dsimp only at F G⊢;rw[hsz]at F G⊢;exact q h2 F G λb o J e=>L b o J (s1.extBut b o J e)
structure G9(h0:Heap)(s:r0)(it d:VQ)(es:Array Md)(ep i:Nat)(acc:Array i3):Prop where
 dict:∃cd dd sl,s.heap.get? d=Z {cls:=cd,dict:=dd,data:=.dict es ep,slots:=sl}
 iter:(i=0/\s.heap.get? it=Z (iO .none VP d 0 es.size ep .none .none))∨(1<=i/\∃(a:VQ) (b:Bool) (ok ov:i3) (oa:Obj),s.heap.get? it=Z (iO (Nm a) b d i es.size ep ok ov)/\a≠it/\s.heap.get? a=Z oa/\oa.cls=.type "tuple")
 size:acc.size=i
 nd:acc.toList.Nodup
 item:∀j,j<i->∃t e,acc[j]?=Z (.ref t)/\es[j]?=Z e/\s.heap.get? t=Z {cls:=.type "tuple",data:=.seq #[e.key,e.val]}/\h0.get? t=Y
theorem Bp(hn:A.handled=Y){S:VQ}{es:Array Md}{res:i3}{R:V4->r0->Prop}(G:S≠it)(Iv:S≠d)(Iw:it≠d)(hz:es.size<=KJ)(h0:Heap)(Iz:S<h0.objs.size->True):
 ∀(k i:Nat) (s:r0) (acc:Array i3) (c:Nat),es.size-i=k->i<=es.size->G9 h0 s it d es ep i acc->s.heap.get? S=Z {cls:=.type "list",data:=.seq acc c}->
  (∀b o,b≠it->b≠S->h0.get? b=Z o->s.heap.get? b=Z o)->
  (∀(h':Heap) (acc':Array i3) (c':Nat),(∀b o,b≠it->b≠S->h0.get? b=Z o->h'.get? b=Z o)->h'.get? S=Z {cls:=.type "list",data:=.seq acc' c'}->acc'.size=es.size->acc'.toList.Nodup->(∀j,j<es.size->∃t e,acc'[j]?=Z (.ref t)/\es[j]?=Z e/\h'.get? t=Z {cls:=.type "tuple",data:=.seq #[e.key,e.val]}/\h0.get? t=Y)->R (.ok (.ret res)) {s with heap:=h'})->
  OH (model prog w) A (.builtin "list.extend.loop" ⟨[.ref S,.ref it,res],[]⟩) R s:=by
 intro k
 induction k with
 |zero=>
  intro i s acc c hk hi H U kp q;have J:i=es.size:=∅
  obtain⟨cd,dd,sl,hd⟩:=H.dict;refine OV Tf ?_;unfold N9.«list.extend.loop»;dsimp only;refine gV ?_;have key:∀(f0:i3) (b:Bool) (ok ov:i3),s.heap.get? it=Z (iO f0 b d es.size es.size ep ok ov)->KU (model prog w) (A.under (Ue "list.extend.loop" {pos:=[Lo S,Lo it,res]})) (NS (.ref it)) (λa s'=>a=Y/\∃h',(∀b o,b≠it->s.heap.get? b=Z o->h'.get? b=Z o)/\s'={s with heap:=h'}) (λe s'=>R (.error e) s') s:=by intro f0 b ok ov hi;refine nx_end hn hi hd λh' kp'=>⟨rfl,h',kp',rfl⟩
  have Iq:KU (model prog w) (A.under (Ue "list.extend.loop" {pos:=[Lo S,Lo it,res]})) (NS (.ref it)) (λa s'=>a=Y/\∃h',(∀b o,b≠it->s.heap.get? b=Z o->h'.get? b=Z o)/\s'={s with heap:=h'}) (λe s'=>R (.error e) s') s:=by
   rcases H.iter with⟨h0,e⟩|⟨h1,a,b,ok,ov,oa,e,_⟩
   ·refine key .none VP .none .none ?_;rw[<-J,h0];rw[<-J,h0]at e;exact e
   ·refine key (Nm a) b ok ov ?_;rw[<-J];rw[<-J]at e;exact e
  refine Mj Iq (λa s' hs=>?_) λ_ _ z=>z;obtain⟨rfl,h',kp',rfl⟩:=hs;refine y4 (q h' acc c (λb o h1 h2 e=>kp' b o h1 (kp b o h1 h2 e)) (kp' S _ G U) (by rw[H.size];exact J) H.nd λj hj=>?_)
  obtain⟨t,e,L,F2,B,e4⟩:=H.item j ∅
  refine⟨t,e,L,F2,kp' t _ (λz=>?_) B,e4⟩
  rcases H.iter with⟨_,e⟩|⟨_,a,b,ok,ov,oa,e,_⟩
  ·rw[z,e]at B;simp[iO]at B
  ·rw[z,e]at B;simp[iO]at B
 |succ k ih=>
  intro i s acc c hk hi H U kp q;have Ix:i<es.size:=∅
  obtain⟨cd,dd,sl,hd⟩:=H.dict;have he:es[i]?=Z es[i]:=LA Ix;refine OV Tf ?_;unfold N9.«list.extend.loop»;dsimp only;refine gV ?_;have key:KU (model prog w) (A.under (Ue "list.extend.loop" {pos:=[Lo S,Lo it,res]})) (NS (.ref it)) (λv s'=>v=Z (.ref s.heap.objs.size)/\∃(h':Heap) (a:VQ) (b:Bool) (ok ov:i3) (oa:Obj),s'={s with heap:=h'}/\h'.get? it=Z (iO (Nm a) b d (i+1) es.size ep ok ov)/\a≠it/\h'.get? a=Z oa/\oa.cls=.type "tuple"/\h'.get? s.heap.objs.size=Z {cls:=.type "tuple",data:=.seq #[es[i].key,es[i].val]}/\∀b o,b≠it->s.heap.get? b=Z o->h'.get? b=Z o) (λe s'=>R (.error e) s') s:=by
   rcases H.iter with⟨h0,e⟩|⟨h1,a,b,ok,ov,oa,e,L,F2,B⟩
   ·subst h0;refine Bo e hd he λh' g1 g2 g3=>⟨rfl,h',_,_,_,_,_,rfl,g1,?_,g2,rfl,g2,g3⟩;exact Ml (z4 e)
   ·refine Bn e L F2 hd he λh' g1 g2 g3=>⟨rfl,h',a,_,_,_,oa,rfl,g1,L,g3 a oa L F2,B,g2,g3⟩
  refine Mj key (λv s' hs=>?_) λ_ _ z=>z;obtain⟨rfl,h',a,b,ok,ov,oa,rfl,g1,g2,g3,g4,g5,g6⟩:=hs;have O:=z4 U;refine gV (Ov (g6 S _ G U) rfl ?_ (by rw[H.size];lia) (by simp[H.size];lia))
  refine y4 ⟨To QI _,?_⟩;have gS:=NG (c:="list") (g6 S _ G U) (λx=>x.push (Lo s.heap.objs.size));have oth:∀b o,b≠S->h'.get? b=Z o->(h'.update S (Na λx=>x.push (Lo s.heap.objs.size))).get? b=Z o:=λb o hb e=>by rw[LR _ _ _ _ hb];exact e
  have tup_ne:∀t (o:Obj),s.heap.get? t=Z o->o.cls=.type "tuple"->t≠it/\t≠S:=λt o e ec=>by
   constructor
   ·intro z
    rcases H.iter with⟨_,e'⟩|⟨_,a,b,ok,ov,oa,e',_⟩
    ·rw[z,e']at e;cases e;simp[iO]at ec
    ·rw[z,e']at e;cases e;simp[iO]at ec
   ·intro z;rw[z,U]at e;cases e;simp at ec
  refine ih (i+1) _ _ _ ∅ ∅ ⟨⟨cd,dd,sl,oth d _ Iv.symm (g6 d _ Iw.symm hd)⟩,.inr ⟨∅,a,b,ok,ov,oa,oth it _ G.symm g1,g2,oth a _ ?_ g3,g4⟩,by simp[H.size],?_,?_⟩ gS (λb o h1 h2 e=>oth b o h2 (g6 b o h1 (kp b o h1 h2 e))) λh2 Ir c2=>q h2 Ir c2
  ·intro z;rw[z,g6 S _ G U]at g3;cases g3;simp at g4
  ·rw[L8];refine Nz.mpr ⟨H.nd,by simp,λx hx y hy Iy=>?_⟩
   simp at hy;subst hy Iy;obtain⟨j,hj,ej⟩:=N6.mp hx;obtain⟨t,e,L,F2,B,e4⟩:=H.item j (by rw[<-H.size];simpa using hj)
   have e5:acc[j]?=Z (Lo s.heap.objs.size):=by rw[<-Le,y3 hj,ej]
   rw[e5]at L;cases L;exact absurd (z4 B) (Mh _)
  ·intro j hj
   by_cases Is:j<i
   ·obtain⟨t,e,L,F2,B,e4⟩:=H.item j Is;obtain⟨t1,t2⟩:=tup_ne t _ B rfl;refine⟨t,e,?_,F2,oth t _ t2 (g6 t _ t1 B),e4⟩;rw[Array.getElem?_push_lt (by rw[H.size];exact Is)]
    rw[<-L,LA]
   ·have:j=i:=by lia
    subst this;have fv:it<s.heap.objs.size:=by
     rcases H.iter with⟨_,e'⟩|⟨_,a,b,ok,ov,oa,e',_⟩
     ·exact z4 e'
     ·exact z4 e'
    have Iu:h0.get? s.heap.objs.size=Y:=by
     cases hq:h0.get? s.heap.objs.size with
     |none=>rfl
     |some o=>exact absurd (z4 (kp _ _ (Ml fv) (Ml O) hq)) (Mh _)
    refine⟨s.heap.objs.size,es[j],?_,he,oth _ _ (Ml O) g5,Iu⟩;have:=H.size;subst this;simp
end
end It
namespace It
variable{v d:VQ}{es:Array Md}{ep:Nat}{cd:i3}{dd:Option VQ}{sl:Array (Option i3)}
section
variable{prog:Lb}{w:Ly}{A:LD}{E:i3->r0->Prop}{s:r0}
theorem Bq{Q:i3->r0->Prop}(j:s.heap.get? v=Z {cls:=.type "dict_items",data:=.fields #[.ref d]})(hd:s.heap.get? d=Z {cls:=cd,dict:=dd,data:=.dict es ep,slots:=sl})(q:Q (.ref s.heap.objs.size) {s with heap:=s.heap.push (iO .none VP d 0 es.size ep .none .none)}):KU (model prog w) A (S0 (.ref v)) Q E s:=by
 have ty:s.TypeIs (.ref v) "dict_items":=⟨_,j,rfl⟩;refine Ug ty Sj (LB Sj ty F.entry_dict_items_iter ?_ (F.args_dict_items_iter_1 _));unfold N9.«dict_items.__iter__»
 wp_walk
 exact⟨_,rfl,"dict_itemiterator",_,⟨_,KG _ rfl,rfl⟩,slot_next.lookup,q⟩
theorem w5{Q:Bool->r0->Prop}(B:s.heap.get? v=Z {cls:=.type "dict_items",data:=.fields #[.ref d]})(q:Q VP s):KU (model prog w) A (NM (.ref v)) Q E s:=by
 have ty:s.TypeIs (.ref v) "dict_items":=⟨_,B,rfl⟩;unfold NM;refine gV (Sv ty F.slot_dict_items_len.lookup ?_);generalize j:("dict_items.__len__":String)=z
 (fail_if_success (clear j z));wp_delta
 rw[show splitId z=Z ("dict_items","__len__")from by subst j;decide +kernel]
 subst j;refine gV (Ox (b:=N3) ty (by rw[Q3];kernel_rfl) ?_)
 rw[if_neg (by decide)]
 refine Q5 (by decide +kernel) ?_
 refine gV (Pc ty ?_);exact y4 q
open Builtin.List in
theorem yS{B:LD}(hn:A.handled=Y){S:VQ}{c:Nat}{R:V4->r0->Prop}(res:i3)(J:s.heap.get? v=Z {cls:=.type "dict_items",data:=.fields #[.ref d]})(hd:s.heap.get? d=Z {cls:=cd,dict:=dd,data:=.dict es ep,slots:=sl})(G:s.heap.get? S=Z {cls:=.type "list",data:=.seq #[] c})(hz:es.size<=KJ)(q:∀(h':Heap) (acc':Array i3) (c':Nat),(∀b o,b≠S->s.heap.get? b=Z o->h'.get? b=Z o)->h'.get? S=Z {cls:=.type "list",data:=.seq acc' c'}->acc'.size=es.size->acc'.toList.Nodup->(∀j,j<es.size->∃t e,acc'[j]?=Z (.ref t)/\es[j]?=Z e/\h'.get? t=Z {cls:=.type "tuple",data:=.seq #[e.key,e.val]}/\s.heap.get? t=Y)->R (.ok (.ret res)) {s with heap:=h'}):
 KU (model prog w) B (listExtendWith (.ref S) (.ref v) res) (λfin s'=>match fin with|.done f=>R (.ok f) s'|.again c'=>c'.quiet=N3/\OH (model prog w) A c' R s') (λe s'=>R (.error e) s') s:=by
 have ty:s.TypeIs (.ref v) "dict_items":=⟨_,J,rfl⟩;have Iq:S≠v:=λe=>by rw[e,J]at G;simp at G
 have L:S≠d:=λe=>by rw[e,hd]at G;simp at G
 have O:=z4 hd;have z:=z4 G;have Is:=z4 J;have h1:listSameRef (.ref S) (.ref v)=VP:=by simp[listSameRef,Iq]
 unfold listExtendWith;refine gV (Pc ty ?_);rw[if_neg (by rw[h1];decide)]
 refine gV (Bq J hd ?_);refine gV (LU (w5 (d:=d) (p0 _ J) ?_));refine Q5 (by decide +kernel) ?_
 refine gV (Nl ?_);unfold listTouch;have U:(s.heap.push (iO .none VP d 0 es.size ep .none .none)).get? S=Z (TK "list" #[] c):=p0 _ G;refine gV (gV (Ov U rfl ?_ (by simp) (by simp)))
 have F2:=NG U (λx=>x.push MZ);refine Ov F2 rfl ?_ (by simp;decide) (by simp)
 have Ir:=NG F2 (λx=>x.pop);refine y4 ⟨To QI _,?_⟩;have oth:∀b o,b≠S->s.heap.get? b=Z o->(((s.heap.push (iO .none VP d 0 es.size ep .none .none)).update S (Na λx=>x.push MZ)).update S (Na λx=>x.pop)).get? b=Z o:=λb o fv e=>by rw[LR _ _ _ _ fv,LR _ _ _ _ fv];exact p0 _ e
 have hit:(((s.heap.push (iO .none VP d 0 es.size ep .none .none)).update S (Na λx=>x.push MZ)).update S (Na λx=>x.pop)).get? s.heap.objs.size=Z (iO .none VP d 0 es.size ep .none .none):=by rw[LR _ _ _ _ (Ml z),LR _ _ _ _ (Ml z)];exact KG _ rfl
 refine Bp hn (S:=S) (it:=s.heap.objs.size) (d:=d) (es:=es) (ep:=ep) (Lc z) L (Ml O) hz s.heap (λ_=>trivial) es.size 0 _ #[] _ ∅ ∅ ⟨⟨cd,dd,sl,oth d _ L.symm hd⟩,.inl ⟨rfl,hit⟩,rfl,by simp,λj hj=>∅⟩ Ir (λb o h1 h2 e=>oth b o h2 e) λh' acc' c' k1 k2 k3 k5 k4=>?_
 exact q h' acc' c' (λb o fv e=>k1 b o (Lc (z4 e)) fv e) k2 k3 k5 k4
theorem collect_view(hn:A.handled=Y){Q:List i3->r0->Prop}(F2:s.heap.get? v=Z {cls:=.type "dict_items",data:=.fields #[.ref d]})(hd:s.heap.get? d=Z {cls:=cd,dict:=dd,data:=.dict es ep,slots:=sl})(hz:es.size<=KJ)(q:∀(h':Heap) (us:List i3),(∀b o,s.heap.get? b=Z o->h'.get? b=Z o)->us.length=es.size->us.Nodup->(∀j,j<es.size->∃t e,us[j]?=Z (.ref t)/\es[j]?=Z e/\h'.get? t=Z {cls:=.type "tuple",data:=.seq #[e.key,e.val]}/\s.heap.get? t=Y)->Q us {s with heap:=h'}):KU (model prog w) A (collect (.ref v)) Q E s:=by
 unfold collect;refine gV (wpAny_runValue (OV SG ?_));unfold N9.«proto.collect»;dsimp only;refine gV (Qr ?_ (by simp))
 refine y4 ⟨TL _ (by decide +kernel),?_⟩
 refine OV UB ?_;unfold N9.«list.__iadd__»;refine gV (P5 (a:=(Lo s.heap.objs.size,[Lo v])) (by kernel_rfl) ?_)
 have fv:=z4 F2;have z:(s.heap.push {cls:=LK "list",data:=OU [].toArray}).get? s.heap.objs.size=Z {cls:=LK "list",data:=OU #[] 0}:=KG _ rfl;have fin:∀(h':Heap) (acc:Array i3) (c':Nat),(∀b o,b≠s.heap.objs.size->(s.heap.push {cls:=LK "list",data:=OU [].toArray}).get? b=Z o->h'.get? b=Z o)->h'.get? s.heap.objs.size=Z {cls:=.type "list",data:=.seq acc c'}->acc.size=es.size->acc.toList.Nodup->(∀j,j<es.size->∃t e,acc[j]?=Z (.ref t)/\es[j]?=Z e/\h'.get? t=Z {cls:=.type "tuple",data:=.seq #[e.key,e.val]}/\(s.heap.push {cls:=LK "list",data:=OU [].toArray}).get? t=Y)->
  KU (model prog w) A (do
   let o <-load s.heap.objs.size
   match o.data with
   |.seq xs _=>pure xs.toList
   |_=>unsupported "internal:collect") Q E {s with heap:=h'}:=by
  intro h' acc c' B G J L O;refine gV (V3 G ?_);exact y4 (q h' acc.toList (λb o e=>B b o (Lc (z4 e)) (p0 _ e)) (by simpa using J) L λj hj=>by
   obtain⟨t,e,e1,e2,e3,e4⟩:=O j hj;refine⟨t,e,by rw[Le];exact e1,e2,e3,?_⟩
   cases hq:s.heap.get? t with
   |none=>rfl
   |some o=>rw[p0 _ hq]at e4;cases e4)
 refine Mj (yS (s:={s with heap:=s.heap.push {cls:=LK "list",data:=OU [].toArray}}) (R:=λr s'=>r=.ok (.ret (.ref s.heap.objs.size))/\KU (model prog w) A (do
  let o <-load s.heap.objs.size
  match o.data with
  |.seq xs _=>pure xs.toList
  |_=>unsupported "internal:collect") Q E s') hn (Lo s.heap.objs.size) (p0 _ F2) (p0 _ hd) z hz λh' acc c' B G J L O=>⟨rfl,fin h' acc c' B G J L O⟩) (λfn s' h=>?_) (λe s' h=>?_)
 ·cases fn with
  |done f=>
   obtain⟨e,h⟩:=h
   cases e
   exact h
  |again c'=>refine⟨h.1,Ob h.2 λr s1 U=>?_⟩;obtain⟨rfl,U⟩:=U;exact U
 ·cases h.1
end
end It
section
section
variable{P:Lb}{w:Ly}{H:Hp}{h:Heap}{a:VQ}{o:HO}
theorem ObjOk.there(x:ObjOk P w H h a o):∃ob,h.get? a=Z ob:=by
 cases o with
 |lst xs=>obtain⟨_,_,_,_,e⟩:=x;exact⟨_,e⟩
 |tup xs=>obtain⟨_,_,_,_,e,_⟩:=x;exact⟨_,e⟩
 |dK kvs=>obtain⟨_,_,_,_,o,_,_,e,_⟩:=x;exact⟨_,e⟩
 |dT kvs=>obtain⟨_,_,_,_,o,_,_,e,_⟩:=x;exact⟨_,e⟩
 |set S n=>obtain⟨o,_,_,_,e,_⟩:=x;exact⟨_,e⟩
 |ins C dx fs=>obtain⟨_,_,_,e,_⟩:=x;exact⟨_,e⟩
 |own y=>obtain⟨_,e⟩:=x;exact⟨_,e⟩
 |xd fs=>obtain⟨_,⟨_,_,_,e,_⟩,_⟩:=x;exact⟨_,e⟩
 |rng lo hi=>obtain⟨_,_,_,e⟩:=x;exact⟨_,e⟩
 |frz ob u=>obtain⟨e,_⟩:=x;exact⟨_,e⟩
 |tbl ps=>exact⟨_,show h.get? a=Z _ from x⟩
 |met f y=>exact⟨_,show h.get? a=Z _ from x⟩
 |ext φ=>obtain⟨_,⟨_,e⟩,_⟩:=x;exact⟨_,e⟩
end
noncomputable def lay(H:Hp)(N:VQ->Option HO):Hp:=λb=>match N b with|some o=>Z o|none=>H b
section
variable{X:Cx}{pins:List (VQ×Obj)}{σ:List (Option V)}{H:Hp}{s:r0}{h':Heap}{N:VQ->Option HO}
theorem lc{o:HO}(e:N b=Z o):lay H N b=Z o:=by unfold lay;rw[e]
theorem iH(e:N b=Y):lay H N b=H b:=by unfold lay;rw[e]
theorem Inv.fresh'(I:Inv X pins σ H s)(e:s.heap.get? b=Y):H b=Y:=by
 cases q:H b with
 |none=>rfl
 |some o=>obtain⟨ob,eo⟩:=(I.hok b o q).there;rw[e]at eo;cases eo
theorem Inv.laidN(I:Inv X pins σ H s)(k:∀b u,s.heap.get? b=Z u->h'.get? b=Z u)(j:∀b o,N b=Z o->s.heap.get? b=Y)(new:∀b o,N b=Z o->ObjOk X.prog X.w (lay H N) h' b o):Inv X pins σ (lay H N) {s with heap:=h',toks:=t'}:=by
 have old:∀b u,s.heap.get? b=Z u->N b=Y:=λb u e=>by
  cases q:N b with
  |none=>rfl
  |some o=>rw[j b o q]at e;cases e
 have oldH:∀b o,H b=Z o->lay H N b=Z o:=λb o e=>by obtain⟨ob,eo⟩:=(I.hok b o e).there;rw[iH (old b ob eo)];exact e
 refine I.un ⟨λb u q _ _ _=>k b u q,λb u q _ _ _=>⟨u.slots,k b u q⟩,λb u q n _=>by rw[iH (old b u q)];exact n,λb u q _=>⟨u,k b u q⟩,λb xs q=>oldH b _ q,λb u xs q=>oldH b _ q,λb ps q=>⟨#[],by rw[oldH b _ q];simp⟩⟩ λb o e=>?_
 cases q:N b with
 |some o'=>rw[lc q]at e;cases e;exact new b o q
 |none=>rw[iH q]at e;exact(I.hok b o e).stay (λc v _ q=>k c v q) (λc q=>oldH c _ q) λc xs q=>oldH c _ q
end
namespace Mi
open L2.Srt
inductive Sh where
 |int
 |tup (l:List Sh)
mutual
noncomputable def hs:Sh->D->Bool
 |.int,.int _=>N3
 |.tup l,.tup ds=>hss l ds
 |_,_=>VP
noncomputable def hss:List Sh->List D->Bool
 |[],[]=>N3
 |s::l,d::ds=>hs s d&&hss l ds
 |_,_=>VP
end
mutual
noncomputable def pd:D->Mr
 |.int i=>.int i
 |.tup ds=>.tuple (pds ds)
 |_=>.none
noncomputable def pds:List D->List Mr
 |[]=>[]
 |d::ds=>pd d::pds ds
end
mutual
noncomputable def dep:Sh->Nat
 |.int=>0
 |.tup l=>deps l+1
noncomputable def deps:List Sh->Nat
 |[]=>0
 |s::l=>max (dep s) (deps l)
end
noncomputable def i5:Sh->Bool
 |.int=>N3
 |.tup (.int::l)=>decide (deps l<=6)
 |.tup (.tup a::l)=>decide (deps (.tup a::l)<=6)
 |.tup []=>VP
noncomputable def kyD(d:D):Ky:=toK (pd d)
theorem u9{x:D}(h:hs .int x=N3):∃i,x=.int i:=by cases x<;>first|exact⟨_,rfl⟩|cases h
theorem ua{l:List Sh}{x:D}(h:hs (.tup l) x=N3):∃ds,x=.tup ds/\hss l ds=N3:=by cases x<;>first|exact⟨_,rfl,h⟩|cases h
theorem oi{a:List D}(h:hss [] a=N3):a=[]:=by
 cases a with
 |nil=>rfl
 |cons _ _=>cases h
variable{s:Sh}
theorem oj{l:List Sh}{a:List D}(h:hss (s::l) a=N3):∃x r,a=x::r/\hs s x=N3/\hss l r=N3:=by
 cases a with
 |nil=>cases h
 |cons x r=>exact⟨x,r,rfl,Qw.mp h⟩
mutual
theorem w6:∀(s:Sh) (x y:D),hs s x=N3->hs s y=N3->Cmpb (pd x) (pd y)
 |.int,_,_,h,g=>by obtain⟨a,rfl⟩:=u9 h;obtain⟨b,rfl⟩:=u9 g;simp only[pd];exact .int a b
 |.tup l,_,_,h,g=>by obtain⟨a,rfl,h⟩:=ua h;obtain⟨b,rfl,g⟩:=ua g;simp only[pd];exact hss_cmp l a b h g
theorem hss_cmp:∀(l:List Sh) (a b:List D),hss l a=N3->hss l b=N3->Cmpb (.tuple (pds a)) (.tuple (pds b))
 |[],_,_,h,g=>by cases oi h;cases oi g;simp only[pds];exact .nil _
 |s::l,_,_,h,g=>by obtain⟨x,a,rfl,j⟩:=oj h;clear h;have h:=j;obtain⟨y,b,rfl,z⟩:=oj g;clear g;have g:=z;simp only[pds];exact .cons (w6 s x y h.1 g.1) (hss_cmp l a b h.2 g.2)
end
mutual
theorem kh:∀(s:Sh) (x:D),hs s x=N3->Pl (pd x)/\(pd x).canLay0=N3/\(pd x).depth<=dep s
 |.int,_,h=>by obtain⟨a,rfl⟩:=u9 h;simp only[pd];exact⟨.int a,rfl,by simp[OJ]⟩
 |.tup l,_,h=>by obtain⟨a,rfl,h⟩:=ua h;obtain⟨h1,h2,j⟩:=hss_pl l a h;simp only[pd];exact⟨.tup _ h1,by simpa[Q4]using h2,by simp[OJ,dep];lia⟩
theorem hss_pl:∀(l:List Sh) (a:List D),hss l a=N3->(∀x∈pds a,Pl x)/\Mz (pds a)=N3/\ND (pds a)<=deps l
 |[],_,h=>by cases oi h;simp[pds,Mz,ND]
 |s::l,_,h=>by
  obtain⟨x,a,rfl,j⟩:=oj h;clear h;have h:=j;obtain⟨h1,h2,F⟩:=kh s x h.1;obtain⟨g1,g2,g3⟩:=hss_pl l a h.2;simp only[pds];refine⟨λy B=>?_,by simp[Mz,h2,g2],by simp[ND,deps];lia⟩
  rcases KH.mp B with z|z
  ·rw[z];exact h1
  ·exact g1 y z
end
mutual
theorem oo(M:Mem):∀(s:Sh) (x:D) (n:Nat),hs s x=N3->dep s<=n->rb n M x=Z (pd x)
 |.int,_,n,h,_=>by obtain⟨a,rfl⟩:=u9 h;cases n<;>simp[rb,pd]
 |.tup l,_,n,h,j=>by
  obtain⟨a,rfl,h⟩:=ua h;simp only[dep]at j;obtain⟨k,rfl⟩:∃k,n=k+1:=⟨n-1,∅⟩
  simp only[rb,pd];rw[hss_rb M l a k h ∅];rfl
theorem hss_rb(M:Mem):∀(l:List Sh) (a:List D) (n:Nat),hss l a=N3->deps l<=n->ay (rb n M) a=Z (pds a)
 |[],_,_,h,_=>by cases oi h;simp[pds,ay]
 |s::l,_,n,h,j=>by obtain⟨x,a,rfl,z⟩:=oj h;clear h;have h:=z;simp only[deps]at j;simp only[pds,ay];rw[oo M s x n h.1 ∅,hss_rb M l a n h.2 ∅];rfl
end
theorem jh(h:i5 s=N3):dep s<=7:=by
 match s,h with
 |.int,_=>simp[dep]
 |.tup (.int::l),h=>simp[i5]at h;simp[dep,deps];lia
 |.tup (.tup a::l),h=>simp only[i5,decide_eq_true_eq]at h;simp only[dep];lia
theorem s9(h:i5 s=N3){xs:List D}(hx:∀x∈xs,hs s x=N3):qb 7 (xs.map pd)/\∀d∈xs.map pd,Pl d:=by
 refine⟨⟨?_,?_,?_⟩,?_⟩
 ·intro d hd e he;obtain⟨x,h1,rfl⟩:=KP.mp hd;obtain⟨y,h2,rfl⟩:=KP.mp he;exact w6 s x y (hx x h1) (hx y h2)
 ·intro d hd;obtain⟨x,h1,rfl⟩:=KP.mp hd;obtain⟨_,g2,g3⟩:=kh s x (hx x h1);exact⟨g2,by have:=jh h;lia⟩
 ·match s,h with
  |.int,_=>
   left
   intro d hd;obtain⟨x,h1,rfl⟩:=KP.mp hd;have:=hx x h1
   cases x<;>simp[hs]at this
   exact⟨_,rfl⟩
  |.tup (.int::l),_=>
   right;left
   intro d hd;obtain⟨x,h1,rfl⟩:=KP.mp hd;have:=hx x h1
   cases x<;>simp[hs]at this
   rename_i ds
   cases ds with
   |nil=>simp[hss]at this
   |cons y ys=>
    simp[hss]at this
    cases y<;>simp[hs]at this
    exact⟨_,_,rfl⟩
  |.tup (.tup a::l),_=>
   right;right
   intro d hd;obtain⟨x,h1,rfl⟩:=KP.mp hd;have:=hx x h1
   cases x<;>simp[hs]at this
   rename_i ds
   cases ds with
   |nil=>simp[hss]at this
   |cons y ys=>
    simp[hss]at this
    cases y<;>simp[hs]at this
    exact⟨_,_,rfl⟩
 ·intro d hd;obtain⟨x,h1,rfl⟩:=KP.mp hd;exact(kh s x (hx x h1)).1
theorem eW{α β:Type}(f:α->β):∀{l m:List β},l.Perm m->∀{t:List α},t.map f=m->∃t':List α,t'.Perm t/\t'.map f=l:=by
 intro l m h
 induction h with
 |nil=>intro t e;exact⟨[],by rw[List.map_eq_nil_iff.mp e],rfl⟩
 |cons x h ih=>
  intro t e
  cases t with
  |nil=>simp at e
  |cons a t=>simp at e;obtain⟨t',h1,h2⟩:=ih e.2;exact⟨a::t',h1.cons a,by simp[h2,e.1]⟩
 |swap x y l=>
  intro t e
  match t,e with
  |a::b::t,e=>simp at e;exact⟨b::a::t,.swap _ _ _,by simp[e]⟩
 |trans h1 h2 j z=>intro t e;obtain⟨J,p2,B⟩:=z e;obtain⟨t1,F,G⟩:=j B;exact⟨t1,F.trans p2,G⟩
def gp(ys:List D):Prop:=ys.Pairwise λa b=>ltK (kyD b) (kyD a)=VP
theorem sd{K:Frag}{H:Hp}:∀{ds:List D} {vs:List V} {us:List i3},RDs K H ds vs->Vals vs us->∃t:List (D×V×i3),t.map (·.1)=ds/\t.map (·.2.1)=vs/\t.map (·.2.2)=us/\∀p∈t,RD K H p.1 p.2.1/\RelV p.2.1 p.2.2
 |[],vs,us,h,g=>by
  cases RDs.nil_iff.mp h
  cases g
  exact⟨[],rfl,rfl,rfl,λ_ h=>by simp at h⟩
 |d::ds,vs,us,h,g=>by
  obtain⟨v,r,rfl,h1,h2⟩:=Vw.mp h
  cases g with
  |cons g1 g2=>
   rename_i u us;obtain⟨t,j,B,F,G⟩:=sd h2 g2;exact⟨(d,v,u)::t,by simp[j],by simp[B],by simp[F],λp J=>by
    rcases KH.mp J with z|z
    ·rw[z];exact⟨h1,g1⟩
    ·exact G p z⟩
theorem se{K:Frag}{H:Hp}:∀{t:List (D×V×i3)},(∀p∈t,RD K H p.1 p.2.1/\RelV p.2.1 p.2.2)->RDs K H (t.map (·.1)) (t.map (·.2.1))/\Vals (t.map (·.2.1)) (t.map (·.2.2))
 |[],_=>⟨RDs.nil,.nil⟩
 |p::t,h=>by
  obtain⟨h1,h2⟩:=se (t:=t) λq j=>h q (by simp[j])
  exact⟨RDs.cons (h p (by simp)).1 h1,.cons (h p (by simp)).2 h2⟩
section
variable{X:Cx}
theorem rA{cap:Nat}(S:fJ cap)(L:X.A.units+16<Oa){pins:List (VQ×Obj)}{s:r0}{σ:St}{H:Hp}{Q:VK}(I:Inv X pins σ H s){M:Mem}(rm:RM X.K M H){es:List D}{sh:Sh}{vs:List V}{p:VQ}(rvs:RDs X.K H es vs)(hok:i5 sh=N3)(O:∀d∈es,hs sh d=N3)(q:∀p ys,M p=Y->ys.Perm es->gp ys->KE' X.K M H Q (.ref p) (ag M p (.lst ys))){its:List i3}(hv:Vals vs its)(hl:vs.length<=KJ)(Is:vs.length<=cap)(U:∀(E:i3->r0->Prop) (R:List i3->r0->Prop),(∀(h':Heap) (tk:Nat),(∀b o,s.heap.get? b=Z o->h'.get? b=Z o)->s.toks<=tk->R its {s with heap:=h',toks:=tk})->KU (La X.prog X.w) X.A.in1 (collect (.ref p)) R E s):
 KU (La X.prog X.w) X.A (call (.builtin "sorted") [.ref p]) (EP X pins σ Q) X.xe s:=by
 obtain⟨hS,J⟩:=s9 hok O;have Iw:=jh hok;obtain⟨t,t1,t2,t3,t4⟩:=sd rvs hv;have F2:∀pp∈t,∃as,Pq s.heap pp.2.2 (pd pp.1) as:=λpp j=>by
  have hm:pp.1∈es:=by rw[<-t1];exact L6 j
  exact bH I rm 16 pp.1 (pd pp.1) pp.2.1 pp.2.2 (oo M sh pp.1 16 (O _ hm) ∅) (t4 pp j).1 (t4 pp j).2
 have fv:RdL s.heap its (es.map pd):=λu L=>by rw[<-t3]at L;obtain⟨pp,j,rfl⟩:=KP.mp L;obtain⟨as,ra⟩:=F2 pp j;exact⟨pd pp.1,L6 (by rw[<-t1];exact L6 j),as,ra⟩
 refine nh S (m:=7) (ds:=es.map pd) (C:=λh' vs'=>vs'=its/\∀b o,s.heap.get? b=Z o->h'.get? b=Z o) ∅ hS J (λE R hR=>?_) λh1 h2 vs' out n' tk hC old g2 F Iq Ix Iy ht=>?_
 ·refine U E R λh' tk kp Iu=>hR h' its tk ⟨rfl,kp⟩ (λu L=>?_) ⟨by rw[<-hv.length];exact hl,by rw[<-hv.length];exact Is⟩ Iu
  obtain⟨d,hd,as,ra⟩:=fv u L;exact⟨d,hd,as,be (λb o e _=>kp b o e) (J d hd) ra⟩
 ·obtain⟨rfl,kp⟩:=hC;rw[<-t3]at F;obtain⟨t',p1,p2⟩:=eW (fun pp:D×V×i3=>pp.2.2) F rfl;have hz:=se (t:=t') fun pp j=>t4 pp (p1.mem_iff.mp j);have Ir:∀b o,s.heap.get? b=Z o->h2.get? b=Z o:=fun b o e=>old b o (kp b o e);have z:s.heap.get? h1.objs.size=Y:=by
   cases hq:s.heap.get? h1.objs.size with
   |none=>rfl
   |some o=>exact absurd (z4 (kp _ _ hq)) (Mh _)
  have Iv:=I.fresh' z;have hlen:(t'.map (·.2.1)).length<=KJ:=by rw[q7,p1.length_eq,<-q7 (f:=λpp:D×V×i3=>pp.2.1),t2];exact hl
  have I2:=I.laidN (t':=tk) (h':=h2) (N:=λb=>if b=h1.objs.size then Z (.lst (t'.map (·.2.1)))else Y) Ir (λb o e=>by
   by_cases B:b=h1.objs.size
   ·rw[B];exact z
   ·rw[if_neg B]at e;cases e) (λb o e=>by
   by_cases B:b=h1.objs.size
   ·subst B;rw[if_pos rfl]at e;cases e;exact⟨hlen,out,n',by rw[<-p2];exact hz.2,g2⟩
   ·rw[if_neg B]at e;cases e)
  have eH:lay H (λb=>if b=h1.objs.size then Z (.lst (t'.map (·.2.1)))else Y)=upd H h1.objs.size (.lst (t'.map (·.2.1))):=by
   funext b
   unfold lay upd;dsimp only
   by_cases B:b=h1.objs.size
   ·rw[if_pos B,if_pos B]
   ·rw[if_neg B,if_neg B]
  rw[eH]at I2;refine⟨.ref h1.objs.size,_,I2,rfl,?_⟩;refine cW rm hz.1 (λp' n=>q p' _ n ?_ ?_) Iv
  ·have:=p1.map (λpp:D×V×i3=>pp.1);rw[t1]at this;exact this
  ·unfold gp;rw[Mg];rw[<-p2,Mg]at Iq;refine Iq.imp_of_mem fun {a b} ha B hab=>?_;have rd:∀pp∈t',MY h2 pp.2.2=pd pp.1:=fun pp j=>by
    have G:=p1.mem_iff.mp j;obtain⟨as,ra⟩:=F2 pp G;have hm:pp.1∈es:=by rw[<-t1];exact L6 G
    exact NF (hS.lay _ (L6 hm)).1 (be (λb o e _=>Ir b o e) (J _ (L6 hm)) ra)
   rw[rd a ha,rd b B]at hab;exact hab
end
end Mi
end
namespace Mi
open L2.Srt
noncomputable def kvD(kv:D×D):D:=.tup [kv.1,kv.2]
noncomputable def ki(ta:TEd):TEd:=λρ M Q=>ta ρ M λx M1=>∃a t kvs sh,x=.ref a/\M1 a=Z (.dct t kvs)/\i5 sh=N3/\(∀kv∈kvs,hs sh (kvD kv)=N3)/\∀p ys,M1 p=Y->ys.Perm (kvs.map kvD)->gp ys->Q (.ref p) (ag M1 p (.lst ys))
theorem ub{ta:TEd}(h:ad ta):ad (ki ta):=λρ M Q Q' i q=>h _ _ _ _ (λx L j=>(by obtain⟨a,t,kvs,sh,e,z,B,F,G⟩:=j;exact⟨a,t,kvs,sh,e,z,B,F,λp ys n J hs=>i _ _ (G p ys n J hs)⟩)) q
def lf(K:Frag)(H:Hp)(kv:D×D)(e:Md):Prop:=∃kV vV,RD K H kv.1 kV/\RelV kV e.key/\RD K H kv.2 vV/\RelV vV e.val
variable{K:Frag}{H:Hp}
theorem sg{d:D}{k:Key}(h:RKey d k):RD K H d (kV k):=by
 cases d<;>first
  |exact h.elim
  |(cases h;first|exact Vt.mpr rfl|exact VB.mpr rfl)
theorem ni{K:Frag}{H:Hp}:∀{ds:List D} {ks:List Key},Mo RKey ds ks->RDs K H ds (ks.map kV)
 |_,_,.nil=>RDs.nil
 |_,_,.cons r t=>RDs.cons (sg r) (ni t)
theorem A7{P:Lb}{w:Ly}{K:Frag}{H:Hp}:∀{kvs:List (D×D)} {ps:List (Key×V)} {vs:List (Key×i3)} {es:List Md},Mo (λ(p:D×D) (q:Key×V)=>RKey p.1 q.1/\RD K H p.2 q.2) kvs ps->KV ps vs->Pairs (aV P w) es vs->Mo (lf K H) kvs es
 |_,_,_,_,.nil,.nil,.nil=>.nil
 |_,_,_,_,.cons B t1,.cons F G,.cons h1 h2 t3=>by
  refine .cons ⟨kV _,_,sg B.1,?_,B.2,by rw[h2];exact F.2⟩ (A7 t1 G t3)
  rw[<-F.1]at h1
  rcases aX h1 with⟨i,t,j,z⟩|⟨x,t,j,z⟩
  ·rw[j,z];exact⟨t,rfl⟩
  ·rw[j,z];exact⟨t,rfl⟩
theorem A8{P:Lb}{w:Ly}{K:Frag}{H:Hp}:∀{kvs:List (D×D)} {ps:List (List Key×V)} {xs:List (List Key×VQ×i3)},Mo (λ(p:D×D) (q:List Key×V)=>RKeys p.1 q.1/\RD K H p.2 q.2) kvs ps->Mo (λ(p:List Key×V) (q:List Key×VQ×i3)=>p.1=q.1/\H q.2.1=Z (.tup (p.1.map kV))/\RelV p.2 q.2.2) ps xs->Mo (lf K H) kvs (xs.map (entryOfKey (QP (aV P w))))
 |_,_,_,.nil,.nil=>.nil
 |kv::_,_,_,.cons z t1,.cons B F=>by
  refine .cons ?_ (A8 t1 F);obtain⟨d,v⟩:=kv;have j:=z.1
  cases d<;>first
   |exact j.elim
   |exact⟨.ref _,_,VC ⟨_,_,rfl,B.2.1,ni j⟩,rfl,z.2,B.2.2⟩
theorem ck{α β:Type}{R:α->β->Prop}:∀{l:List α} {m:List β},Mo R l m->l.length=m.length
 |_,_,.nil=>rfl
 |_,_,.cons _ t=>by simp[ck t]
noncomputable abbrev Rw:=VQ×(D×D)×V×V×Md
theorem A9{K:Frag}{H:Hp}{G:VQ->Md->Prop}:∀{kvs:List (D×D)} {es:List Md} {us:List i3},Mo (lf K H) kvs es->us.length=es.length->(∀j,j<es.length->∃t e,us[j]?=Z (.ref t)/\es[j]?=Z e/\G t e)->
 ∃L:List Rw,L.map (λr=>Lo r.1)=us/\L.map (λr=>r.2.1)=kvs/\∀r∈L,RD K H r.2.1.1 r.2.2.1/\RelV r.2.2.1 r.2.2.2.2.key/\RD K H r.2.1.2 r.2.2.2.1/\RelV r.2.2.2.1 r.2.2.2.2.val/\G r.1 r.2.2.2.2
 |_,_,us,.nil,B,_=>⟨[],by simp at B;simp[B],rfl,λ_ h=>by simp at h⟩
 |kv::kvs,e::es,us,.cons r t,B,h=>by
  cases us with
  |nil=>simp at B
  |cons u us=>
   obtain⟨L,h1,h2,U⟩:=A9 (us:=us) t (by simpa using B) λj F2=>by
    obtain⟨t,e',F,J,O⟩:=h (j+1) (by simpa using F2)
    exact⟨t,e',by simpa using F,by simpa using J,O⟩
   obtain⟨t0,e',F,J,O⟩:=h 0 (by simp)
   simp at F J;subst F J;obtain⟨kV,vV,g1,g2,g3,fv⟩:=r;exact⟨(t0,kv,kV,vV,e)::L,by simp[h1],by simp[h2],λr hr=>by
    rcases KH.mp hr with z|z
    ·rw[z];exact⟨g1,g2,g3,fv,O⟩
    ·exact U r z⟩
theorem yT{L:List Rw}(j:(L.map λr=>r.1).Nodup){r:Rw}(B:r∈L):L.find? (λx=>decide (x.1=r.1))=Z r:=by
 induction L with
 |nil=>simp at B
 |cons x L ih=>
  simp only[KY,Mn]at j
  rcases KH.mp B with z|z
  ·subst z;simp
  ·have:x.1≠r.1:=λe=>j.1 (by rw[e];exact L6 z)
   rw[OL (by simpa using this)]
   exact ih j.2 z
variable{a:VQ}{kvs:List (D×D)}
section
variable{X:Cx}
theorem Dz{h:Heap}{P:Lb}{w:Ly}{ps:List (List Key×V)}(ok:ObjOk P w H h a (.dT ps))(pr:Mo (λ(p:D×D) (q:List Key×V)=>RKeys p.1 q.1/\RD K H p.2 q.2) kvs ps):
 ∃cd dd sl es ep,h.get? a=Z {cls:=cd,dict:=dd,data:=.dict es ep,slots:=sl}/\es.size<=KJ/\Mo (lf K H) kvs es.toList:=by
 obtain⟨G,B,xs,j,o,es,ep,h1,h2,z,F,J⟩:=ok;obtain⟨cd,dd,dat,sl⟩:=o;dsimp only at z;subst z;have pp:=A8 (P:=P) (w:=w) pr j;rw[<-F]at pp;refine⟨cd,dd,sl,es,ep,h1,?_,pp⟩;have:=ck pp;have:=ck pr;simp at *;lia
theorem si{pins:List (VQ×Obj)}{σ:St}{s:r0}{M:Mem}(I:Inv X pins σ H s)(rm:RM X.K M H){t:Bool}(e:M a=Z (.dct t kvs)):
 ∃cd dd sl es ep,s.heap.get? a=Z {cls:=cd,dict:=dd,data:=.dict es ep,slots:=sl}/\es.size<=KJ/\Mo (lf X.K H) kvs es.toList/\IsD H a:=by
 have ro:=rm a _ e
 cases t with
 |false=>obtain⟨ps,j,pr⟩:=ro;obtain⟨J,F,vs,B,o,es,ep,h1,h2,z,L,G,O⟩:=I.hok a _ j;obtain⟨cd,dd,dat,sl⟩:=o;dsimp only at z;subst z;have pp:=A7 pr B G;refine⟨cd,dd,sl,es,ep,h1,?_,pp,.inl ⟨_,Rd.of j⟩⟩;have:=ck pp;have:=ck pr;simp at *;lia
 |true=>obtain⟨ps,j,pr⟩:=ro;obtain⟨cd,dd,sl,es,ep,h1,h2,z⟩:=Dz (I.hok a _ j) pr;exact⟨cd,dd,sl,es,ep,h1,h2,z,.inr ⟨_,Rd.of j⟩⟩
theorem w8{d:VQ}{Q:i3->r0->Prop}{A:LD}{E:i3->r0->Prop}{s:r0}{cd:i3}{dd:Option VQ}{sl:Array (Option i3)}{es:Array Md}{ep:Nat}{prog:Lb}{w:Ly}(ty:s.TypeIs (.ref d) "dict")(z:(d==MP)=VP)(hd:s.heap.get? d=Z {cls:=cd,dict:=dd,data:=.dict es ep,slots:=sl})(q:Q (.ref s.heap.objs.size) {s with heap:=s.heap.push {cls:=.type "dict_items",data:=.fields #[.ref d]}}):KU (model prog w) A (call (.builtin "dict.items") [.ref d]) Q E s:=by
 have j:cd=.type "dict":=by obtain⟨o,h1,h2⟩:=ty;rw[hd]at h1;cases h1;exact h2
 subst j;refine LB Uh ty F.entry_dict_items ?_ (F.args_dict_items_1 _);unfold N9.«dict.items»
 wp_walk
 exact⟨_,rfl,q⟩
theorem yU{e:Expr}{ta:TEd}{p pos apos cpos:Pos}(hu:X.A.units+16<Oa)(m:ad ta)(hc:X.calm=N3)(he:PE X e (lE X.K ta))(hg:Gl X "sorted")(hm:X.mg "sorted"=Y)(Iu:Rt e "items" X.env (eval e X.env)=eval e X.env)(Iv:(apos.endLine==cpos.line)=N3):
 PE X (.Call (.Name "sorted" p) [.Call (.Attribute e "items" apos) [] [] cpos] [] pos) (lE X.K (ki ta)):=by
 intro pins s σ H Q I h;obtain⟨ρ,M,rs,rm,h⟩:=h;refine Np (dX I hg hm (u:=.builtin "sorted") (by decide +kernel) ?_ (by decide) (by decide))
 refine Qj ?_ rfl rfl;refine Pz ?_;refine wpAny_Call_method0_late Iu Iv (thn (he pins s σ H (λv H1=>∃fv a t kvs sh,Ext M H fv H1/\RM X.K fv H1/\v=.ref a/\fv a=Z (.dct t kvs)/\i5 sh=N3/\(∀kv∈kvs,hs sh (kvD kv)=N3)/\∀p ys,fv p=Y->ys.Perm (kvs.map kvD)->gp ys->KE' X.K M H Q (.ref p) (ag fv p (.lst ys))) I ⟨ρ,M,rs,rm,m _ _ _ _ (λx fv ⟨a,t,kvs,sh,e,e1,e2,e3,q1⟩ v H1 x1 F2 IG=>by subst e;exact⟨fv,a,t,kvs,sh,x1,F2,Vu.mp IG,e1,e2,e3,q1⟩) h⟩) λv s1 ⟨x,H1,I1,r1,fv,a,t,kvs,sh,x1,F2,ex,e1,hok,Iy,q⟩=>?_)
 subst ex;obtain rfl:v=Lo a:=r1;obtain⟨cd,dd,sl,es,ep,hd,hz,Iz,hD⟩:=si I1 F2 e1;obtain⟨t1,t2,IH⟩:=jH I1 hD;refine⟨"dict","dict.items",F.plainAttrs_dict,Uh,F.type_dict_items,t1,t2,PV rfl (PySem.evalArgs_none ?_)⟩;refine w8 t1 IH hd ?_;refine Rk ?_;have kpv:∀b o,s1.heap.get? b=Z o->(s1.heap.push {cls:=LK "dict_items",data:=UI #[Lo a]}).get? b=Z o:=λb o e=>p0 _ e;obtain⟨hS,II⟩:=s9 (xs:=kvs.map kvD) hok (λd hd=>by obtain⟨kv,IJ,rfl⟩:=KP.mp hd;exact Iy kv IJ)
 have U:=jh hok;have IA:∀(h':Heap) (r:Rw),(∀b o,s1.heap.get? b=Z o->h'.get? b=Z o)->r.2.1∈kvs->RD X.K H1 r.2.1.1 r.2.2.1->RelV r.2.2.1 r.2.2.2.2.key->RD X.K H1 r.2.1.2 r.2.2.2.1->RelV r.2.2.2.1 r.2.2.2.2.val->h'.get? r.1=Z {cls:=.type "tuple",data:=.seq #[r.2.2.2.2.key,r.2.2.2.2.val]}->∃as,Pq h' (.ref r.1) (pd (kvD r.2.1)) as:=by
  intro h' r kp hm g1 g2 g3 g4 g5;have J:=Iy _ hm
  match sh,J,U with
  |.tup l,J,U=>
   simp only[kvD,hs]at J
   match l,J,U with
   |[sa,sb],J,U=>
    simp only[hss,tv,and_true]at J;simp only[dep,deps]at U;obtain⟨as,ra⟩:=bH I1 F2 16 _ _ _ _ (oo fv sa _ 16 J.1 ∅) g1 g2
    obtain⟨bs,rb'⟩:=bH I1 F2 16 _ _ _ _ (oo fv sb _ 16 J.2 ∅) g3 g4
    have ra:=be (λb o e _=>kp b o e) (kh sa _ J.1).1 ra;have rb':=be (λb o e _=>kp b o e) (kh sb _ J.2).1 rb';have fin:Pq h' (.ref r.1) (.tuple [pd r.2.1.1,pd r.2.1.2]) (as++(bs++[])):=.tuple g5 rfl rfl (.cons ra (.cons rb' .nil));exact⟨_,fin⟩
   |[],J,_=>simp[hss]at J
   |[_],J,_=>simp[hss]at J
   |_::_::_::_,J,_=>simp[hss]at J
  |.int,J,_=>simp[kvD,hs]at J
 refine nh (cap:=KJ) u6 (m:=7) (ds:=(kvs.map kvD).map pd) (C:=λh' us=>(∀b o,s1.heap.get? b=Z o->h'.get? b=Z o)/\∃L:List Rw,L.map (λr=>Lo r.1)=us/\L.map (λr=>r.2.1)=kvs/\us.Nodup/\∀r∈L,RD X.K H1 r.2.1.1 r.2.2.1/\RelV r.2.2.1 r.2.2.2.2.key/\RD X.K H1 r.2.1.2 r.2.2.2.1/\RelV r.2.2.2.1 r.2.2.2.2.val/\h'.get? r.1=Z {cls:=.type "tuple",data:=.seq #[r.2.2.2.2.key,r.2.2.2.2.val]}/\s1.heap.get? r.1=Y) ∅ hS II (λE R hR=>?_) λh1 h2 us out n' tk hC old g2 Iq IB IQ IR ht=>?_
 ·refine It.collect_view (A:=X.A.in1) (s:={s1 with heap:=s1.heap.push {cls:=LK "dict_items",data:=UI #[Lo a]}}) (I.ok.hd hc) (KG _ rfl) (kpv _ _ hd) hz λh' us k1 k2 k3 k4=>?_
  obtain⟨L,l1,l2,l3⟩:=A9 (G:=λt e=>h'.get? t=Z {cls:=.type "tuple",data:=.seq #[e.key,e.val]}/\s1.heap.get? t=Y) Iz (by simpa using k2) λj hj=>by
   obtain⟨t,e,e1,e2,e3,e4⟩:=k4 j (by simpa using hj)
   refine⟨t,e,e1,by rw[Le];exact e2,e3,?_⟩
   cases hq:s1.heap.get? t with
   |none=>rfl
   |some o=>rw[kpv _ _ hq]at e4;cases e4
  refine hR h' us _ ⟨λb o e=>k1 b o (kpv b o e),L,l1,l2,k3,l3⟩ (λu hu=>?_) ⟨by rw[k2];exact hz,by rw[k2];exact hz⟩ (L3 _)
  rw[<-l1]at hu;obtain⟨r,O,rfl⟩:=KP.mp hu;obtain⟨p1,p2,p3,p4,p5,p6⟩:=l3 r O;have hm:r.2.1∈kvs:=by rw[<-l2];exact L6 O
  obtain⟨as,ra⟩:=IA h' r (λb o e=>k1 b o (kpv b o e)) hm p1 p2 p3 p4 p5;exact⟨_,L6 (L6 hm),as,ra⟩
 ·obtain⟨kp,L,l1,l2,l3,l4⟩:=hC;rw[<-l1]at Iq;obtain⟨L',p1,p2⟩:=eW (fun r:Rw=>Lo r.1) Iq rfl;have IC:∀b o,s1.heap.get? b=Z o->h2.get? b=Z o:=fun b o e=>old b o (kp b o e);have B:s1.heap.get? h1.objs.size=Y:=by
   cases hq:s1.heap.get? h1.objs.size with
   |none=>rfl
   |some o=>exact absurd (z4 (kp _ _ hq)) (Mh _)
  have IK:(L.map λr=>r.1).Nodup:=by
   rw[<-l1]at l3;have:(L.map λr=>Lo r.1)=(L.map λr=>r.1).map Lo:=by simp
   rw[this]at l3;exact List.Pairwise.of_map _ (λa b Is he=>Is (by rw[he])) l3
  have Ir:∀r∈L',r∈L:=λr O=>p1.mem_iff.mp O;have hp:∀r∈L,r.1≠h1.objs.size:=λr O=>Lc (z4 (l4 r O).2.2.2.2.1)
  let N:VQ->Option HO:=λb=>if b=h1.objs.size then Z (.lst (L'.map λr=>V.ref r.1))else(L.find? λx=>decide (x.1=b)).map λr=>.tup [r.2.2.1,r.2.2.2.1]
  have ID:N h1.objs.size=Z (.lst (L'.map λr=>V.ref r.1)):=by show(if _ then _ else _)=_;rw[if_pos rfl]
  have IM:∀r∈L,N r.1=Z (.tup [r.2.2.1,r.2.2.2.1]):=λr O=>by
   show(if _ then _ else _)=_
   rw[if_neg (hp r O),yT IK O];rfl
  have Iw:∀b o,N b=Z o->b=h1.objs.size/\o=.lst (L'.map λr=>V.ref r.1)∨∃r∈L,b=r.1/\o=.tup [r.2.2.1,r.2.2.2.1]:=λb o e=>by
   by_cases hb:b=h1.objs.size
   ·subst hb;rw[ID]at e;cases e;exact .inl ⟨rfl,rfl⟩
   ·right
    have e:((L.find? λx=>decide (x.1=b)).map λr=>HO.tup [r.2.2.1,r.2.2.2.1])=Z o:=by
     have e':(if b=h1.objs.size then Z (HO.lst (L'.map λr=>V.ref r.1))else(L.find? λx=>decide (x.1=b)).map λr=>HO.tup [r.2.2.1,r.2.2.2.1])=Z o:=e
     rw[if_neg hb]at e';exact e'
    cases hf:L.find? λx=>decide (x.1=b)with
    |none=>rw[hf]at e;cases e
    |some r=>rw[hf]at e;cases e;have IN:=UY hf;exact⟨r,Rc hf,(by simpa using IN:r.1=b).symm,rfl⟩
  have oldH:∀b o,H1 b=Z o->lay H1 N b=Z o:=λb o e=>by
   rw[iH]
   ·exact e
   ·cases hq:N b with
    |none=>rfl
    |some o'=>
     obtain⟨ob,eo⟩:=(I1.hok b o e).there
     rcases Iw b o' hq with⟨rfl,_⟩|⟨r,O,rfl,_⟩
     ·rw[B]at eo;cases eo
     ·rw[(l4 r O).2.2.2.2.2]at eo;cases eo
  have st:Stab H1 (lay H1 N):=⟨λb xs e=>oldH b _ e,λb o u e=>oldH b _ e⟩;have Ix:L'.length=kvs.length:=by rw[p1.length_eq,<-l2];simp
  have IO:=ck Iz;have I2:=I1.laidN (t':=tk) (h':=h2) (N:=N) IC (λb o e=>by
   rcases Iw b o e with⟨rfl,_⟩|⟨r,O,rfl,_⟩
   ·exact B
   ·exact(l4 r O).2.2.2.2.2) (λb o e=>by
   rcases Iw b o e with⟨rfl,rfl⟩|⟨r,O,rfl,rfl⟩
   ·refine⟨by rw[q7,Ix,IO];simpa using hz,out,n',?_,g2⟩
    rw[<-p2];have:∀l:List Rw,Vals (l.map λr=>V.ref r.1) (l.map λr=>Lo r.1):=by
     intro l
     induction l with
     |nil=>exact .nil
     |cons r l ih=>exact .cons rfl ih
    exact this L'
   ·obtain⟨q1,q2,q3,q4,q5,q6⟩:=l4 r O;exact⟨by show 2<=KJ;decide,[r.2.2.2.2.key,r.2.2.2.2.val],.cons q2 (.cons q4 .nil),_,old _ _ q5,rfl,0,rfl⟩)
  refine⟨.ref h1.objs.size,_,I2,rfl,?_⟩;have IE:fv h1.objs.size=Y:=F2.out (I1.fresh' B);have IF:RDs X.K (lay H1 N) (L'.map λr=>kvD r.2.1) (L'.map λr=>V.ref r.1):=by
   have:∀l:List Rw,(∀r∈l,r∈L)->RDs X.K (lay H1 N) (l.map λr=>kvD r.2.1) (l.map λr=>V.ref r.1):=by
    intro l
    induction l with
    |nil=>intro _;exact RDs.nil
    |cons r l ih=>
     intro hl;obtain⟨q1,q2,q3,q4,q5,q6⟩:=l4 r (hl r (by simp))
     refine RDs.cons (VC ⟨r.1,_,rfl,lc (IM r (hl r (by simp))),RDs.cons (q1.mono st) (RDs.cons (q3.mono st) RDs.nil)⟩) (ih λr' IP=>hl r' (by simp[IP]))
   exact this L' Ir
  refine q h1.objs.size (L'.map λr=>kvD r.2.1) IE ?_ ?_ (.ref h1.objs.size) (lay H1 N) (x1.trans ⟨λb o _ e=>oldH b o e,λb o n e=>?_⟩) (λa' o' e'=>?_) (Vu.mpr rfl)
  ·have:=p1.map (λr:Rw=>kvD r.2.1);rw[show L.map (λr:Rw=>kvD r.2.1)=(L.map λr=>r.2.1).map kvD by simp,l2]at this
   exact this
  ·unfold gp;rw[Mg];rw[<-p2,Mg]at IB;refine IB.imp_of_mem fun {a b} ha hb Is=>?_;have rd:∀r∈L',MY h2 (Lo r.1)=pd (kvD r.2.1):=fun r O=>by
    obtain⟨q1,q2,q3,q4,q5,q6⟩:=l4 r (Ir r O);have hm:r.2.1∈kvs:=by rw[<-l2];exact L6 (Ir r O)
    obtain⟨as,ra⟩:=IA h2 r IC hm q1 q2 q3 q4 (old _ _ q5);exact NF (hS.lay _ (L6 (L6 hm))).1 ra
   rw[rd a ha,rd b hb]at Is;exact Is
  ·have hb:b≠h1.objs.size:=fun z=>by
    rw[z,I1.fresh' B]at e;cases e
   exact ar hb
  ·by_cases hz:a'=h1.objs.size
   ·subst hz;rw[ab]at e';cases e';exact⟨_,lc ID,IF⟩
   ·rw[ar hz]at e';exact(F2 a' o' e').mono st λho e=>oldH a' ho e
end
section
noncomputable def ot(to tk tx:TEd):TEd:=λρ M Q=>to ρ M λx M1=>∃a t kvs,x=.ref a/\M1 a=Z (.dct t kvs)/\tk ρ M1 λk M2=>tx ρ M2 λz M3=>∃t' kvs',M3 a=Z (.dct t' kvs')/\eQ t' k=N3/\Q ((dget kvs' k).getD z) M3
theorem w9{to tk tx:TEd}(h1:ad to)(h2:ad tk)(B:ad tx):ad (ot to tk tx):=λρ M Q Q' i q=>h1 _ _ _ _ (λx U j=>(by obtain⟨a,t,kvs,e,F,G⟩:=j;exact⟨a,t,kvs,e,F,h2 _ _ _ _ (λk M2 J=>B _ _ _ _ (λz F2 j=>(by obtain⟨t',kvs',L,ok,O⟩:=j;exact⟨t',kvs',L,ok,i _ _ O⟩)) J) G⟩)) q
section
variable{X:Cx}
theorem DA{M:Mem}(rm:RM K M H){t:Bool}(e:M a=Z (.dct t kvs)):IsD H a:=by
 have ro:=rm a _ e
 cases t with
 |false=>obtain⟨ps,j,_⟩:=ro;exact .inl ⟨_,Rd.of j⟩
 |true=>obtain⟨ps,j,_⟩:=ro;exact .inr ⟨_,Rd.of j⟩
theorem Br{o e f:Expr}{to tk tx:TEd}{apos cpos:Pos}(F2:X.A.units+1<Oa)(mo:ad to)(mk:ad tk)(mx:ad tx)(ho:PE X o (lE X.K to))(he:PE X e (lE X.K tk))(hf:PE X f (lE X.K tx))(m:M2 X o "get" apos e f cpos):
 PE X (.Call (.Attribute o "get" apos) [e,f] [] cpos) (lE X.K (ot to tk tx)):=by
 refine PE.imp (xV F2 ho he hf m) λσ H Q h=>?_;obtain⟨ρ,M,rs,rm,q⟩:=h;refine⟨ρ,M,rs,rm,mo _ _ _ _ (λx fv g9 v H1 L j rd1=>?_) q⟩;obtain⟨a,t,kvs,e,e1,q1⟩:=g9;subst e
 cases Vu.mp rd1
 have B:=rs.mono (L.stab rm);refine⟨a,rfl,DA j e1,ρ,fv,B,j,mk _ _ _ _ (λk M2 q2 v2 H2 O F G=>?_) q1⟩;have J:=B.mono (O.stab j);refine⟨ρ,M2,J,F,mx _ _ _ _ (λz M3 g9 v3 H3 U rm3 rd3=>?_) q2⟩;obtain⟨t',kvs',e3,ok,q3⟩:=g9;obtain⟨w,g,g1,g2⟩:=kT rm3 e3 ok (G.mono (U.stab F));refine⟨w,g,?_⟩;refine q3 _ H3 (L.trans (O.trans U)) rm3 ?_
 cases e4:dget kvs' k with
 |none=>rw[g2 e4];exact rd3
 |some d=>obtain⟨w',e5,r5⟩:=g1 d e4;rw[e5];exact r5
end
end
end Mi
namespace Mi
end Mi
namespace Mi
end Mi
section
section
variable{prog:Lb}{w:Ly}{A:LD}{E:i3->r0->Prop}
theorem nj{it l:VQ}{items:Array i3}(j:l≠it):∀(n i:Nat) (s:r0) (Q:List i3->r0->Prop),s.heap.IsListIter it l i->s.heap.IsList l items->i+n<=items.size->
 (∀h':Heap,h'.IsListIter it l (i+n)->My it s.heap h'->Q ((items.toList.drop i).take n) {s with heap:=h'})->KU (model prog w) A (draw (.ref it) n) Q E s
 |0,i,s,Q,hi,B,hs,q=>by
  unfold draw;have:=q s.heap (by simpa using hi) ⟨rfl,λ_ _=>rfl⟩
  exact y4 (by simpa using this)
 |n+1,i,s,Q,hi,B,hs,q=>by
  unfold draw;refine gV (S2 hi B (x:=items[i]'∅) (by simp) λh' F sb=>?_)
  refine gV (LU (nj j n (i+1) _ _ F (B.extBut sb.extBut j) ∅ λh2 G z=>?_))
  refine y4 ?_;have e:items[i]'∅::(items.toList.drop (i+1)).take n=(items.toList.drop i).take (n+1):=by rw[Mt (i:=i) (l:=items.toList) (by simp;lia),List.take_succ_cons];rfl
  have:=q h2 (by rw[show i+(n+1)=i+1+n by lia];exact G) ⟨z.1.trans sb.1,λb J=>(z.2 b J).trans (sb.2 b J)⟩
  rw[<-e]at this;exact this
theorem ji{l:VQ}{items:Array i3}{Q:List i3->r0->Prop}(F:A.handled=Y)(j:s.heap.IsList l items)(q:∀h',(∀b o,s.heap.get? b=Z o->h'.get? b=Z o)->Q items.toList {s with heap:=h'}):KU (model prog w) A (UH (.ref l) items.size Y) Q E s:=by
 unfold UH;have nb:∀Q':Bool->r0->Prop,Q' VP s->KU (model prog w) A (UC (.ref l)) Q' E s:=λQ' h=>by unfold UC;refine gV (Sv j.typeIs slot_list_iter.lookup ?_);exact y4 h
 refine gV (nb _ ?_);simp only[MB,if_false];refine gV (LU (Nb j ?_));have lt:l<s.heap.objs.size:=by obtain⟨o,e,_⟩:=j;exact z4 e
 refine gV (LU (nj (items:=items) (Lc lt) items.size 0 _ _ ⟨_,KG _ rfl,rfl,rfl⟩ (j.push _) ∅ λh2 G z=>?_))
 have B:h2.IsList l items:=(j.push _).extBut z.extBut (Lc lt);rw[List.drop_zero,Nf (by simp)]
 rw[if_neg (by simp)]
 refine gV (LU (Sz F (s:={s with heap:=h2}) G B (by simp) λJ eb=>?_))
 simp only[Option.isSome_none,MB,if_false];refine y4 (q J λb o e=>?_);have nb:b≠s.heap.objs.size:=Lc (z4 e);exact eb b o nb (z.extBut b o nb (p0 _ e))
theorem rB{k:Nat}{l:VQ}{items:Array i3}{Q:Unit->r0->Prop}(z:A.handled=Y)(B:s.heap.IsList l items)(F:(Mp elts env).length=items.size)(j:(Mp elts env).findIdx? (·.1)=Y)(q:∀h',(∀b o,s.heap.get? b=Z o->h'.get? b=Z o)->KU (model prog w) A (Rr ((Mp elts env).map (·.2)) items.toList) Q E {s with heap:=h'}):
 KU (model prog w) A (assign (.Tuple elts k pos) env (.ref l)) Q E s:=by
 rw[assign_Tuple];refine gV (Oh ?_);unfold unpack;rw[j,F];exact gV (LU (ji z B q))
end
section
variable{X:Cx}
noncomputable def Ga(K:Frag)(n:Nat)(t:TGs):TG:=λv σ H Q=>∃a xs,v=.ref a/\SqL K H a xs/\xs.length=n/\t xs σ H Q
theorem DB{es:List Expr}{k:Nat}{t:TGs}{n:Nat}(z:X.calm=N3)(h:PGs X es t)(B:(Mp es X.env).length=n)(j:(Mp es X.env).findIdx? (·.1)=Y):PG X (.Tuple es k pos) (Ga X.K n t):=by
 intro pins s σ H v u Q I r hw;obtain⟨a,xs,F,G,J,hw⟩:=hw;subst F
 cases r
 obtain⟨its,rv,L,U⟩:=I.list G;refine rB (I.ok.hd z) L.isList (by simp[B,<-J,rv.length]) j λh' hx=>?_
 have O:Inv X pins σ H {s with heap:=h'}:=I.kept (t':=s.toks) hx
 exact h pins _ σ H xs _ Q O (by simpa using rv) hw
end
namespace Mi
section
variable{X:Cx}{K:Frag}
noncomputable def lGL(K:Frag)(b:BTs):TG:=λv σ H Q=>∃a vs ds ρ ρ',v=.ref a/\SqL K H a vs/\RDs K H ds vs/\RS K H σ ρ/\b ds ρ=Z ρ'/\∀σ',RS K H σ' ρ'->Q σ' H
theorem DC{es:List Expr}{k:Nat}{bs:BTs}{n:Nat}{pos:Pos}(z:X.calm=N3)(hlen:∀ds ρ ρ',bs ds ρ=Z ρ'->ds.length=n)(h:PGs X es (lGs X.K bs))(B:(Mp es X.env).length=n)(j:(Mp es X.env).findIdx? (·.1)=Y):PG X (.Tuple es k pos) (lGL X.K bs):=PG.imp (DB z h B j) λv σ H Q g9=>(by obtain⟨a,vs,ds,ρ,ρ',e,sq,r,rs,eb,q⟩:=g9;exact⟨a,vs,e,sq,by rw[r.length];exact hlen _ _ _ eb,ds,ρ,ρ',r,rs,eb,q⟩)
noncomputable def ou(te:TEd)(b:BTs):TSd:=λD ρ M=>te ρ M λx M1=>∃a ds ρ',x=.ref a/\M1 a=Z (.lst ds)/\b ds ρ=Z ρ'/\D.nx ρ' M1
theorem wa{te:TEd}{bt:BTs}(h:ad te):aQ (ou te bt):=λa b ρ M i q=>h _ _ _ _ (λd G j=>(by obtain⟨x,ds,ρ',e,z,B,F⟩:=j;exact⟨x,ds,ρ',e,z,B,i.nx _ _ F⟩)) q
theorem wb{te:TEd}{b:BTs}(m:ad te)(D:bN)(σ:St)(H:Hp)(h:lS K (ou te b) D σ H):oD (lE K te) (lGL K b) D σ H:=by
 obtain⟨ρ,M,A,rs,rm,l,q⟩:=h;refine⟨ρ,M,rs,rm,m _ _ _ _ (λd B g9 v H1 z j rd1=>?_) q⟩;obtain⟨a,ds,ρ',F,G,e,J⟩:=g9;subst F
 cases Vu.mp rd1
 obtain⟨vs,L,rv⟩:=j _ _ G;exact⟨a,vs,ds,ρ,ρ',rfl,SqL.of L,rv,rs.mono (z.stab rm),e,λσ' rs'=>l.nx ρ' B σ' H1 z rs' j J⟩
end
end Mi
end
namespace Mi
end Mi
namespace Dk
variable{it d:VQ}{ep:Nat}{dd:Option VQ}{sl:Array (Option i3)}{es:Array Md}
section
variable{prog:Lb}{w:Ly}{A:LD}{E:i3->r0->Prop}{s:r0}
noncomputable def kO(d:VQ)(i n ep:Nat):Obj:={cls:=.type "dict_keyiterator",data:=.fields #[.ref d,.int i 0,.int n 0,.int ep 0]}
theorem slot_next:Slot "dict_keyiterator" "__next__" "dict_keyiterator.__next__":=.of (owner:="dict_keyiterator") (n:="__next__") (by rw[typeLookup_type,SF];kernel_rfl) (by decide +kernel) (by decide +kernel) (by decide +kernel) (.inl (by decide +kernel)) (by rw[Q3];kernel_rfl)
theorem cj:entryFor table "dict_keyiterator.__next__"=Z N9.«dict_keyiterator.__next__»:=UA (by kernel_rfl)
theorem cE(a:i3):argsOk "dict_keyiterator.__next__" ⟨[a],[]⟩:=by unfold argsOk;kernel_rfl
theorem cQ(ty:s.TypeIs (.ref it) "dict_keyiterator"){types:List String}{Q:Bool->r0->Prop}(q:Q (types.any λt=>[LK "dict_keyiterator",LK "object"].contains (LK t)) s):KU (model prog w) A (NY (.ref it) types) Q E s:=by
 have hm:=Tp;unfold NY
 wp_walk
 exact q
theorem dL{i:Nat}{cd:i3}{e:Md}{Q:Option i3->r0->Prop}(hi:s.heap.get? it=Z (kO d i es.size ep))(hd:s.heap.get? d=Z {cls:=cd,dict:=dd,data:=.dict es ep,slots:=sl})(he:es[i]?=Z e)(q:∀h',h'.get? it=Z (kO d (i+1) es.size ep)->My it s.heap h'->Q (Z e.key) {s with heap:=h'}):KU (model prog w) A (NS (.ref it)) Q E s:=by
 have ty:s.TypeIs (.ref it) "dict_keyiterator":=⟨_,hi,rfl⟩;unfold NS;refine gV (NN (Lr (name:=Ll "__next__") ty slot_next (LB slot_next ty cj ?_ (cE _))));unfold N9.«dict_keyiterator.__next__»;have hm:=Tp
 wp_walk
 dsimp only;rw[if_neg (by simp)]
 simp only[KO,he];refine gV (Mj (Q:=λn s'=>n=0/\s'=s) ?_ (λn s' hs=>?_) λ_ _ z=>z)
 ·wp_walk
  exact⟨by kernel_rfl,rfl⟩
 obtain⟨rfl,rfl⟩:=hs;refine gV (cQ ty ?_);refine gV (Li hi (by simp) λh1 j s1=>?_)
 rw[if_neg (by decide +kernel)]at j
 have j:h1.get? it=Z (kO d (i+1) es.size ep):=j;have B:Tj {s' with heap:=h1} (.ref it) "dict_keyiterator":=⟨_,j,rfl⟩
 refine gV (LU ?_);refine gV (cQ B ?_);refine Q5 (by decide +kernel) ?_
 refine y4 (y4 ⟨_,rfl,y4 ?_⟩);exact q h1 j s1
theorem nx_end{cd:i3}{Q:Option i3->r0->Prop}(j:A.handled=Y)(hi:s.heap.get? it=Z (kO d es.size es.size ep))(hd:s.heap.get? d=Z {cls:=cd,dict:=dd,data:=.dict es ep,slots:=sl})(q:∀h',(∀b o,b≠it->s.heap.get? b=Z o->h'.get? b=Z o)->Q Y {s with heap:=h'}):KU (model prog w) A (NS (.ref it)) Q E s:=by
 have ty:s.TypeIs (.ref it) "dict_keyiterator":=⟨_,hi,rfl⟩;unfold NS;refine gV (NN (Lr (name:=Ll "__next__") ty slot_next (LB slot_next ty cj ?_ (cE _))));unfold N9.«dict_keyiterator.__next__»;have hm:=Tp
 wp_walk
 dsimp only;rw[if_neg (by simp)]
 have he:es[es.size]?=Y:=OK (L3 _);simp only[KO,he];refine gV (Mj (Q:=λn s'=>n=0/\s'=s) ?_ (λn s' hs=>?_) λ_ _ z=>z)
 ·wp_walk
  exact⟨by kernel_rfl,rfl⟩
 obtain⟨rfl,rfl⟩:=hs;refine gV (Li hi (by simp) λh1 F s1=>?_)
 refine gV (m:=Vb (.type "StopIteration") []) ?_;simp only[Vb,Vc];refine gV (Ms ?_ (by size_fits))
 refine gV (m:=P7 _ _) (P5 (a:=MZ) (by first|rfl|(simp only[P7];rfl)) (Ms ?_ (by size_fits)))
 simp only[raiseNew];refine gV (Ti ?_)
 first|rw[show A.in1.handled=Y from j]|rw[j]
 refine gV (y4 (UL ?_));exact gV (Ox (T:="StopIteration") (b:=N3) ⟨_,KG _ rfl,rfl⟩ R0 (y4 (q _ λb o B e=>p0 _ (p0 _ (s1.extBut b o B e)))))
theorem Bs{Q:i3->r0->Prop}(j:(d==MP)=VP)(hd:s.heap.get? d=Z {cls:=.type "dict",dict:=dd,data:=.dict es ep,slots:=sl})(q:Q (.ref s.heap.objs.size) {s with heap:=s.heap.push (kO d 0 es.size ep)}):KU (model prog w) A (S0 (.ref d)) Q E s:=by
 have ty:s.TypeIs (.ref d) "dict":=⟨_,hd,rfl⟩;refine Ug ty UD (LB UD ty F.entry_dict_iter ?_ (F.args_dict_iter_1 _));unfold N9.«dict.__iter__»
 wp_walk
 exact⟨_,rfl,"dict_keyiterator",_,⟨_,KG _ rfl,rfl⟩,slot_next.lookup,q⟩
theorem walk(hn:A.handled=Y)(it d:VQ)(hne:d≠it)(es:Array Md)(ep:Nat):
 Walks prog w A it [it,d] [it] es.size (λi v=>∃e,es[i]?=Z e/\v=e.key) (λi h=>h.get? it=Z (kO d i es.size ep)/\∃cd dd sl,h.get? d=Z {cls:=cd,dict:=dd,data:=.dict es ep,slots:=sl}) where
 sub:=λb hb=>by simp at hb;simp[hb]
 frame:=λ_ _ _ st k=>⟨k it (by simp) _ st.1,by obtain⟨cd,dd,sl,h⟩:=st.2;exact⟨cd,dd,sl,k d (by simp) _ h⟩⟩
 item:=λi s Q E hi st q=>by obtain⟨h1,cd,dd,sl,h2⟩:=st;refine dL (e:=es[i]) h1 h2 (LA hi) λh' e' s'=>?_;exact q _ h' s.toks ⟨_,LA hi,rfl⟩ ⟨e',cd,dd,sl,s'.extBut d _ hne h2⟩ λb o hb x=>s'.extBut b o (λz=>hb (by simp[z])) x
 done:=λs Q E st q=>by obtain⟨h1,cd,dd,sl,h2⟩:=st;exact nx_end hn h1 h2 λh' k=>q h' s.toks λb o hb x=>k b o (λz=>hb (by simp[z])) x
 self:=λi s Q E st q=>wpAny_pyIter_keyiter ⟨_,st.1,rfl,rfl⟩ q
theorem wc{Q:Bool->r0->Prop}(ty:s.TypeIs (.ref d) "dict")(q:Q VP s):KU (model prog w) A (NM (.ref d)) Q E s:=by
 unfold NM;refine gV (Sv ty F.slot_dict_len.lookup ?_);generalize j:("dict.__len__":String)=z
 (fail_if_success (clear j z));wp_delta
 rw[show splitId z=Z ("dict","__len__")from by subst j;decide +kernel]
 subst j;refine gV (Ox (b:=N3) ty (by rw[Q3];kernel_rfl) ?_)
 rw[if_neg (by decide)]
 refine Q5 (by decide +kernel) ?_
 refine gV (Pc ty ?_);exact y4 q
open Builtin.List in
theorem yV(hn:A.handled=Y){S:VQ}{c:Nat}{R:V4->r0->Prop}(res:i3)(fv:(d==MP)=VP)(hd:s.heap.get? d=Z {cls:=.type "dict",dict:=dd,data:=.dict es ep,slots:=sl})(F2:s.heap.get? S=Z {cls:=.type "list",data:=.seq #[] c})(hz:es.size<=KJ)(q:∀(h':Heap) (tk:Nat) (acc':Array i3) (c':Nat),(∀b o,b≠S->s.heap.get? b=Z o->h'.get? b=Z o)->h'.get? S=Z {cls:=.type "list",data:=.seq acc' c'}->acc'.toList=es.toList.map (·.key)->s.toks<=tk->R (.ok (.ret res)) {s with heap:=h',toks:=tk}):
 KU (model prog w) A.in1 (listExtendWith (.ref S) (.ref d) res) (λfin s'=>match fin with|.done f=>R (.ok f) s'|.again c'=>c'.quiet=N3/\OH (model prog w) A c' R s') (λe s'=>R (.error e) s') s:=by
 have ty:s.TypeIs (.ref d) "dict":=⟨_,hd,rfl⟩;have G:S≠d:=λe=>by rw[e,hd]at F2;simp at F2
 have h1:listSameRef (.ref S) (.ref d)=VP:=by simp[listSameRef,G]
 unfold listExtendWith;refine gV (Pc ty ?_);rw[if_neg (by rw[h1];decide)]
 refine gV (Bs fv hd ?_);refine gV (LU (wc (s:={s with heap:=s.heap.push (kO d 0 es.size ep)}) ⟨_,p0 _ hd,rfl⟩ ?_))
 have B:=z4 F2;have J:=z4 hd;have W:=(walk (prog:=prog) (w:=w) (A:=A.in1) hn s.heap.objs.size d (Lc J) es ep).toS;have Iq:S∉[s.heap.objs.size,d]:=λhm=>by
  simp only[KH,Lw,or_false]at hm
  rcases hm with e|e
  ·exact absurd (e▸B) (Mh _)
  ·exact G e
 refine Q5 (by decide +kernel) ?_
 refine gV (Nl ?_);unfold listTouch;have L:(s.heap.push (kO d 0 es.size ep)).get? S=Z (TK "list" #[] c):=p0 _ F2;refine gV (gV (Ov L rfl ?_ (by simp) (by simp)))
 have O:=NG L (λx=>x.push MZ);refine Ov O rfl ?_ (by simp;decide) (by simp)
 have Ir:=NG O (λx=>x.pop);have oth:∀b o,b≠S->s.heap.get? b=Z o->(((s.heap.push (kO d 0 es.size ep)).update S (Na λx=>x.push MZ)).update S (Na λx=>x.pop)).get? b=Z o:=λb o U e=>by rw[LR _ _ _ _ U,LR _ _ _ _ U];exact p0 _ e
 have hit:(((s.heap.push (kO d 0 es.size ep)).update S (Na λx=>x.push MZ)).update S (Na λx=>x.pop)).get? s.heap.objs.size=Z (kO d 0 es.size ep):=by rw[LR _ _ _ _ (Ml B),LR _ _ _ _ (Ml B)];exact KG _ rfl
 refine y4 ⟨To QI _,codeAny_extend_loopS W hz _ Iq _ es.size 0 _ _ _ rfl (Nv _) ⟨hit,_,_,_,oth d _ G.symm hd⟩ Ir (ItemsOf.nil _) λs' acc c' hm Is ha=>?_⟩;rw[hm.eq_with];refine q _ _ acc c' (λb o U e=>?_) Is ?_ hm.toks
 ·exact hm.heap b o (fun z=>by
   simp only[KH,Lw,or_false]at z
   rcases z with z|z
   ·exact U z
   ·exact absurd (z▸z4 e) (Mh _)) (oth b o U e)
 ·obtain⟨g1,g2⟩:=ha;apply MA;intro j;rw[Le,KL,Le]
  by_cases hj:j<es.size
  ·obtain⟨e,he,hv⟩:=g2 j (acc[j]'∅) (LA ∅)
   rw[LA ∅,hv,he];rfl
  ·rw[OK ∅,OK ∅];rfl
theorem collect_dict(L:A.handled=Y){Q:List i3->r0->Prop}(j:(d==MP)=VP)(hd:s.heap.get? d=Z {cls:=.type "dict",dict:=dd,data:=.dict es ep,slots:=sl})(O:es.size<=KJ)(q:∀(h':Heap) (tk:Nat),(∀b o,s.heap.get? b=Z o->h'.get? b=Z o)->s.toks<=tk->Q (es.toList.map (·.key)) {s with heap:=h',toks:=tk}):KU (model prog w) A (collect (.ref d)) Q E s:=by
 unfold collect;refine gV (wpAny_runValue (OV SG ?_));unfold N9.«proto.collect»;dsimp only;refine gV (Qr ?_ (by simp))
 refine y4 ⟨TL _ (by decide +kernel),?_⟩
 refine OV UB ?_;unfold N9.«list.__iadd__»;refine gV (P5 (a:=(Lo s.heap.objs.size,[Lo d])) (by kernel_rfl) ?_)
 have z:(s.heap.push {cls:=LK "list",data:=OU [].toArray}).get? s.heap.objs.size=Z {cls:=LK "list",data:=OU #[] 0}:=KG _ rfl;rw[Around.under_plain (by rfl) (by rfl)]
 refine Mj (yV (s:={s with heap:=s.heap.push {cls:=LK "list",data:=OU [].toArray}}) (R:=λr s'=>r=.ok (.ret (.ref s.heap.objs.size))/\KU (model prog w) A (do
  let o <-load s.heap.objs.size
  match o.data with
  |.seq xs _=>pure xs.toList
  |_=>unsupported "internal:collect") Q E s') L (Lo s.heap.objs.size) j (p0 _ hd) z O λh' tk acc c' kp B U G=>⟨rfl,?_⟩) (λfn s' h=>?_) (λe s' h=>?_)
 ·refine gV (V3 B ?_);refine y4 ?_;rw[U];exact q h' tk (λb o e=>kp b o (Lc (z4 e)) (p0 _ e)) G
 ·cases fn with
  |done f=>
   obtain⟨e,h⟩:=h
   cases e
   exact h
  |again c'=>refine⟨h.1,Ob h.2 λr s1 J=>?_⟩;obtain⟨rfl,J⟩:=J;exact J
 ·cases h.1
end
end Dk
namespace Mi
open L2.Srt
noncomputable def kj:RAd:=λds M Q=>∃a t kvs sh,ds=[.ref a]/\M a=Z (.dct t kvs)/\i5 sh=N3/\(∀kv∈kvs,hs sh kv.1=N3)/\kvs.length<=63/\∀p ys,M p=Y->ys.Perm (kvs.map (·.1))->gp ys->Q (.ref p) (ag M p (.lst ys))
theorem kl:aK kj:=λ_ _ _ _ h j=>(by obtain⟨a,t,kvs,sh,e,z,B,F,G,q⟩:=j;exact⟨a,t,kvs,sh,e,z,B,F,G,λp ys n J hs=>h _ _ (q p ys n J hs)⟩)
theorem sj{K:Frag}{H:Hp}:∀{kvs:List (D×D)} {es:List Md},Mo (lf K H) kvs es->∃vs,RDs K H (kvs.map (·.1)) vs/\Vals vs (es.map (·.key))
 |_,_,.nil=>⟨[],RDs.nil,.nil⟩
 |_,_,.cons r t=>by obtain⟨vs,h1,h2⟩:=sj t;obtain⟨kV,vV,g1,g2,_,_⟩:=r;exact⟨kV::vs,RDs.cons g1 h1,.cons g2 h2⟩
section
variable{X:Cx}
theorem qd(L:X.A.units+16<Oa)(O:X.calm=N3):CallR X (.builtin "sorted") (lR X.K kj):=by
 intro pins s σ H xs us Q I r h;obtain⟨ds,M,rm,rs,a,t,kvs,sh,rfl,e,hok,j,U,q⟩:=h;obtain⟨v,rfl,rv⟩:=rs.one;obtain⟨u,rfl,ru⟩:=dC r
 cases Vu.mp rv
 cases(show u=Lo a from ru)
 obtain⟨cd,dd,sl,es,ep,hd,F2,z,fv⟩:=si I rm e;obtain⟨t1,t2,B⟩:=jH I fv;obtain⟨vs,h1,h2⟩:=sj z;have F:cd=.type "dict":=by obtain⟨o,g1,g2⟩:=t1;rw[hd]at g1;cases g1;exact g2
 subst F;have hn:X.A.in1.handled=Y:=I.ok.hd O;exact rA rp L I rm h1 hok (λd hd=>by obtain⟨kv,G,rfl⟩:=KP.mp hd;exact j kv G) q h2 (by have:=h2.length;rw[q7]at this;simp at this;lia) (by have:=h2.length;rw[q7]at this;have h9:=h1.length;rw[q7]at h9;lia) λE R hR=>Dk.collect_dict hn B hd F2 λh' tk kp J=>hR h' tk kp J
end
end Mi
namespace Mi
end Mi
namespace Mi
end Mi
namespace Mi
end Mi
namespace Mi
end Mi
namespace Mi
end Mi
section
section
variable{X:Cx}
noncomputable def sk:V->List V->Hp->VK->Prop:=λx vs H Q=>∃(l:VQ) (xs:List V) (i:Int) (y:V),x=.ref l/\vs=[.int i,y]/\H l=Z (.lst xs)/\0<=i/\i.toNat<=xs.length/\xs.length<KJ/\Q .non (upd H l (.lst (xs.take i.toNat++y::xs.drop i.toNat)))
theorem VJ:∀{xs:List V} {us:List i3} (n:Nat),Vals xs us->Vals (xs.take n) (us.take n)
 |_,_,0,_=>by simp only[List.take_zero];exact .nil
 |_,_,_+1,.nil=>.nil
 |_,_,n+1,.cons r t=>.cons r (VJ n t)
theorem VL:∀{xs:List V} {us:List i3} (n:Nat),Vals xs us->Vals (xs.drop n) (us.drop n)
 |_,_,0,r=>r
 |_,_,_+1,.nil=>.nil
 |_,_,n+1,.cons _ t=>VL n t
theorem wd:MtM X "list.insert" sk:=by
 intro pins s σ H x vs v us Q I rx rv h;obtain⟨l,xs,i,y,rfl,rfl,B,h0,J,G,q⟩:=h
 cases rx
 obtain⟨u,u2,rfl,ru,j⟩:=nM rv;obtain⟨t,rfl⟩:=ru;obtain⟨z,its,n,r,L,e⟩:=I.lstM B;have hf:¬(!Builtin.List.listFitsIndex i)=N3:=by
  have:R8 i=N3:=by unfold R8;rw[D0]at G;rw[tv];exact⟨decide_eq_true ∅,decide_eq_true ∅⟩
  rw[this];decide
 have hs:its.toArray.size<=KJ:=by rw[KR];lia
 have mt:=PySem.AutoSeq1.list_insert_list_int_val_1 l its.toArray n i t u2 hf hs;refine QX Rz ⟨_,e,rfl⟩ PySem.F.entry_list_insert (PySem.F.args_list_insert_3 _ _ _) mt ⟨e,?_⟩;refine⟨.non,_,I.lset (its':=its.take i.toNat++u2::its.drop i.toNat) B e ?_ ((VJ i.toNat r).append (.cons j (VL i.toNat r))) ?_,rfl,q⟩
 ·have hm:(if i<0 then(i+(its.toArray.size:Int)).toNat else min i.toNat its.toArray.size)=i.toNat:=by
   rw[if_neg ∅,KR];lia
  show(its.toArray.extract 0 (if i<0 then(i+(its.toArray.size:Int)).toNat else min i.toNat its.toArray.size)).push u2++its.toArray.extract (if i<0 then(i+(its.toArray.size:Int)).toNat else min i.toNat its.toArray.size)=_
  rw[hm];apply Array.ext';simp only[List.extract_toArray,List.push_toArray,List.append_toArray];simp[Nf]
 ·rw[D1,LF,Lk,N5];lia
end
namespace Mi
noncomputable def iI:D->List D->Mem->QD->Prop:=λx ds M Q=>∃(a:VQ) (xs:List D) (i:Int) (y:D),x=.ref a/\ds=[.int i,y]/\M a=Z (.lst xs)/\0<=i/\i.toNat<=xs.length/\xs.length<KJ/\Q .non (ag M a (.lst (xs.take i.toNat++y::xs.drop i.toNat)))
theorem j5:jT iI:=λ_ _ _ _ _ h j=>(by obtain⟨a,xs,k,y,B,F,G,J,z,L,q⟩:=j;exact⟨a,xs,k,y,B,F,G,J,z,L,h _ _ q⟩)
theorem yW{K:Frag}(v:V)(vs:List V)(H:Hp)(Q:VK)(h:lMt K iI v vs H Q):sk v vs H Q:=by
 obtain⟨x,ds,M,rm,rx,rs,a,xs,i,y,rfl,rfl,e,j,z,B,q⟩:=h
 cases Vu.mp rx
 obtain⟨J,w,rfl,F,rw'⟩:=rs.two
 cases Vt.mp F
 obtain⟨us,G,ru⟩:=rm _ _ e;exact⟨a,us,i,w,rfl,rfl,G,j,by rw[ru.length];exact z,by rw[ru.length];exact B,rS rm e ((ru.take i.toNat).append (RDs.cons rw' (ru.drop i.toNat))) (VA.mpr rfl) q⟩
end Mi
end
namespace Mi
section
section
variable{X:Cx}
def DF(M:Mem)(a:VQ)(t:Bool)(kvs:List (D×D)):Prop:=M a=Z (.dct t kvs)∨(t=N3/\M a=Z (.fdc kvs))
noncomputable def uc(neg:Bool):R2d:=λk x M Q=>∃a t kvs,x=.ref a/\DF M a t kvs/\eQ t k=N3/\Q (.bl (if neg then !(dget kvs k).isSome else(dget kvs k).isSome)) M
theorem yX{neg:Bool}:aO (uc neg):=λ_ _ _ _ _ h j=>(by obtain⟨a,t,kvs,z,B,F,q⟩:=j;exact⟨a,t,kvs,z,B,F,h _ _ q⟩)
theorem DD{K:Frag}{M:Mem}{H:Hp}{a:VQ}{t:Bool}{kvs:List (D×D)}{k:D}{v:V}(rm:RM K M H)(e:DF M a t kvs)(ok:eQ t k=N3)(rk:RD K H k v):∃o,DGet H a v o/\o.isSome=(dget kvs k).isSome:=by
 have:∃o,DGet H a v o/\(∀d,dget kvs k=Z d->∃w,o=Z w/\RD K H d w)/\(dget kvs k=Y->o=Y):=by
  rcases e with e|⟨rfl,e⟩
  ·exact kT rm e ok rk
  ·obtain⟨ob,ps,j,pr⟩:=rm a _ e;exact oZ (.inr ⟨ob,j⟩) pr ok rk
 obtain⟨o,g,g1,g2⟩:=this;refine⟨o,g,?_⟩
 cases h:dget kvs k with
 |none=>rw[g2 h];rfl
 |some d=>obtain⟨w,rfl,_⟩:=g1 d h;rfl
theorem we(j:X.A.units+1<Oa):OpR X (Ny .NotIn) (l2 X.K (uc N3)):=by
 intro pins s σ H y x u v Q I ry rx h;obtain⟨dk,dx,M,rm,rk,rd,a,t,kvs,rfl,e,ok,q⟩:=h
 cases Vu.mp rd
 cases rx
 obtain⟨o,g,ho⟩:=DD rm e ok rk;exact AH j I g ry λs' I'=>⟨.bl (!o.isSome),H,I',rfl,by rw[ho];exact q _ H Ext.refl rm (Vv.mpr rfl)⟩
end
end
end Mi
namespace Mi
end Mi
namespace Mi
open L2.Srt
end Mi
namespace Srt
open AutoSeq1 (wpAny_loadPart')
open MeetsSeq MeetsSeq2 MeetsSeq3
end Srt
namespace Srt
end Srt
namespace Mi
open L2.Srt
end Mi
namespace Mi
end Mi
namespace Mi
end Mi
namespace Mi
end Mi
namespace It
end It
namespace Mi
end Mi
namespace Mi
end Mi
namespace Mi
open L2.Srt
end Mi
namespace Mi
end Mi
namespace Mi
end Mi
namespace Mi
variable{K:Frag}
section
mutual
noncomputable def GV(K:Frag):D->i3->Prop
 |.int i,v=>∃t,v=.int i t
 |.str x,v=>∃t,v=.str x t
 |.tup ds,v=>∃a o its n,v=.ref a/\K.lookup a=Z o/\o.cls=.type "tuple"/\o.data=.seq its n/\its.size<=KJ/\fk ds=VP/\GVs K ds its.toList
 |_,_=>False
noncomputable def GVs(K:Frag):List D->List i3->Prop
 |[],us=>us=[]
 |d::ds,us=>∃u r,us=u::r/\GV K d u/\GVs K ds r
end
theorem GV.ints{i:Int}{t}:GV K (.int i) (.int i t):=by unfold GV;exact⟨t,rfl⟩
theorem GV.tups{ds:List D}{a:VQ}{od sl}{its:Array i3}{n:Nat}(h:K.lookup a=Z ⟨.type "tuple",od,.seq its n,sl⟩)(j:its.size<=1000)(f:fk ds=VP)(r:GVs K ds its.toList):GV K (.tup ds) (.ref a):=by unfold GV;exact⟨a,_,its,n,rfl,h,rfl,rfl,by rw[D0];lia,f,r⟩
theorem GVs.nil:GVs K [] []:=by unfold GVs;rfl
theorem GVs.cons{K:Frag}{d:D}{ds:List D}{u:i3}{us:List i3}(h:GV K d u)(r:GVs K ds us):GVs K (d::ds) (u::us):=by unfold GVs;exact⟨u,us,rfl,h,r⟩
mutual
theorem Aa{K:Frag}:∀{d:D} {u:i3},GV K d u->∃v,RelV v u/\∀H,RD K H d v
 |.int i,u,h=>by unfold GV at h;obtain⟨t,rfl⟩:=h;exact⟨.int i,⟨t,rfl⟩,λH=>Vt.mpr rfl⟩
 |.str i,u,h=>by unfold GV at h;obtain⟨t,rfl⟩:=h;exact⟨.str i,⟨t,rfl⟩,λH=>VB.mpr rfl⟩
 |.tup ds,u,h=>by unfold GV at h;obtain⟨a,o,its,n,rfl,h1,h2,j,z,B,F⟩:=h;obtain⟨vs,g1,g2⟩:=gvs_rd F;exact⟨.ref a,rfl,λH=>VD.mpr ⟨a,vs,rfl,.inr ⟨B,.inr ⟨o,its,n,h1,h2,j,z,g1⟩⟩,g2 H⟩⟩
 |.non,u,h=>by unfold GV at h;exact h.elim
 |.bl _,u,h=>by unfold GV at h;exact h.elim
 |.con _,u,h=>by unfold GV at h;exact h.elim
 |.ref _,u,h=>by unfold GV at h;exact h.elim
 |.fn _,u,h=>by unfold GV at h;exact h.elim
theorem gvs_rd{K:Frag}:∀{ds:List D} {us:List i3},GVs K ds us->∃vs,Vals vs us/\∀H,RDs K H ds vs
 |[],us,h=>by unfold GVs at h;subst h;exact⟨[],.nil,λH=>RDs.nil⟩
 |d::ds,us,h=>by unfold GVs at h;obtain⟨u,r,rfl,h1,h2⟩:=h;obtain⟨v,g1,g2⟩:=Aa h1;obtain⟨vs,g3,j⟩:=gvs_rd h2;exact⟨v::vs,.cons g1 g3,λH=>RDs.cons (g2 H) (j H)⟩
end
end
end Mi
namespace Mi
end Mi
namespace Mi
variable{f:Nat}{cs js:List Nat}{P:VQ}{pos:Pos}
section
inductive BOp where|add|sub|mul|fdiv|mod|pow
inductive COp where|eq|ne|lt|gt|ge|ninD
inductive BF where|len|abs|max2|min2|int|list|tuple|sum|all|sorts
inductive MF where|append
set_option genCtorIdx false
set_option genInjectivity false
mutual
inductive MG where
 |name (i:Nat)
 |tup (gs:MGs)
inductive MGs where
 |nil
 |cons (g:MG) (r:MGs)
end
mutual
inductive ME where
 |var (i:Nat)
 |int (i:Int)
 |bl (b:Bool)
 |non
 |bin (op:BOp) (a b:ME)
 |neg (a:ME)
 |cmp (op:COp) (a b:ME)
 |and (es:MEs)
 |or (es:MEs)
 |not (a:ME)
 |ite (c:MT) (a b:ME)
 |tup (es:MEs)
 |lst (es:MEs)
 |ix (a b:ME)
 |sl (a:ME) (lo hi:MO)
 |call (f:Nat) (es:MEs)
 |callC (i:Nat) (es:MEs)
 |callL (f:Nat) (es:MEs) (j:Nat) (cs js:List Nat) (P:VQ) (pos:Pos) (q:Str)
 |blt (f:BF) (es:MEs)
 |isin (a:ME) (T:String)
 |glob (x:Str) (d:D)
 |dnew (t:Bool)
 |sortI (a:ME)
 |dget (o k x:ME)
 |meth (m:MF) (o a:ME)
 |ins (o i a:ME)
 |comp (fr:List (Option Nat)) (N:List Str) (c:MC)
inductive MEs where
 |nil
 |cons (e:ME) (r:MEs)
inductive MO where
 |none
 |some (e:ME)
inductive MT where
 |tru (e:ME)
 |cmp (op:COp) (a b:ME)
 |and (ts:MTs)
 |or (ts:MTs)
 |not (t:MT)
inductive MTs where
 |nil
 |cons (t:MT) (r:MTs)
inductive MI where
 |seq (e:ME)
 |rng1 (a:ME)
 |zip (a b:ME)
 |enum (a:ME)
inductive MC where
 |last (src:MI) (g:MG) (ifs:MTs) (elt:ME)
 |more (src:MI) (g:MG) (ifs:MTs) (rest:MC)
end
mutual
inductive MS where
 |asg (g:MG) (e:ME)
 |asgL (gs:MGs) (e:ME)
 |par (i j:Nat) (a b:ME)
 |put (o i e:ME)
 |aug (i:Nat) (op:BOp) (e:ME)
 |augI (o i:ME) (op:BOp) (e:ME)
 |drop (e:ME)
 |ret (e:ME)
 |ite (c:MT) (a b:MSs)
 |for (g:MG) (src:MI) (b:MSs)
 |while (c:MT) (b:MSs)
 |pass|brk|cnt
inductive MSs where
 |nil
 |cons (s:MS) (r:MSs)
end
set_option genCtorIdx true
set_option genInjectivity true
noncomputable def opB:BOp->R2d
 |.add=>gT|.sub=>oS|.mul=>gU|.fdiv=>jN|.mod=>oT|.pow=>oU
noncomputable def opC:COp->R2d
 |.eq=>wEq|.ne=>wNe|.lt=>wLt| .gt=>wGt|.ge=>wGe| .ninD=>uc N3
noncomputable def opF:BF->RAd
 |.len=>fw| .abs=>kU|.max2=>jP|.min2=>jQ|.int=>kW|.list=>nP|.tuple=>jR|.sum=>tJ|.all=>pQ| .sorts=>kj
noncomputable def opM:MF->D->List D->Mem->QD->Prop
 |.append=>iw
noncomputable def opI:BOp->R2d
 |.add=>jY|.sub=>jZ|.mul=>ka|_=>λ_ _ _ _=>False
theorem qe:∀o,aO (opB o)
 |.add=>yc|.sub=>yd|.mul=>ye|.fdiv=>vj|.mod=>yf|.pow=>yg
theorem gu:∀o,aO (opC o)
 |.eq=>AR|.ne=>AS|.lt=>AV| .gt=>AW|.ge=>AX| .ninD=>yX
theorem yY:∀o,aK (opF o)
 |.len=>pe| .abs=>pi|.max2=>mG|.min2=>mH|.int=>pj|.list=>mJ|.tuple=>jS|.sum=>pF|.all=>pS| .sorts=>kl
theorem yZ:∀o,jT (opM o)
 |.append=>iZ
theorem qf:∀o,aO (opI o)
 |.add=>gZ|.sub=>hJ|.mul=>hW
 |.fdiv=>λ_ _ _ _ _ _ q=>q.elim|.mod=>λ_ _ _ _ _ _ q=>q.elim|.pow=>λ_ _ _ _ _ _ q=>q.elim
noncomputable abbrev Phi:=Nat->RAd
mutual
noncomputable def bG:MG->BT
 |.name i=>cM i
 |.tup gs=>yw (bGs gs)
noncomputable def bGs:MGs->BTs
 |.nil=>jc
 |.cons g r=>cu (bG g) (bGs r)
end
noncomputable def km(Φ:Phi)(i:Nat)(t:TAd):TEd:=λρ M Q=>∃a,ρ[i]?=Z (Z (.ref a))/\wAr (Φ (5000+a)) t ρ M Q
theorem ud{Φ:Phi}{i:Nat}{t:TAd}(hΦ:∀f,aK (Φ f))(mt:aY t):ad (km Φ i t):=λρ M Q Q' h g9=>(by obtain⟨a,e,q⟩:=g9;exact⟨a,e,fF (hΦ _) mt _ _ _ _ h q⟩)
noncomputable def lg(cs:List Nat)(ρ:aq):Option (List D):=cs.mapM λc=>(ρ[c]?).join
noncomputable def ko(Φ:Phi)(f:Nat)(t:TAd)(j:Nat)(cs js:List Nat)(P:VQ)(pos:Pos)(q:Str):TEd:=λρ M Q=>∃gs,lg cs ρ=Z gs/\t ρ M λds M1=>M1 P=Z (.tab pos q)/\∀a,M1 a=Y->Φ (1000+f) (ds++[.ref a,.int j,.tup gs,.tup (js.map λi:Nat=>.int i)]) M1 Q
theorem ue{Φ:Phi}{t:TAd}{j:Nat}{q:Str}(hΦ:∀f,aK (Φ f))(mt:aY t):ad (ko Φ f t j cs js P pos q):=λρ M Q Q' h g9=>(by obtain⟨gs,e,z⟩:=g9;exact⟨gs,e,mt _ _ _ _ (λds B y=>⟨y.1,λa n=>hΦ _ _ _ _ _ h (y.2 a n)⟩) z⟩)
mutual
noncomputable def wE(Φ:Phi):ME->TEd
 |.var i=>fu i
 |.int i=>wC (.int i)
 |.bl b=>wC (.bl b)
 |.non=>wC .non
 |.bin op a b=>wOp (opB op) (wE Φ a) (wE Φ b)
 |.neg a=>wUn oV (wE Φ a)
 |.cmp op a b=>wOp (opC op) (wE Φ a) (wE Φ b)
 |.and es=>wAnds Φ es
 |.or es=>wOrs Φ es
 |.not a=>nT (wE Φ a)
 |.ite c a b=>wIf (wT Φ c) (wE Φ a) (wE Φ b)
 |.tup es=>wAr tE (wA Φ es)
 |.lst es=>wAr tF (wA Φ es)
 |.ix a b=>wOp wIx (wE Φ a) (wE Φ b)
 |.sl a lo hi=>wSl (wE Φ a) (wO Φ lo) (wO Φ hi)
 |.call f es=>wAr (Φ f) (wA Φ es)
 |.callC i es=>km Φ i (wA Φ es)
 |.callL f es j cs js P pos q=>ko Φ f (wA Φ es) j cs js P pos q
 |.blt f es=>wAr (opF f) (wA Φ es)
 |.isin a T=>nV T (wE Φ a)
 |.glob _ d=>wC d
 |.dnew t=>oh t
 |.sortI a=>ki (wE Φ a)
 |.dget o k x=>ot (wE Φ o) (wE Φ k) (wE Φ x)
 |.meth m o a=>wBM (opM m) (wE Φ o) (aE (wE Φ a) br)
 |.ins o i a=>wBM iI (wE Φ o) (aE (wE Φ i) (aE (wE Φ a) br))
 |.comp fr _ c=>wCmp Φ fr c
noncomputable def wA(Φ:Phi):MEs->TAd
 |.nil=>br
 |.cons e r=>aE (wE Φ e) (wA Φ r)
noncomputable def wAnds(Φ:Phi):MEs->TEd
 |.nil=>λ_ _ _=>False
 |.cons e .nil=>wE Φ e
 |.cons e (.cons f r)=>nS (wE Φ e) (wAnds Φ (.cons f r))
noncomputable def wOrs(Φ:Phi):MEs->TEd
 |.nil=>λ_ _ _=>False
 |.cons e .nil=>wE Φ e
 |.cons e (.cons f r)=>tN (wE Φ e) (wOrs Φ (.cons f r))
noncomputable def wO(Φ:Phi):MO->TOd
 |.none=>iu
 |.some e=>nU (wE Φ e)
noncomputable def wT(Φ:Phi):MT->TTd
 |.tru e=>tL (wE Φ e)
 |.cmp op a b=>gR (wOp (opC op) (wE Φ a) (wE Φ b))
 |.and ts=>wAndTs Φ ts
 |.or ts=>wOrTs Φ ts
 |.not t=>nQ (wT Φ t)
noncomputable def wAndTs(Φ:Phi):MTs->TTd
 |.nil=>λ_ _ _=>False
 |.cons e .nil=>wT Φ e
 |.cons e (.cons f r)=>nR (wT Φ e) (wAndTs Φ (.cons f r))
noncomputable def wOrTs(Φ:Phi):MTs->TTd
 |.nil=>λ_ _ _=>False
 |.cons e .nil=>wT Φ e
 |.cons e (.cons f r)=>tM (wT Φ e) (wOrTs Φ (.cons f r))
noncomputable def wTl(Φ:Phi):MTs->List TTd
 |.nil=>[]
 |.cons t r=>wT Φ t::wTl Φ r
noncomputable def wI(Φ:Phi):MI->TId
 |.seq e=>tP (wE Φ e)
 |.rng1 a=>nW (aE (wE Φ a) br)
 |.zip a b=>kX (wE Φ a) (wE Φ b)
 |.enum a=>nX (wE Φ a)
noncomputable def wCl(Φ:Phi):MC->TCd
 |.last src g ifs elt=>dO (wI Φ src) (bG g) (bq (wTl Φ ifs) (eS (wE Φ elt)))
 |.more src g ifs rest=>dO (wI Φ src) (bG g) (bq (wTl Φ ifs) (wCl Φ rest))
noncomputable def wCmp(Φ:Phi)(fr:List (Option Nat)):MC->TEd
 |.last src g ifs elt=>iz fr (wI Φ src) (bG g) (bq (wTl Φ ifs) (eS (wE Φ elt)))
 |.more src g ifs rest=>iz fr (wI Φ src) (bG g) (bq (wTl Φ ifs) (wCl Φ rest))
end
mutual
noncomputable def wS(Φ:Phi):MS->TSd
 |.asg g e=>kY (wE Φ e) (bG g)
 |.asgL gs e=>ou (wE Φ e) (bGs gs)
 |.par i j a b=>tR (aE (wE Φ a) (aE (wE Φ b) br)) (cu (cM i) (cu (cM j) jc))
 |.put o i e=>tX (wE Φ e) (wE Φ o) (wE Φ i)
 |.aug i op e=>tY i (opI op) (wE Φ e)
 |.augI o i op e=>og (wE Φ o) (wE Φ i) (wE Φ e) (opI op)
 |.drop e=>nZ (wE Φ e)
 |.ret e=>tQ (wE Φ e)
 |.ite c a b=>sIf (wT Φ c) (wSs Φ a) (wSs Φ b)
 |.for g src b=>tS (wI Φ src) (bG g) (wSs Φ b)
 |.while c b=>jX (wT Φ c) (wSs Φ b)
 |.pass=>jV
 |.brk=>jW
 |.cnt=>nY
noncomputable def wSs(Φ:Phi):MSs->TSd
 |.nil=>jV
 |.cons s r=>yB (wS Φ s) (wSs Φ r)
end
section
variable{Φ:Phi}(hΦ:∀f,aK (Φ f))
include hΦ
mutual
theorem mE:∀m,ad (wE Φ m)
 |.var _=>y9
 |.int _=>jM
 |.bl _=>jM
 |.non=>jM
 |.bin op a b=>fE (qe op) (mE a) (mE b)
 |.neg a=>AN oW (mE a)
 |.cmp op a b=>fE (gu op) (mE a) (mE b)
 |.and es=>mAnds es
 |.or es=>mOrs es
 |.not a=>vw (mE a)
 |.ite c a b=>B3 (mT c) (mE a) (mE b)
 |.tup es=>fF vf (mA es)
 |.lst es=>fF vg (mA es)
 |.ix a b=>fE rP (mE a) (mE b)
 |.sl a lo hi=>B6 (mE a) (mO lo) (mO hi)
 |.call f es=>fF (hΦ f) (mA es)
 |.callC i es=>ud hΦ (mA es)
 |.callL f es j cs js P pos q=>ue hΦ (mA es)
 |.blt f es=>fF (yY f) (mA es)
 |.isin a T=>vz (mE a)
 |.glob _ _=>jM
 |.dnew _=>vN
 |.sortI a=>ub (mE a)
 |.dget o k x=>w9 (mE o) (mE k) (mE x)
 |.meth m o a=>rQ (yZ m) (mE o) (az (mE a) aG)
 |.ins o i a=>rQ j5 (mE o) (az (mE i) (az (mE a) aG))
 |.comp fr _ c=>mCmp fr c
theorem mA:∀m,aY (wA Φ m)
 |.nil=>aG
 |.cons e r=>az (mE e) (mA r)
theorem mAnds:∀m,ad (wAnds Φ m)
 |.nil=>λ_ _ _ _ _ q=>q.elim
 |.cons e .nil=>mE e
 |.cons e (.cons f r)=>vt (mE e) (mAnds (.cons f r))
theorem mOrs:∀m,ad (wOrs Φ m)
 |.nil=>λ_ _ _ _ _ q=>q.elim
 |.cons e .nil=>mE e
 |.cons e (.cons f r)=>yt (mE e) (mOrs (.cons f r))
theorem mO:∀m,gc (wO Φ m)
 |.none=>rf
 |.some e=>vy (mE e)
theorem mT:∀m,aP (wT Φ m)
 |.tru e=>yq (mE e)
 |.cmp op a b=>ya (fE (gu op) (mE a) (mE b))
 |.and ts=>mAndTs ts
 |.or ts=>mOrTs ts
 |.not t=>vp (mT t)
theorem mAndTs:∀m,aP (wAndTs Φ m)
 |.nil=>λ_ _ _ _ _ q=>q.elim
 |.cons e .nil=>mT e
 |.cons e (.cons f r)=>vq (mT e) (mAndTs (.cons f r))
theorem mOrTs:∀m,aP (wOrTs Φ m)
 |.nil=>λ_ _ _ _ _ q=>q.elim
 |.cons e .nil=>mT e
 |.cons e (.cons f r)=>yr (mT e) (mOrTs (.cons f r))
theorem mTl:∀m,∀t∈wTl Φ m,aP t
 |.nil=>by rw[wTl];intro t j;simp at j
 |.cons t r=>by
  rw[wTl];intro t' j
  rcases KH.mp j with e|e
  ·rw[e];exact mT t
  ·exact mTl r t' e
theorem mI:∀m,cN (wI Φ m)
 |.seq e=>yz (mE e)
 |.rng1 a=>vC (az (mE a) aG)
 |.zip a b=>yA (mE a) (mE b)
 |.enum a=>vD (mE a)
theorem mCl:∀m,ci (wCl Φ m)
 |.last src g ifs elt=>j0 (mI src) (aW (bO (mE elt)) (mTl ifs))
 |.more src g ifs rest=>j0 (mI src) (aW (mCl rest) (mTl ifs))
theorem mCmp(fr:List (Option Nat)):∀m,ad (wCmp Φ fr m)
 |.last src g ifs elt=>mK (mI src) (aW (bO (mE elt)) (mTl ifs))
 |.more src g ifs rest=>mK (mI src) (aW (mCl rest) (mTl ifs))
end
mutual
theorem mS:∀m,aQ (wS Φ m)
 |.asg g e=>yE (mE hΦ e)
 |.asgL gs e=>wa (mE hΦ e)
 |.par i j a b=>yF (az (mE hΦ a) (az (mE hΦ b) aG))
 |.put o i e=>yL (mE hΦ e) (mE hΦ o) (mE hΦ i)
 |.aug i op e=>yM (qf op) (mE hΦ e)
 |.augI o i op e=>vM (mE hΦ o) (mE hΦ i) (mE hΦ e) (qf op)
 |.drop e=>vG (mE hΦ e)
 |.ret e=>yC (mE hΦ e)
 |.ite c a b=>yD (mT hΦ c) (mSs a) (mSs b)
 |.for g src b=>yG (mI hΦ src) (mSs b)
 |.while c b=>tU (mT hΦ c) (mSs b)
 |.pass=>mM
 |.brk=>tT
 |.cnt=>vE
theorem mSs:∀m,aQ (wSs Φ m)
 |.nil=>mM
 |.cons s r=>vF (mS s) (mSs r)
end
end
end
variable{Φ:Phi}{e:Expr}{es:List Expr}{env:Env}
section
structure Ctx where
 Γ:List Str
 N:List Str
 sc:Scope
 fn:List Str
 cs:List (Str×D)
 lm:Nat
 nm:Str
noncomputable def glB(sc:Scope)(x:Str):Bool:=sc.names.lookup x==Z .globalImplicit
noncomputable def uf(sc:Scope)(x:Str):Bool:=sc.names.lookup x==Z .local || sc.names.lookup x==Z .cell || sc.names.lookup x==Z .free
noncomputable def ug(sc:Scope)(x:Str):Bool:=sc.names.lookup x==Z .local || sc.names.lookup x==Z .cell
noncomputable def aU:Expr->Bool
 |.Starred ..=>VP
 |_=>N3
noncomputable def wf:Expr->Bool
 |.Name ..|.Call ..|.Subscript ..|.Constant ..|.BinOp ..|.Attribute ..=>N3
 |_=>VP
noncomputable def iJ:Expr->Bool
 |.Slice ..=>VP
 |_=>N3
noncomputable def kr:Expr->Bool
 |.ListComp ..|.SetComp ..|.DictComp ..=>VP
 |_=>N3
noncomputable def uh:Expr->Bool
 |.Set ..=>VP
 |_=>N3
noncomputable def fK:Expr->Bool
 |.Call _ (_::_) _ _=>N3
 |.Call ..=>VP
 |_=>N3
noncomputable def opO:BOp->P1
 |.add=>.Add|.sub=>.Sub|.mul=>.Mult|.fdiv=>.FloorDiv|.mod=>.Mod|.pow=>.Pow
noncomputable def za:COp->CmpOp
 |.eq=>.Eq|.ne=>.NotEq|.lt=>.Lt| .gt=>.Gt|.ge=>.GtE| .ninD=>.NotIn
noncomputable def qg:BF->Str
 |.len=>"len"| .abs=>"abs"|.max2=>"max"|.min2=>"min"|.int=>"int"|.list=>"list"|.tuple=>"tuple"|.sum=>"sum"|.all=>"all"| .sorts=>"sorted"
noncomputable def DE:MF->Str
 |.append=>"append"
noncomputable def bltNames:List Str:=["len","abs","max","min","int","list","tuple","sum","isinstance","range","bool","str","dict","zip","enumerate","reversed","sorted","all","any","set"]
noncomputable def jj(sc osc:Scope):Scope:={sc with names:=sc.names.map λ(n,k)=>if(k==.free&&osc.kind==.function&&osc.names.lookup n==Z .cell)then(n,.cell)else(n,k)}
theorem rC(sc:Scope)(env:Env):relabel sc env=jj sc env.scope:=rfl
noncomputable def zb(sc osc:Scope)(oN N':List Str)(fr:List (Option Nat)):Bool:=
 decide (sc.kind=.function)&&decide ((sc.names.map (·.1)).Nodup)&&decide (N'.Nodup)
  && sc.names.all (λx=>!(x.2==.free) || osc.names.lookup x.1==Z .cell || osc.names.lookup x.1==Z .free)
  && decide (fr.length=N'.length)
  && (KA N'.length).all λi=>match fr[i]?,N'[i]? with
   |some (Z j),Z x=>decide (oN[j]?=Z x)&&sc.names.any (λy=>decide (y=(x,Lz)))
   |_,_=>N3
theorem pk{p:Prop}[d:Decidable p]{t:p->Bool}(h:dite p t (λ_=>VP)=N3):∃c,t c=N3:=by
 cases d with
 |isTrue c=>exact⟨c,h⟩
 |isFalse c=>cases h
noncomputable def dj(e:Expr)(f:Str->Pos->Bool):Bool:=if h:e.ctorIdx=23 then @Vl.elim (λ_=>Bool) e h f else VP
@[elab_as_elim]
theorem dG{P:Expr->Prop}(e:Expr){f:Str->Pos->Bool}(h:dj e f=N3)(k:∀a b,f a b=N3->P (.Name a b)):P e:=(pk h).elim λc=>@Vl.elim (λe=>∀c,@Vl.elim (λ_=>Bool) e c f=N3->P e) e c (λa b _=>k a b) c
noncomputable def eX(e:Expr)(f:Const->Nat->Pos->Bool):Bool:=if h:e.ctorIdx=19 then @Tq.elim (λ_=>Bool) e h f else VP
@[elab_as_elim]
theorem i6{P:Expr->Prop}(e:Expr){f:Const->Nat->Pos->Bool}(h:eX e f=N3)(k:∀a b c,f a b c=N3->P (.Constant a b c)):P e:=(pk h).elim λc=>@Tq.elim (λe=>∀c,@Tq.elim (λ_=>Bool) e c f=N3->P e) e c (λa b c _=>k a b c) c
noncomputable def wg(e:Expr)(f:Expr->P1->Expr->Pos->Bool):Bool:=if h:e.ctorIdx=2 then @Ve.elim (λ_=>Bool) e h f else VP
@[elab_as_elim]
theorem DG{P:Expr->Prop}(e:Expr){f:Expr->P1->Expr->Pos->Bool}(h:wg e f=N3)(k:∀a b c d,f a b c d=N3->P (.BinOp a b c d)):P e:=(pk h).elim λc=>@Ve.elim (λe=>∀c,@Ve.elim (λ_=>Bool) e c f=N3->P e) e c (λa b c d _=>k a b c d) c
noncomputable def gw(e:Expr)(f:UnaryOp->Expr->Pos->Bool):Bool:=if h:e.ctorIdx=3 then @Ui.elim (λ_=>Bool) e h f else VP
@[elab_as_elim]
theorem jk{P:Expr->Prop}(e:Expr){f:UnaryOp->Expr->Pos->Bool}(h:gw e f=N3)(k:∀a b c,f a b c=N3->P (.UnaryOp a b c)):P e:=(pk h).elim λc=>@Ui.elim (λe=>∀c,@Ui.elim (λ_=>Bool) e c f=N3->P e) e c (λa b c _=>k a b c) c
noncomputable def jl(e:Expr)(f:Expr->List CmpOp->List Expr->Pos->Bool):Bool:=if h:e.ctorIdx=15 then @Uj.elim (λ_=>Bool) e h f else VP
@[elab_as_elim]
theorem qh{P:Expr->Prop}(e:Expr){f:Expr->List CmpOp->List Expr->Pos->Bool}(h:jl e f=N3)(k:∀a b c d,f a b c d=N3->P (.Compare a b c d)):P e:=(pk h).elim λc=>@Uj.elim (λe=>∀c,@Uj.elim (λ_=>Bool) e c f=N3->P e) e c (λa b c d _=>k a b c d) c
noncomputable def fL(e:Expr)(f:BoolOp->List Expr->Pos->Bool):Bool:=if h:e.ctorIdx=0 then @UP.elim (λ_=>Bool) e h f else VP
@[elab_as_elim]
theorem iK{P:Expr->Prop}(e:Expr){f:BoolOp->List Expr->Pos->Bool}(h:fL e f=N3)(k:∀a b c,f a b c=N3->P (.BoolOp a b c)):P e:=(pk h).elim λc=>@UP.elim (λe=>∀c,@UP.elim (λ_=>Bool) e c f=N3->P e) e c (λa b c _=>k a b c) c
noncomputable def wj(e:Expr)(f:Expr->Expr->Expr->Pos->Bool):Bool:=if h:e.ctorIdx=5 then @Vf.elim (λ_=>Bool) e h f else VP
@[elab_as_elim]
theorem DH{P:Expr->Prop}(e:Expr){f:Expr->Expr->Expr->Pos->Bool}(h:wj e f=N3)(k:∀a b c d,f a b c d=N3->P (.IfExp a b c d)):P e:=(pk h).elim λc=>@Vf.elim (λe=>∀c,@Vf.elim (λ_=>Bool) e c f=N3->P e) e c (λa b c d _=>k a b c d) c
noncomputable def dr(e:Expr)(f:List Expr->Nat->Pos->Bool):Bool:=if h:e.ctorIdx=25 then @Vg.elim (λ_=>Bool) e h f else VP
@[elab_as_elim]
theorem eF{P:Expr->Prop}(e:Expr){f:List Expr->Nat->Pos->Bool}(h:dr e f=N3)(k:∀a b c,f a b c=N3->P (.Tuple a b c)):P e:=(pk h).elim λc=>@Vg.elim (λe=>∀c,@Vg.elim (λ_=>Bool) e c f=N3->P e) e c (λa b c _=>k a b c) c
noncomputable def Ab(e:Expr)(f:List Expr->Pos->Bool):Bool:=if h:e.ctorIdx=24 then @Vm.elim (λ_=>Bool) e h f else VP
@[elab_as_elim]
theorem Fa{P:Expr->Prop}(e:Expr){f:List Expr->Pos->Bool}(h:Ab e f=N3)(k:∀a b,f a b=N3->P (.List a b)):P e:=(pk h).elim λc=>@Vm.elim (λe=>∀c,@Vm.elim (λ_=>Bool) e c f=N3->P e) e c (λa b _=>k a b) c
noncomputable def cR(e:Expr)(f:Expr->Expr->Pos->Bool):Bool:=if h:e.ctorIdx=21 then @SY.elim (λ_=>Bool) e h f else VP
@[elab_as_elim]
theorem dH{P:Expr->Prop}(e:Expr){f:Expr->Expr->Pos->Bool}(h:cR e f=N3)(k:∀a b c,f a b c=N3->P (.Subscript a b c)):P e:=(pk h).elim λc=>@SY.elim (λe=>∀c,@SY.elim (λ_=>Bool) e c f=N3->P e) e c (λa b c _=>k a b c) c
noncomputable def ui(e:Expr)(f:Expr->List Expr->List QJ->Pos->Bool):Bool:=if h:e.ctorIdx=16 then @Vn.elim (λ_=>Bool) e h f else VP
@[elab_as_elim]
theorem Ac{P:Expr->Prop}(e:Expr){f:Expr->List Expr->List QJ->Pos->Bool}(h:ui e f=N3)(k:∀a b c d,f a b c d=N3->P (.Call a b c d)):P e:=(pk h).elim λc=>@Vn.elim (λe=>∀c,@Vn.elim (λ_=>Bool) e c f=N3->P e) e c (λa b c d _=>k a b c d) c
noncomputable def ku(e:Expr)(f:Expr->Str->Pos->Bool):Bool:=if h:e.ctorIdx=20 then @T2.elim (λ_=>Bool) e h f else VP
@[elab_as_elim]
theorem uj{P:Expr->Prop}(e:Expr){f:Expr->Str->Pos->Bool}(h:ku e f=N3)(k:∀a b c,f a b c=N3->P (.Attribute a b c)):P e:=(pk h).elim λc=>@T2.elim (λe=>∀c,@T2.elim (λ_=>Bool) e c f=N3->P e) e c (λa b c _=>k a b c) c
noncomputable def wk(e:Expr)(f:Option Expr->Option Expr->Option Expr->Pos->Bool):Bool:=if h:e.ctorIdx=26 then @Vh.elim (λ_=>Bool) e h f else VP
@[elab_as_elim]
theorem DI{P:Expr->Prop}(e:Expr){f:Option Expr->Option Expr->Option Expr->Pos->Bool}(h:wk e f=N3)(k:∀a b c d,f a b c d=N3->P (.Slice a b c d)):P e:=(pk h).elim λc=>@Vh.elim (λe=>∀c,@Vh.elim (λ_=>Bool) e c f=N3->P e) e c (λa b c d _=>k a b c d) c
noncomputable def nr(e:Expr)(f:Expr->List LZ->Scope->Pos->Bool):Bool:=if h:e.ctorIdx=8 then @Tr.elim (λ_=>Bool) e h f else VP
@[elab_as_elim]
theorem wl{P:Expr->Prop}(e:Expr){f:Expr->List LZ->Scope->Pos->Bool}(h:nr e f=N3)(k:∀a b c d,f a b c d=N3->P (.ListComp a b c d)):P e:=(pk h).elim λc=>@Tr.elim (λe=>∀c,@Tr.elim (λ_=>Bool) e c f=N3->P e) e c (λa b c d _=>k a b c d) c
noncomputable def Ad(e:Expr)(f:List (Option Expr)->List Expr->Pos->Bool):Bool:=if h:e.ctorIdx=6 then @Vo.elim (λ_=>Bool) e h f else VP
@[elab_as_elim]
theorem Fb{P:Expr->Prop}(e:Expr){f:List (Option Expr)->List Expr->Pos->Bool}(h:Ad e f=N3)(k:∀a b c,f a b c=N3->P (.Dict a b c)):P e:=(pk h).elim λc=>@Vo.elim (λe=>∀c,@Vo.elim (λ_=>Bool) e c f=N3->P e) e c (λa b c _=>k a b c) c
noncomputable def eG(e:Stmt)(f:List Expr->Expr->Pos->Bool):Bool:=if h:e.ctorIdx=5 then @UQ.elim (λ_=>Bool) e h f else VP
@[elab_as_elim]
theorem gA{P:Stmt->Prop}(e:Stmt){f:List Expr->Expr->Pos->Bool}(h:eG e f=N3)(k:∀a b c,f a b c=N3->P (.Assign a b c)):P e:=(pk h).elim λc=>@UQ.elim (λe=>∀c,@UQ.elim (λ_=>Bool) e c f=N3->P e) e c (λa b c _=>k a b c) c
noncomputable def fy(e:Stmt)(f:Expr->P1->Expr->Pos->Bool):Bool:=if h:e.ctorIdx=7 then @T3.elim (λ_=>Bool) e h f else VP
@[elab_as_elim]
theorem j6{P:Stmt->Prop}(e:Stmt){f:Expr->P1->Expr->Pos->Bool}(h:fy e f=N3)(k:∀a b c d,f a b c d=N3->P (.AugAssign a b c d)):P e:=(pk h).elim λc=>@T3.elim (λe=>∀c,@T3.elim (λ_=>Bool) e c f=N3->P e) e c (λa b c d _=>k a b c d) c
noncomputable def wm(e:Stmt)(f:Expr->Pos->Bool):Bool:=if h:e.ctorIdx=24 then @Vp.elim (λ_=>Bool) e h f else VP
@[elab_as_elim]
theorem DJ{P:Stmt->Prop}(e:Stmt){f:Expr->Pos->Bool}(h:wm e f=N3)(k:∀a b,f a b=N3->P (.Expr a b)):P e:=(pk h).elim λc=>@Vp.elim (λe=>∀c,@Vp.elim (λ_=>Bool) e c f=N3->P e) e c (λa b _=>k a b) c
noncomputable def qi(e:Stmt)(f:Option Expr->Pos->Bool):Bool:=if h:e.ctorIdx=3 then @UR.elim (λ_=>Bool) e h f else VP
@[elab_as_elim]
theorem zc{P:Stmt->Prop}(e:Stmt){f:Option Expr->Pos->Bool}(h:qi e f=N3)(k:∀a b,f a b=N3->P (.Return a b)):P e:=(pk h).elim λc=>@UR.elim (λe=>∀c,@UR.elim (λ_=>Bool) e c f=N3->P e) e c (λa b _=>k a b) c
noncomputable def DK(e:Stmt)(f:Expr->List Stmt->List Stmt->Pos->Bool):Bool:=if h:e.ctorIdx=12 then @Stmt.If.elim (λ_=>Bool) e h f else VP
@[elab_as_elim]
theorem Gb{P:Stmt->Prop}(e:Stmt){f:Expr->List Stmt->List Stmt->Pos->Bool}(h:DK e f=N3)(k:∀a b c d,f a b c d=N3->P (.If a b c d)):P e:=(pk h).elim λc=>@Stmt.If.elim (λe=>∀c,@Stmt.If.elim (λ_=>Bool) e c f=N3->P e) e c (λa b c d _=>k a b c d) c
noncomputable def Ae(e:Stmt)(f:Expr->Expr->List Stmt->List Stmt->Pos->Bool):Bool:=if h:e.ctorIdx=9 then @Stmt.For.elim (λ_=>Bool) e h f else VP
@[elab_as_elim]
theorem Fc{P:Stmt->Prop}(e:Stmt){f:Expr->Expr->List Stmt->List Stmt->Pos->Bool}(h:Ae e f=N3)(k:∀a b c d e,f a b c d e=N3->P (.For a b c d e)):P e:=(pk h).elim λc=>@Stmt.For.elim (λe=>∀c,@Stmt.For.elim (λ_=>Bool) e c f=N3->P e) e c (λa b c d e _=>k a b c d e) c
noncomputable def sn(e:Stmt)(f:Expr->List Stmt->List Stmt->Pos->Bool):Bool:=if h:e.ctorIdx=11 then @Vi.elim (λ_=>Bool) e h f else VP
@[elab_as_elim]
theorem Bt{P:Stmt->Prop}(e:Stmt){f:Expr->List Stmt->List Stmt->Pos->Bool}(h:sn e f=N3)(k:∀a b c d,f a b c d=N3->P (.While a b c d)):P e:=(pk h).elim λc=>@Vi.elim (λe=>∀c,@Vi.elim (λ_=>Bool) e c f=N3->P e) e c (λa b c d _=>k a b c d) c
noncomputable def wn(e:Stmt)(f:Pos->Bool):Bool:=if h:e.ctorIdx=25 then @Vq.elim (λ_=>Bool) e h f else VP
@[elab_as_elim]
theorem DL{P:Stmt->Prop}(e:Stmt){f:Pos->Bool}(h:wn e f=N3)(k:∀a,f a=N3->P (.Pass a)):P e:=(pk h).elim λc=>@Vq.elim (λe=>∀c,@Vq.elim (λ_=>Bool) e c f=N3->P e) e c (λa _=>k a) c
noncomputable def so(e:Stmt)(f:Pos->Bool):Bool:=if h:e.ctorIdx=26 then @Vj.elim (λ_=>Bool) e h f else VP
@[elab_as_elim]
theorem Bu{P:Stmt->Prop}(e:Stmt){f:Pos->Bool}(h:so e f=N3)(k:∀a,f a=N3->P (.Break a)):P e:=(pk h).elim λc=>@Vj.elim (λe=>∀c,@Vj.elim (λ_=>Bool) e c f=N3->P e) e c (λa _=>k a) c
noncomputable def kw(e:Stmt)(f:Pos->Bool):Bool:=if h:e.ctorIdx=27 then @Ts.elim (λ_=>Bool) e h f else VP
@[elab_as_elim]
theorem uk{P:Stmt->Prop}(e:Stmt){f:Pos->Bool}(h:kw e f=N3)(k:∀a,f a=N3->P (.Continue a)):P e:=(pk h).elim λc=>@Ts.elim (λe=>∀c,@Ts.elim (λ_=>Bool) e c f=N3->P e) e c (λa _=>k a) c
noncomputable def lv0{α:Type}(xs:List α)(b:Bool):Bool:=xs.isEmpty&&b
noncomputable def lvc{α:Type}(xs:List α)(f:α->List α->Bool):Bool:=match xs with
 |y::r=>f y r
 |[]=>VP
noncomputable def lv1{α:Type}(xs:List α)(f:α->Bool):Bool:=lvc xs λy r=>lv0 r (f y)
noncomputable def lv2{α:Type}(xs:List α)(f:α->α->Bool):Bool:=lvc xs λy r=>lv1 r (f y)
noncomputable def os{α:Type}(o:Option α)(f:α->Bool):Bool:=match o with
 |some x=>f x
 |none=>VP
noncomputable def on{α:Type}(o:Option α)(b:Bool):Bool:=o.isNone&&b
@[elab_as_elim]
theorem i7{α:Type}{P:List α->Prop}(xs:List α){b:Bool}(h:lv0 xs b=N3)(k:b=N3->P []):P xs:=by
 cases xs with
 |nil=>exact k h
 |cons _ _=>cases h
@[elab_as_elim]
theorem DM{α:Type}{P:List α->Prop}(xs:List α){f:α->List α->Bool}(h:lvc xs f=N3)(k:∀y r,f y r=N3->P (y::r)):P xs:=by
 cases xs with
 |nil=>cases h
 |cons y r=>exact k y r h
@[elab_as_elim]
theorem cY{α:Type}{P:List α->Prop}(xs:List α){f:α->Bool}(h:lv1 xs f=N3)(k:∀y,f y=N3->P [y]):P xs:=DM xs h λy r h=>i7 r h λh=>k y h
@[elab_as_elim]
theorem lh{α:Type}{P:List α->Prop}(xs:List α){f:α->α->Bool}(h:lv2 xs f=N3)(k:∀y z,f y z=N3->P [y,z]):P xs:=DM xs h λy r h=>cY r h λz h=>k y z h
@[elab_as_elim]
theorem jos{α:Type}{P:Option α->Prop}(o:Option α){f:α->Bool}(h:os o f=N3)(k:∀x,f x=N3->P (Z x)):P o:=by
 cases o with
 |none=>cases h
 |some x=>exact k x h
@[elab_as_elim]
theorem jon{α:Type}{P:Option α->Prop}(o:Option α){b:Bool}(h:on o b=N3)(k:b=N3->P Y):P o:=by
 cases o with
 |none=>exact k h
 |some x=>cases h
theorem bK{a b:Bool}(h:(a&&b)=N3):a=N3/\b=N3:=by rwa[tv]at h
noncomputable def cc(e:Expr)(g:Str->List Expr->Bool):Bool:=ui e λf xs ks _=>lv0 ks (dj f λx _=>g x xs)
@[elab_as_elim]
theorem ce{P:Expr->Prop}(e:Expr){g:Str->List Expr->Bool}(h:cc e g=N3)(k:∀x xs p pos,g x xs=N3->P (.Call (.Name x p) xs [] pos)):P e:=Ac e h λf xs ks pos h=>i7 ks h λh=>dG f h λx p h=>k x xs p pos h
noncomputable def kx(e:Expr)(g:Expr->Str->List Expr->Pos->Pos->Bool):Bool:=ui e λf xs ks p=>lv0 ks (ku f λo n q=>g o n xs q p)
@[elab_as_elim]
theorem ow{P:Expr->Prop}(e:Expr){g:Expr->Str->List Expr->Pos->Pos->Bool}(h:kx e g=N3)(k:∀o n xs q p,g o n xs q p=N3->P (.Call (.Attribute o n q) xs [] p)):P e:=Ac e h λf xs ks pos h=>i7 ks h λh=>uj f h λo n q h=>k o n xs q pos h
noncomputable def iSl(e:Expr)(g:Expr->Option Expr->Option Expr->Option Expr->Bool):Bool:=cR e λx y _=>wk y λl u s _=>g x l u s
@[elab_as_elim]
theorem jSl{P:Expr->Prop}(e:Expr){g:Expr->Option Expr->Option Expr->Option Expr->Bool}(h:iSl e g=N3)(k:∀x l u s p pos,g x l u s=N3->P (.Subscript x (.Slice l u s p) pos)):P e:=dH e h λx y pos h=>DI y h λl u s p h=>k x l u s p pos h
mutual
noncomputable def okG:MG->Ctx->Expr->Bool
 |.name i,C,e=>dj e λx _=>decide (C.N[i]?=Z x)&&ug C.sc x&&(C.sc.names.lookup x==Z .local || C.fn.contains x)
 |.tup gs,C,e=>dr e λes _ _=>okGs gs C es
noncomputable def okGs:MGs->Ctx->List Expr->Bool
 |.nil,_,es=>es.isEmpty
 |.cons g r,C,es=>match es with
  |e::es=>aU e&&okG g C e&&okGs r C es
  |[]=>VP
end
noncomputable def ox(ns:List Str):List Nat->List Expr->Bool
 |[],[]=>N3
 |i::r,e::es=>dj e (λx _=>decide (ns[i]?=Z x) && !(x==("__debug__":Str)) && !(x==("__classdict__":Str)))&&ox ns r es
 |_,_=>VP
noncomputable def su(C:Ctx)(j:Nat)(js:List Nat)(ns:List Str)(sc:Scope)(b:Expr):Bool:=cc b λg es=>decide (C.Γ[j]?=Z g)&&glB sc g && !(g==("__debug__":Str)) && !es.isEmpty&&ox ns js es
noncomputable def cS(cs:List Nat)(N:List Str):Option (List Str):=cs.mapM λc=>N[c]?
noncomputable def ky:OW->Option (Arg×Arg)
 |⟨[],[a1,a2],Y,[],[],Y,[]⟩=>Z (a1,a2)
 |_=>Y
noncomputable def oz(C:Ctx)(j:Nat)(cs js:List Nat)(sc:Scope)(b:Expr)(y1 y2:Str)(xs:List Str):Bool:=
 decide (sc.kind=.function) && !sc.isCoroutine && !sc.isGenerator && !(y1==y2)&&sc.names.lookup y1==Z .local&&sc.names.lookup y2==Z .local
  && xs.all (λx=>sc.names.lookup x==Z .free&&C.sc.names.lookup x==Z .cell)&&sc.names.all (λy=>!(y.2==.cell)&&(!(y.2==.free) || xs.contains y.1))&&su C j js (xs++[y1,y2]) sc b
noncomputable def Af(C:Ctx)(j:Nat)(cs js:List Nat)(pos:Pos):Expr->Bool
 |.Lambda ps b sc pos'=>decide (pos'=pos)&&os (ky ps) (λa=>os (cS cs C.N) (oz C j cs js sc b a.1.arg a.2.arg))
 |_=>VP
mutual
noncomputable def okE:ME->Ctx->Expr->Bool
 |.var i,C,e=>dj e λx _=>decide (C.N[i]?=Z x)&&uf C.sc x && !(x==("__debug__":Str)) && !(x==("__classdict__":Str))
 |.int i,_,e=>eX e λc _ _=>decide (c=.int i)
 |.bl i,_,e=>eX e λc _ _=>decide (c=.bool i)
 |.non,_,e=>eX e λc _ _=>decide (c=.none)
 |.bin op a b,C,e=>wg e λl o r _=>decide (o=opO op)&&okE a C l&&okE b C r
 |.neg a,C,e=>gw e λo x _=>decide (o=.USub)&&okE a C x
 |.cmp op a b,C,e=>jl e λl os rs _=>lv1 os λo=>lv1 rs λr=>decide (o=za op)&&okE a C l&&okE b C r && !(Pn o r)
 |.and es,C,e=>fL e λo xs _=>decide (o=.And) && !xs.isEmpty&&okEs es C xs
 |.or es,C,e=>fL e λo xs _=>decide (o=.Or) && !xs.isEmpty&&okEs es C xs
 |.not a,C,e=>gw e λo x _=>decide (o=.Not)&&okE a C x
 |.ite c a b,C,e=>wj e λt x y _=>okT c C t&&okE a C x&&okE b C y
 |.tup es,C,e=>dr e λxs _ _=>okEs es C xs
 |.lst es,C,e=>Ab e λxs _=>okEs es C xs
 |.ix a b,C,e=>cR e λx y _=>iJ y&&okE a C x&&okE b C y
 |.sl a lo hi,C,e=>iSl e λx l u s=>on s (okE a C x&&okO lo C l&&okO hi C u)
 |.callC i es,C,e=>cc e λx xs=>decide (C.lm=1)&&decide (C.N[i]?=Z x)&&uf C.sc x && !(x==("__debug__":Str)) && !(x==("__classdict__":Str))&&decide (xs.length=2)&&okEs es C xs
 |.callL f es j cs js P pos q,C,e=>cc e λx xs=>decide (C.lm=P+2)&&decide (C.Γ[f]?=Z x)&&glB C.sc x && !(x==("__debug__":Str))&&decide (C.nm++(".<locals>.":Str)++("<lambda>":Str)=q)&&os xs.getLast? (Af C j cs js pos) && !xs.dropLast.isEmpty&&okEs es C xs.dropLast
 |.call f es,C,e=>cc e λx xs=>decide (C.Γ[f]?=Z x)&&glB C.sc x && !(x==("__debug__":Str))&&okEs es C xs
 |.blt f es,C,e=>cc e λx xs=>decide (x=qg f)&&glB C.sc x && !xs.isEmpty&&okEs es C xs
 |.isin a T,C,e=>cc e λx xs=>lv2 xs λy w=>dj w λz _=>decide (x="isinstance")&&glB C.sc x&&glB C.sc z&&decide (z=Ll T)&&decide (T∈["bool","int","str","tuple","list","dict"])&&aU y&&okE a C y
 |.glob x k,C,e=>dj e λy _=>decide (y=x)&&glB C.sc y&&decide ((x,k)∈C.cs) && !(x==("__debug__":Str))
 |.dnew _,_,e=>Ad e λks vs _=>lv0 ks (lv0 vs N3)
 |.sortI a,C,e=>cc e λx xs=>lv1 xs λw=>kx w λy n ys ap cp=>lv0 ys (decide (x="sorted")&&glB C.sc x&&decide (n="items")&&fK y&&(ap.endLine==cp.line)&&okE a C y)
 |.dget o k x,C,e=>kx e λy n xs ap cp=>lv2 xs λe1 e2=>decide (n="get")&&fK y&&(ap.endLine==cp.line)&&aU e1&&aU e2&&okE o C y&&okE k C e1&&okE x C e2
 |.meth m o a,C,e=>kx e λx n xs ap cp=>lv1 xs λy=>decide (n=DE m)&&fK x&&(ap.endLine==cp.line)&&aU y&&okE o C x&&okE a C y
 |.ins o i a,C,e=>kx e λx n xs ap cp=>lv2 xs λy z=>decide (n="insert")&&fK x&&(ap.endLine==cp.line)&&aU y&&aU z&&okE o C x&&okE i C y&&okE a C z
 |.comp fr N' c,C,e=>nr e λelt gens sc _=>zb sc C.sc C.N N' fr&&okC c C ⟨C.Γ,N',jj sc C.sc,(sc.names.filter (·.2==.cell)).map (·.1),C.cs,0,C.nm⟩ gens elt
noncomputable def okEs:MEs->Ctx->List Expr->Bool
 |.nil,_,es=>es.isEmpty
 |.cons m r,C,es=>match es with
  |e::es=>aU e&&okE m C e&&okEs r C es
  |[]=>VP
noncomputable def okO:MO->Ctx->Option Expr->Bool
 |.none,_,e=>e.isNone
 |.some m,C,e=>match e with
  |some e=>okE m C e
  |none=>VP
noncomputable def okT:MT->Ctx->Expr->Bool
 |.tru m,C,e=>wf e&&okE m C e
 |.cmp op a b,C,e=>jl e λl os rs _=>lv1 os λo=>lv1 rs λr=>decide (o=za op)&&okE a C l&&okE b C r && !(Pn o r)
 |.and ts,C,e=>fL e λo xs _=>decide (o=.And) && !xs.isEmpty&&okTs ts C xs
 |.or ts,C,e=>fL e λo xs _=>decide (o=.Or) && !xs.isEmpty&&okTs ts C xs
 |.not t,C,e=>gw e λo x _=>decide (o=.Not)&&okT t C x
noncomputable def okTs:MTs->Ctx->List Expr->Bool
 |.nil,_,es=>es.isEmpty
 |.cons m r,C,es=>match es with
  |e::es=>okT m C e&&okTs r C es
  |[]=>VP
noncomputable def okI:MI->Ctx->Expr->Expr->Bool
 |.seq m,C,_,e=>uh e&&okE m C e
 |.rng1 a,C,_,e=>cc e λx xs=>lv1 xs λy=>decide (x="range")&&glB C.sc x&&aU y&&okE a C y
 |.enum a,C,t,e=>cc e λx xs=>lv1 xs λy=>dr t λ_ _ _=>decide (x="enumerate")&&glB C.sc x&&aU y&&okE a C y
 |.zip a b,C,t,e=>cc e λx xs=>lv2 xs λy z=>dr t λ_ _ _=>decide (x="zip")&&glB C.sc x&&aU y&&aU z&&okE a C y&&okE b C z
noncomputable def okC:MC->Ctx->Ctx->List LZ->Expr->Bool
 |.last src g ifs m,Cs,C,gens,elt=>match gens with
  |[⟨t,it,fs,a⟩]=>decide (a=0)&&okI src Cs t it&&okG g C t&&okTs ifs C fs&&okE m C elt
  |_=>VP
 |.more src g ifs rest,Cs,C,gens,elt=>match gens with
  |⟨t,it,fs,a⟩::g2::gs=>decide (a=0)&&okI src Cs t it&&okG g C t&&okTs ifs C fs&&okC rest C C (g2::gs) elt
  |_=>VP
end
noncomputable def bf(sc:Scope)(ts:List Expr):List Str:=ts.filterMap fun
 |.Name id pos=>if sc.names.lookup id==Z .local&&pos.line==(ts.head?.map (·.pos.line)).getD 0 then Z id else Y
 |_=>Y
noncomputable def um(sc:Scope)(ts vs:List Expr):Bool:=!(ts.length==2 || ts.length==3) || vs.length != ts.length || (bf sc ts).length != ts.length || (bf sc ts).eraseDups.length != (bf sc ts).length || vs.all (Tt 8)
noncomputable def uo(C:Ctx)(i:Nat)(x:Str):Bool:=decide (C.N[i]?=Z x)&&decide (C.sc.names.lookup x=Z .local)
noncomputable def uq(sc:Scope)(ts vs:List Expr)(ns:List Str):Bool:=!(!(ts.length==2 || ts.length==3) || vs.length != ts.length) && !(vs.any λ| .Starred ..=>N3|_=>VP)&&decide (bf sc ts=ns) && !((bf sc ts).length != ts.length || (bf sc ts).eraseDups.length != (bf sc ts).length) && !(vs.all (Tt 8)) && !(vs.all (constantsAlone 8))
noncomputable def ur(sc:Scope)(tg e:Expr):Bool:=match tg,e with
 |.Tuple ts _ _,.Tuple vs _ _=>um sc ts vs
 |.Tuple ..,_=>N3
 |.Name ..,_=>N3
 |_,_=>VP
noncomputable def DN(sc:Scope)(x:Str)(px:Pos)(e:Expr):Bool:=match e with
 |.DictComp _ _ _ s _=>!(sc.names.lookup x==Z .local&&px.line==e.pos.line && !(s.names.any λ(n,k)=>n==x&&(k==.local || k==.cell)))
 |_=>N3
noncomputable def ut(sc:Scope)(x:Str)(px:Pos)(e:Expr):Bool:=match e with
 |.ListComp _ _ s _=>sc.names.lookup x==Z .local&&px.line==e.pos.line && !(s.names.any λ(n,k)=>n==x&&(k==.local || k==.cell))
 |_=>VP
mutual
noncomputable def okS:MS->Ctx->Stmt->Bool
 |.asg g m,C,s=>eG s λts e _=>lv1 ts λtg=>okG g C tg&&okE m C e&&ur C.sc tg e&&(match tg with|.Name x px=>DN C.sc x px e|_=>kr e)
 |.asgL gs m,C,s=>eG s λts e _=>lv1 ts λtg=>dr tg λts k p=>okGs gs C ts&&okE m C e&&ur C.sc (.Tuple ts k p) e
 |.par i j a b,C,s=>eG s λts e _=>lv1 ts λtg=>dr tg λts _ _=>dr e λes _ _=>lv2 ts λt u=>lv2 es λe f=>dj t λx px=>dj u λy py=>uo C i x&&uo C j y&&decide (i≠j)&&aU e&&aU f&&okE a C e&&okE b C f&&uq C.sc [.Name x px,.Name y py] [e,f] [x,y]
 |.put o i m,C,s=>eG s λts e _=>lv1 ts λtg=>cR tg λx y _=>iJ y&&kr e&&okE o C x&&okE i C y&&okE m C e
 |.aug i op m,C,s=>fy s λt o e _=>dj t λx _=>decide (o=opO op)&&(match op with|.add|.sub|.mul=>N3|_=>VP)&&decide (C.N[i]?=Z x)&&ug C.sc x&&(C.sc.names.lookup x==Z .local || C.fn.contains x)&&okE m C e
 |.augI o i op m,C,s=>fy s λt o' e _=>cR t λx y _=>decide (o'=opO op)&&(match op with|.add|.sub|.mul=>N3|_=>VP)&&iJ y&&okE o C x&&okE i C y&&okE m C e
 |.drop m,C,s=>wm s λe _=>kr e&&okE m C e
 |.ret m,C,s=>qi s λo _=>os o λe=>okE m C e
 |.ite c a b,C,s=>DK s λt x y _=>okT c C t&&okSs a C x&&okSs b C y
 |.for g src b,C,s=>Ae s λtg it body els _=>lv0 els (uh it&&okG g C tg&&okI src C tg it&&okSs b C body)
 |.while c b,C,s=>sn s λt body els _=>lv0 els (okT c C t&&okSs b C body)
 |.pass,_,s=>wn s λ_=>N3
 |.brk,_,s=>so s λ_=>N3
 |.cnt,_,s=>kw s λ_=>N3
noncomputable def okSs:MSs->Ctx->List Stmt->Bool
 |.nil,_,ss=>ss.isEmpty
 |.cons m r,C,ss=>match ss with
  |s::ss=>okS m C s&&okSs r C ss
  |[]=>VP
end
theorem aj(h:aU e=N3):Lg (e::es) env=(VP,eval e env)::Lg es env:=by cases e<;>first|rfl|(cases h;done)
theorem nv(h:aU e=N3):Mp (e::es) env=(VP,assign e env)::Mp es env:=by cases e<;>first|rfl|(cases h;done)
theorem uu(h:wf e=N3):∀whole,isTrue e env whole=(do let v <-whole;Ri e.pos;holding [v] (truthy v)):=by
 intro w
 cases e<;>first|rfl|(cases h;done)
theorem ze(h:iJ e=N3):kP e:=by
 intro o i
 cases e<;>first|rfl|(cases h;done)
theorem wo(h:uh e=N3):∀x,Nx e env x=pure x:=by
 intro x
 cases e<;>first|rfl|(cases h;done)
theorem gC{n:Str}(h:fK e=N3):Rt e n env (eval e env)=eval e env:=by
 cases e<;>first
  |rfl
  | (rename_i f xs _ _;cases xs with
     |nil=>cases h
     |cons _ _=>cases f<;>rfl)
theorem DO{ts:List Expr}{k:Nat}{p:Pos}{l:Nat}:Pa e (Z (.Tuple ts k p)) l env=pure VP:=by cases e<;>rfl
theorem lj{t:Option Expr}{l:Nat}(h:kr e=N3):Pa e t l env=pure VP:=by cases e<;>first|rfl|(cases h;done)
end
variable{x:Str}{sc:Scope}{fr:List (Option Nat)}
section
noncomputable def lSp(K:Frag)(r:RAd):Sp:=λvs H Q _=>lR K r vs H Q
noncomputable def uv(Φ:Phi)(j:Nat)(gs:List D)(js:List Nat):RAd:=λargs M Q=>args.length=2/\Φ (4000+j) (js.map λi=>(gs++args).getD i .non) M Q
noncomputable def spC(P:Lb)(w:Ly)(K:Frag)(mg:Str->Option i3)(base:Heap)(k:Nat)(Φ:Phi)(i:Nat):List Env->r0->Sp:=λouter s vs H Q _=>∃(ds:List D) (a:VQ) (j:Nat) (gs:List D) (js:List Nat) (M:Mem),RM K M H/\RDs K H (ds++[.ref a]) vs/\iq P w K mg base (k-1) (frs outer) a (lSp K (uv Φ j gs js)) H s.heap/\Φ (1000+i) (ds++[.ref a,.int j,.tup gs,.tup (js.map λi:Nat=>.int i)]) M (KE' K M H Q)
def wq(X:Cx)(a:VQ)(r:RAd):Prop:=∀(pins:List (VQ×Obj)) (s:r0) (σ:St) (H:Hp) (vs:List V) (us:List i3) (Q:VK),Inv X pins σ H s->Vals vs us->lR X.K r vs H Q->
 U3 a s.heap/\KU (model X.prog X.w) X.A (call (.ref a) us) (EP X pins σ Q) X.xe s
structure wt(C:Ctx)(Φ:Phi)(k:Nat)(X:Cx)(P:VQ):Prop where
 cd:∃c,X.env.code=.ref c/\PySem.W.CodeHd X.base c P
 bm:fj X.mg X.base
 qu:X.env.qual=C.nm++(".<locals>.":Str)
 spc:∀(i:Nat) (x:Str),C.Γ[i]?=Z x->∃f fd ps,X.mg x=Z (.ref f)/\NT X.K (.ref f)=N3/\Binds X.K fd ps []/\nN X.prog X.w X.K X.mg X.base k f fd ps (spC X.prog X.w X.K X.mg X.base k Φ i)
 low:∀(j:Nat) (x:Str),C.Γ[j]?=Z x->∃f fd ps,X.mg x=Z (.ref f)/\NT X.K (.ref f)=N3/\Binds X.K fd ps []/\FnOk X.prog X.w X.K X.mg X.base CX0 (k-2) f fd ps (lSp X.K (Φ (4000+j)))
 big:(∃k0,k=k0+2)∨∀(j:Nat) (x:Str),C.Γ[j]?=Z x->∀ds M Q,¬Φ (4000+j) ds M Q
structure Good(C:Ctx)(Φ:Phi)(k:Nat)(X:Cx):Prop where
 hx:∀e s,X.xe e s->False
 calm:X.calm=N3
 N:X.N=C.N
 sc:X.env.scope=C.sc
 nd:X.N.Nodup
 fn:∀x∈C.fn,X.fn x=N3
 room:Room k X.A
 mgB:∀x∈bltNames,X.mg x=Y
 fns:∀(i:Nat) (x:Str),C.Γ[i]?=Z x->∃f fd ps,X.mg x=Z (.ref f)/\PY X.K Me x=Z (Z (.ref f))/\NT X.K (.ref f)=N3/\Binds X.K fd ps []/\FnOk X.prog X.w X.K X.mg X.base CX0 k f fd ps (lSp X.K (Φ i))
 mono:∀f,aK (Φ f)
 cs:∀x d,(x,d)∈C.cs->∃u,X.mg x=Z u/\GV X.K d u
 clo:C.lm=1->∀a,wq X a (Φ (5000+a))
 lam:∀P,C.lm=P+2->wt C Φ k X P
section
variable{C:Ctx}{Φ:Phi}{k:Nat}{X:Cx}
theorem Good.units(G:Good C Φ k X):X.A.units+64<Oa:=G.room.units
theorem Good.gl(G:Good C Φ k X)(h:glB C.sc x=N3):Gl X x:=by show X.env.scope.names.lookup x=_;rw[G.sc];simpa[glB]using h
theorem Good.vis(G:Good C Φ k X)(h:uf C.sc x=N3):Vis X.env.scope x:=by
 unfold Vis;rw[G.sc];simp[uf]at h
 rcases h with(h|h)|h
 ·exact .inl h
 ·exact .inr (.inl h)
 ·exact .inr (.inr h)
theorem Good.loc(G:Good C Φ k X)(h:ug C.sc x=N3):Loc X.env.scope x:=by unfold Loc;rw[G.sc];simpa[ug]using h
theorem Good.own(G:Good C Φ k X)(h:(C.sc.names.lookup x==Z .local || C.fn.contains x)=N3):X.fn x=N3∨X.env.scope.names.lookup x=Z .local:=by
 rw[G.sc];simp at h
 rcases h with h|h
 ·exact .inr h
 ·exact .inl (G.fn x h)
theorem DP(G:Good C Φ k X):∀o:BOp,OpR X (MV (opO o)) (l2 X.K (opB o))
 |.add=>yh|.sub=>yi|.mul=>yj|.fdiv=>vm|.mod=>ym|.pow=>yn
theorem sv(G:Good C Φ k X):∀o:COp,OpR X (Ny (za o)) (l2 X.K (opC o))
 |.eq=>AT (by have:=G.units;lia)|.ne=>AU (by have:=G.units;lia)|.lt=>AY| .gt=>AZ|.ge=>B0| .ninD=>we (by have:=G.units;lia)
theorem DQ(G:Good C Φ k X){f:BF}{t:TAd}{p:Pos}(mt:aY t)(z:Gl X (qg f))(B:PA X (e::es) (lA X.K t))(he:Lg (e::es) X.env=(VP,eval e X.env)::Lg es X.env)(j:(OG pos (Lg es X.env)).any (·.1)=VP):PE X (.Call (.Name (qg f) p) (e::es) [] pos) (lE X.K (wAr (opF f) t)):=by
 cases f with
 |len=>exact PE.imp (bY tG z (G.mgB _ (by decide)) PySem.boot_len B (by decide) (by decide) he j) (bC pe mt)
 |abs=>exact PE.imp (bY tH z (G.mgB _ (by decide)) (by decide +kernel) B (by decide) (by decide) he j) (bC pi mt)
 |max2=>exact PE.imp (bY (r6 G.calm) z (G.mgB _ (by decide)) (by decide +kernel) B (by decide) (by decide) he j) (bC mG mt)
 |min2=>exact PE.imp (bY (r8 G.calm) z (G.mgB _ (by decide)) (by decide +kernel) B (by decide) (by decide) he j) (bC mH mt)
 |int=>exact PE.imp (gL tI z (G.mgB _ (by decide)) (by decide +kernel) B (by decide) (by decide) he j) (bC pj mt)
 |list=>exact PE.imp (gL r9 z (G.mgB _ (by decide)) (by decide +kernel) B (by decide) (by decide) he j) (bC mJ mt)
 |tuple=>exact PE.imp (gL pE z (G.mgB _ (by decide)) (by decide +kernel) B (by decide) (by decide) he j) (bC jS mt)
 |sum=>exact PE.imp (bY (tK G.calm) z (G.mgB _ (by decide)) (by decide +kernel) B (by decide) (by decide) he j) (bC pF mt)
 |all=>exact PE.imp (bY (u5 G.calm) z (G.mgB _ (by decide)) (by decide +kernel) B (by decide) (by decide) he j) (bC pS mt)
 |sorts=>exact PE.imp (bY (qd (by have:=G.units;lia) G.calm) z (G.mgB _ (by decide)) (by decide +kernel) B (by decide) (by decide) he j) (bC kl mt)
theorem Bv(G:Good C Φ k X){t:TAd}{p:Pos}(mt:aY t)(hf:C.Γ[f]?=Z x)(B:Gl X x)(j:(x==("__debug__":Str))=VP)(J:PA X (e::es) (lA X.K t))(he:Lg (e::es) X.env=(VP,eval e X.env)::Lg es X.env)(z:(OG pos (Lg es X.env)).any (·.1)=VP):PE X (.Call (.Name x p) (e::es) [] pos) (lE X.K (wAr (Φ f) t)):=by
 obtain⟨a,fd,ps,hm,_,L,O,F⟩:=G.fns f x hf;refine PE.imp (rE F G.room B hm L O .nil tu J j he z) λσ H Q h=>?_;have h2:=bC (G.mono f) mt σ H Q h;have:(λvs H1=>lSp X.K (Φ f) (vs++[]) H1 Q E0)=λvs H1=>lR X.K (Φ f) vs H1 Q:=by funext vs H1;rw[Mv];rfl
 show(lA X.K t) σ H _;rw[this];exact h2
theorem zf(G:Good C Φ k X){p:Pos}(hf:C.Γ[f]?=Z x)(z:Gl X x)(j:(x==("__debug__":Str))=VP):PE X (.Call (.Name x p) [] [] pos) (lE X.K (wAr (Φ f) br)):=by obtain⟨a,fd,ps,hm,_,B,J,F⟩:=G.fns f x hf;refine PE.imp (xM F G.room z hm B J .nil tu j) λσ H Q h=>?_;obtain⟨ρ,M,rs,rm,q⟩:=h;exact⟨[],M,rm,RDs.nil,q⟩
theorem cZ{env:Env}{pos:Pos}:∀{es:List Expr},es.all aU=N3->(OG pos (Lg es env)).any (·.1)=VP
 |[],_=>rfl
 |e::es,h=>by
  simp only[Ot,tv]at h;rw[aj h.1];show(VP || (OG pos (Lg es env)).any (·.1))=VP
  rw[cZ h.2];rfl
theorem du:∀{ms:MEs} {es:List Expr},okEs ms C es=N3->es.all aU=N3
 |.nil,[],_=>rfl
 |.nil,_::_,h=>by simp[okEs]at h
 |.cons m r,[],h=>by simp[okEs]at h
 |.cons m r,e::es,h=>by simp only[okEs,tv]at h;simp only[Ot,tv];exact⟨h.1.1,du h.2⟩
theorem ll:∀{gs:MGs} {es:List Expr},okGs gs C es=N3->∀ds ρ ρ',bGs gs ds ρ=Z ρ'->ds.length=es.length
 |.nil,es,h,ds,ρ,ρ',e=>by
  simp[okGs]at h;subst h;rw[bGs]at e
  cases ds with
  |nil=>rfl
  |cons _ _=>cases e
 |.cons g r,[],h,_,_,_,_=>by simp[okGs]at h
 |.cons g r,x::es,h,ds,ρ,ρ',e=>by
  simp only[okGs,tv]at h;rw[bGs]at e
  cases ds with
  |nil=>cases e
  |cons d ds=>
   simp only[cu]at e
   cases e1:bG g d ρ with
   |none=>rw[e1]at e;cases e
   |some ρ1=>rw[e1]at e;simp[ll h.2 ds ρ1 ρ' e]
theorem jm{env:Env}:∀{gs:MGs} {es:List Expr},okGs gs C es=N3->(Mp es env).length=es.length/\(Mp es env).findIdx? (·.1)=Y
 |.nil,es,h=>by simp[okGs]at h;subst h;exact⟨rfl,rfl⟩
 |.cons g r,[],h=>by simp[okGs]at h
 |.cons g r,x::es,h=>by
  simp only[okGs,tv]at h;obtain⟨a,b⟩:=jm (env:=env) h.2;rw[nv h.1.1];refine⟨by simp[a],?_⟩
  rw[List.findIdx?_cons];simp[b]
mutual
theorem sG(G:Good C Φ k X):∀(m:MG) (e:Expr),okG m C e=N3->PG X e (lG X.K (bG m))
 |.name i,e,h=>by refine dG e h λx _ h=>?_;simp only[tv]at h;exact Ba G.nd (by rw[G.N];exact of_decide_eq_true h.1.1) (G.loc h.1.2) (G.own h.2)
 |.tup gs,e,h=>by refine eF e h λes _ _ h=>?_;rw[bG];obtain⟨a,b⟩:=jm (env:=X.env) h;exact Dl G.calm (ll h) (sGs G gs _ h) a b
theorem sGs(G:Good C Φ k X):∀(m:MGs) (es:List Expr),okGs m C es=N3->PGs X es (lGs X.K (bGs m))
 |.nil,es,h=>by simp[okGs]at h;subst h;exact Bb
 |.cons g r,[],h=>by simp[okGs]at h
 |.cons g r,e::es,h=>by simp only[okGs,tv]at h;exact yx (sG G g e h.1.2) (sGs G r es h.2) (by rw[nv h.1.1];rfl)
end
theorem PB.imp{F:Sem Fin->Sem Fin}{t t':TC}(h:PB X F t)(i:∀σ H N,t' σ H N->t σ H N):PB X F t':=λpins s σ H N k Q E I q hk=>h pins s σ H N k Q E I (i _ _ _ q) hk
theorem kz{osc:Scope}{oN N':List Str}(h:zb sc osc oN N' fr=N3):bh sc osc oN N' fr:=by
 simp only[zb,tv,decide_eq_true_eq]at h;obtain⟨⟨⟨⟨⟨h1,h2⟩,G⟩,J⟩,L⟩,O⟩:=h;refine⟨h1,h2,G,λx hx e=>?_,L,λi j x hi hf=>?_⟩
 ·have B:=NR.mp J x hx;rw[e]at B;simpa using B
 ·have F:i<N'.length:=(KN.mp hi).1;have z:=NR.mp O i (LC.mpr F);rw[hf,hi]at z;simp only[tv,decide_eq_true_eq,Mq]at z;obtain⟨a,y,U,e⟩:=z;exact⟨a,by rw[<-e];exact U⟩
theorem Good.blk(G:Good C Φ k X){N':List Str}(B:bh sc C.sc C.N N' fr)(s:r0)(H:Hp)(fp:List VQ):
 Good ⟨C.Γ,N',jj sc C.sc,(sc.names.filter (·.2==.cell)).map (·.1),C.cs,0,C.nm⟩ Φ k (aR X sc N' s H fp):=by
 refine⟨λ_ _ h=>h,G.calm,rfl,?_,B.ndN,λx hx=>?_,G.room,G.mgB,G.fns,G.mono,G.cs,λz=>(by cases z),λ_ z=>(by cases z)⟩
 ·show relabel sc X.env=_;rw[rC,G.sc]
 ·obtain⟨y,F,e⟩:=KP.mp hx;obtain⟨h1,h2⟩:=NB.mp F;obtain⟨n,kd⟩:=y;have j:kd=.cell:=by simpa using h2
  subst j;have e':n=x:=e;subst e';show(sc.names.lookup n==Z .cell)=N3;rw[aZ B.nd h1];rfl
end
end
variable{y:Str}{C:Ctx}
section
section
variable{C:Ctx}{Φ:Phi}{k:Nat}{X:Cx}
theorem zg(G:Good C Φ k X)(j:C.lm=1){i:Nat}{t:TAd}{p:Pos}(mt:aY t)(U:X.N[i]?=Z y)(z:Vis X.env.scope y)(B:(y==("__debug__":Str))=VP)(F:(y==("__classdict__":Str))=VP)(F2:PA X (e::es) (lA X.K t))(he:Lg (e::es) X.env=(VP,eval e X.env)::Lg es X.env)(J:(OG pos (Lg es X.env)).any (·.1)=VP):PE X (.Call (.Name y p) (e::es) [] pos) (lE X.K (km Φ i t)):=by
 intro pins s σ H Q I h;obtain⟨ρ,M,rs,rm,a,er,q⟩:=h;obtain⟨v,ev,rd⟩:=rs.2 i _ er
 cases Vu.mp rd
 refine Np (thn (oC U z B F pins s σ H (λv H'=>v=.ref a/\H'=H) I ⟨_,ev,rfl,rfl⟩) λu s1 L=>?_);obtain⟨v,H1,fv,r,z,hH⟩:=L;subst z hH
 cases r
 have h2:=bC (G.mono (5000+a)) mt σ H1 Q ⟨ρ,M,rs,rm,q⟩;have O:=F2 pos pins s1 σ H1 (λvs H1=>lR X.K (Φ (5000+a)) vs H1 Q) fv h2;rw[he]at O⊢;refine PySem.W.callWith_of (P:=U3 a) ?_ PySem.W.keeps_F (Qu (thn O λus s2 L=>?_))
 ·show((VP || (OG pos (Lg es X.env)).any (·.1)) || VP)=VP
  rw[J];rfl
 ·obtain⟨vs,H2,I2,r,q⟩:=L;exact G.clo j a pins s2 σ H2 vs us Q I2 r q
noncomputable def iL(t:TA)(tl:TE):TA:=λσ H Q=>t σ H λvs H1=>tl σ H1 λv H2=>Q (vs++[v]) H2
theorem zh{tl:TE}(h:PE X e tl)(hs:Lg [e] X.env=(VP,eval e X.env)::Lg [] X.env):PA X [e] (iL (lA X.K br) tl):=PA.imp (dJ h jA hs) λσ H Q g9=>(by obtain⟨ρ,M,rs,rm,q⟩:=g9;exact q [] H Ext.refl rm RDs.nil)
theorem wu{l:Expr}{ta:TEd}{tr:TAd}{tl:TE}(ma:ad ta)(mr:aY tr)(j:PE X e (lE X.K ta))(z:PA X (es++[l]) (iL (lA X.K tr) tl))(hs:Lg (e::(es++[l])) X.env=(VP,eval e X.env)::Lg (es++[l]) X.env):PA X (e::es++[l]) (iL (lA X.K (aE ta tr)) tl):=PA.imp (dJ j z hs) λσ H Q h=>mF ma mr σ H _ h
theorem wv{K:Frag}{H:Hp}{σ:St}{ρ:aq}(rs:RS K H σ ρ):∀{cs:List Nat} {gs:List D},lg cs ρ=Z gs->∃gv,RDs K H gs gv/\gv.length=cs.length/\∀(i:Nat) (c:Nat),cs[i]?=Z c->∃v:V,gv[i]?=Z v/\σ[c]?=Z (Z v)
 |[],gs,h=>by
  have h:Z []=Z gs:=h
  cases h
  exact⟨[],RDs.nil,rfl,λi c e=>by simp at e⟩
 |c::cs,gs,h=>by
  unfold lg at h;rw[R7]at h
  cases e1:(ρ[c]?).join with
  |none=>rw[e1]at h;cases h
  |some d=>
   rw[e1]at h
   cases e2:lg cs ρ with
   |none=>unfold lg at e2;simp[e2]at h
   |some gs'=>
    have j:=e2;unfold lg at e2;simp[e2]at h;subst h;obtain⟨gv,r,z,B⟩:=wv rs j;have F:ρ[c]?=Z (Z d):=by
     cases q:ρ[c]? with
     |none=>rw[q]at e1;cases e1
     |some o=>rw[q]at e1;exact congrArg Z e1
    obtain⟨v,G,J⟩:=rs.2 c d F;refine⟨v::gv,RDs.cons J r,by simp[z],λi c' e=>?_⟩
    cases i with
    |zero=>simp at e;subst e;exact⟨v,by simp,G⟩
    |succ i=>simp at e;obtain⟨v',L,O⟩:=B i c' e;exact⟨v',by simpa using L,O⟩
noncomputable def tIs:List Nat->TA
 |[]=>xL
 |i::r=>tf (Ck i) (tIs r)
theorem qj{H:Hp}{vs:List V}:∀{js:List Nat} {Q:List V->Hp->Prop},(∀j∈js,j<vs.length)->Q (js.map λj=>vs.getD j .non) H->tIs js (vs.map Z) H Q
 |[],Q,_,q=>q
 |j::js,Q,h,q=>by have z:=h j Ln;refine⟨vs.getD j .non,?_,qj (js:=js) (λi hi=>h i (L9 _ hi)) q⟩;rw[KL,y3 z,I7,y3 z];rfl
theorem nA{ns:List Str}(B:X.N=ns)(F:∀x∈ns,Vis X.env.scope x):∀{js:List Nat} {es:List Expr},ox ns js es=N3->PA X es (tIs js)/\es.all aU=N3/\∀j∈js,j<ns.length
 |[],[],_=>⟨jA,rfl,λ_ h=>by simp at h⟩
 |[],_::_,h=>by cases h
 |_::_,[],h=>by cases h
 |j::js,e::es,h=>by
  unfold ox at h;obtain⟨h1,h2⟩:=bK h;obtain⟨G,p2,J⟩:=nA B F h2
  revert h1
  refineλh1=>dG (P:=λe=>PA X (e::es) (tIs (j::js))/\(e::es).all aU=N3/\∀i∈j::js,i<ns.length) e h1 λx pos h=>?_;simp only[tv,decide_eq_true_eq,LJ]at h;obtain⟨⟨z,L⟩,O⟩:=h;refine⟨dJ (oC (by rw[B];exact z) (F x (L5 z)) L O) G (aj rfl),by simp[aU,p2],λi hi=>?_⟩
  rcases KH.mp hi with rfl|hi
  ·exact(KN.mp z).1
  ·exact J i hi
noncomputable def DR(X:Cx)(P:VQ)(pos:Pos)(q:Str)(params:OW)(body:Expr)(sc:Scope):TE:=λ_ H Q=>oP H P pos q/\∀a H',H a=Y->(∀b o,b≠P->H b=Z o->H' b=Z o)->oP H' P pos q->FnAt H' a q params body sc (aC X.env.cells sc.names [])->Q (.ref a) H'
theorem DS{params:OW}{body:Expr}(L:wt C Φ k X P)(z:∀x∈sc.names,x.2=.free->(X.env.kindOf x.1=Z .cell))(j:∀env,defaultsOf params env=([],[])):
 PE X (.Lambda params body sc pos) (DR X P pos (C.nm++(".<locals>.":Str)++("<lambda>":Str)) params body sc):=by
 intro pins s σ H Q I h;obtain⟨c,B,hd⟩:=L.cd;refine xX I B hd L.bm (by rw[L.qu]) h.1 (λx hx e=>?_) (j _) λa H' s' I' na kp tg fa=>⟨.ref a,H',I',rfl,h.2 a H' na kp tg fa⟩
 obtain⟨c,e⟩:=I.ok.has x.1 (.inl (z x hx e));rw[e];rfl
theorem ww{N xs:List Str}(h:cS cs N=Z xs):∀(i:Nat) (x:Str),xs[i]?=Z x->∃c,cs[i]?=Z c/\N[c]?=Z x:=by
 induction cs generalizing xs with
 |nil=>cases h;intro i x e;simp at e
 |cons c cs ih=>
  unfold cS at h;rw[R7]at h
  cases j:N[c]? with
  |none=>rw[j]at h;cases h
  |some y=>
   rw[j]at h
   cases e2:cS cs N with
   |none=>unfold cS at e2;simp[e2]at h
   |some ys=>
    have z:=e2;unfold cS at e2;simp[e2]at h;subst h;intro i x e
    cases i with
    |zero=>simp at e;subst e;exact⟨c,by simp,j⟩
    |succ i=>simp at e;obtain⟨c',B,F⟩:=ih z i x e;exact⟨c',by simpa using B,F⟩
theorem sx{N xs:List Str}(h:cS cs N=Z xs):xs.length=cs.length:=by
 induction cs generalizing xs with
 |nil=>cases h;rfl
 |cons c cs ih=>
  unfold cS at h;rw[R7]at h
  cases e1:N[c]? with
  |none=>rw[e1]at h;cases h
  |some y=>
   rw[e1]at h
   cases e2:cS cs N with
   |none=>unfold cS at e2;simp[e2]at h
   |some ys=>have j:=e2;unfold cS at e2;simp[e2]at h;subst h;simp[ih j]
structure Ag(C:Ctx)(j:Nat)(cs js:List Nat)(pos:Pos)(l:Expr) where
 a1:Arg
 a2:Arg
 b:Expr
 sc:Scope
 xs:List Str
 e:l=.Lambda ⟨[],[a1,a2],Y,[],[],Y,[]⟩ b sc pos
 cap:cS cs C.N=Z xs
 S:fY xs a1.arg a2.arg sc
 cel:∀x∈xs,C.sc.names.lookup x=Z .cell
 fre:∀y∈sc.names,y.2=.free->y.1∈xs
 bd:su C j js (xs++[a1.arg,a2.arg]) sc b=N3
theorem zi{ps:OW}{a:Arg×Arg}(h:ky ps=Z a):ps=⟨[],[a.1,a.2],Y,[],[],Y,[]⟩:=by
 unfold ky at h
 split at h
 ·cases h;rfl
 ·cases h
theorem zj{j:Nat}{l:Expr}(h:Af C j cs js pos l=N3):Nonempty (Ag C j cs js pos l):=by
 cases l with
 |Lambda ps b sc pos'=>
  obtain⟨h0,B⟩:=bK (show(decide (pos'=pos)&&os (ky ps) λa=>os (cS cs C.N) (oz C j cs js sc b a.1.arg a.2.arg))=N3 from h);have h0:=of_decide_eq_true h0;subst h0
  cases e1:ky ps with
  |none=>rw[e1]at B;cases B
  |some a=>
   rw[e1]at B
   cases F:cS cs C.N with
   |none=>dsimp only[os]at B;rw[F]at B;cases B
   |some xs=>
    dsimp only[os]at B;rw[F]at B;have h:oz C j cs js sc b a.1.arg a.2.arg xs=N3:=B;unfold oz at h;simp only[tv,decide_eq_true_eq,LJ,beq_iff_eq,NR]at h;obtain⟨⟨⟨⟨⟨⟨⟨⟨h1,h2⟩,L⟩,O⟩,U⟩,F2⟩,J⟩,G⟩,fv⟩:=h;refine⟨⟨a.1,a.2,b,sc,xs,by rw[zi e1],F,⟨h1,h2,L,by simpa using O,U,F2,λx hx=>(J x hx).1,λx hx z=>?_,λx hx=>?_⟩,λx hx=>(J x hx).2,λy hy z=>?_,fv⟩⟩
    ·have:=(G x hx).1;rw[z]at this;simp at this
    ·have:=(G _ (LL hx)).2;simpa using this
    ·have:=(G y hy).2;rw[z]at this;simpa using this
 |_=>cases h
theorem qk{K:Frag}{H:Hp}{ds:List D}{vs:List V}(r:RDs K H ds vs):∀{js:List Nat},(∀j∈js,j<vs.length)->RDs K H (js.map λi=>ds.getD i .non) (js.map λi=>vs.getD i .non)
 |[],_=>RDs.nil
 |j::js,h=>by
  have z:j<ds.length:=by rw[<-r.length];exact h j Ln
  obtain⟨v,e,rd⟩:=r.get (y3 z);refine RDs.cons ?_ (qk r λi hi=>h i (L9 _ hi));show RD K H (ds.getD j .non) (vs.getD j .non);rw[I7,I7,y3 z,e];exact rd
theorem zk(G:Good C Φ k X){l:Expr}{t:TAd}{p lpos:Pos}{j:Nat}(mt:aY t)(Iz:C.lm=P+2)(hf:C.Γ[f]?=Z x)(hg:Gl X x)(IA:(x==("__debug__":Str))=VP)(O:Ag C j cs js lpos l)(ha:∀tl,PE X l tl->PA X (e::es++[l]) (iL (lA X.K t) tl))(he:Lg (e::(es++[l])) X.env=(VP,eval e X.env)::Lg (es++[l]) X.env)(IB:(OG pos (Lg (es++[l]) X.env)).any (·.1)=VP):
 PE X (.Call (.Name x p) (e::es++[l]) [] pos) (lE X.K (ko Φ f t j cs js P lpos (C.nm++(".<locals>.":Str)++("<lambda>":Str)))):=by
 intro pins s σ H Q I h;obtain⟨a1,a2,b,sc,xs,rfl,B,S,fv,Iu,Iv⟩:=O;obtain⟨ρ,M,rs,rm,gs,IC,ht⟩:=h;obtain⟨gv,rg,gl,gg⟩:=wv rs IC;have L:=G.lam P Iz;obtain⟨fa,fd,ps,hm,hk,hb,F⟩:=L.spc f x hf;have kind:∀y:Str,X.env.kindOf y=C.sc.names.lookup y:=λy=>by show X.env.scope.names.lookup y=_;rw[G.sc]
 have hl:=DS (pos:=lpos) (params:=⟨[],[a1,a2],Y,[],[],Y,[]⟩) (body:=b) (sc:=sc) L (λy J z=>by rw[kind];exact fv _ (Iu y J z)) (λenv=>rfl)
 let q0:Str:=C.nm++(".<locals>.":Str)++("<lambda>":Str)
 let cl:=aC X.env.cells sc.names []
 let Qa:List V->Hp->Prop:=λws H2=>∃(vs:List V) (ds:List D) (U:Mem) (a:VQ),ws=vs++[.ref a]/\RM X.K U H2/\RDs X.K H2 ds vs/\RDs X.K H2 gs gv/\FnAt H2 a q0 ⟨[],[a1,a2],Y,[],[],Y,[]⟩ b sc cl /\
  Φ (1000+f) (ds++[.ref a,.int j,.tup gs,.tup (js.map λi:Nat=>.int i)]) U (KE' X.K U H2 Q)
 have hq:iL (lA X.K t) (DR X P lpos q0 ⟨[],[a1,a2],Y,[],[],Y,[]⟩ b sc) σ H Qa:=by
  refine⟨ρ,M,rs,rm,mt _ _ _ _ (λds U y vs H1 x1 F2 ID=>?_) ht⟩;refine⟨F2 P _ y.1,λa H' na kp tg fa=>?_⟩;have hP:∃ps,H1 P=Z (.tbl ps):=let⟨ps,e,_⟩:=F2 P _ y.1; ⟨ps,e⟩;obtain⟨pt,hP⟩:=hP;have st:Stab H1 H':=⟨λc ys e=>kp c _ (λz=>by rw[z,hP]at e;cases e) e,λc o u e=>kp c _ (λz=>by rw[z,hP]at e;cases e) e⟩
  have x2:Ext U H1 U H':=⟨λc o z e=>kp c o (λz2=>by rw[z2,y.1]at z;cases z) e,λ_ _ _ _=>rfl⟩
  have Iq:RM X.K U H':=λc o e=>by
   by_cases z:c=P
   ·subst z;rw[y.1]at e;cases e;exact tg
   ·exact(F2 c o e).mono st λho e2=>kp c ho z e2
  exact⟨vs,ds,U,a,rfl,Iq,ID.mono st,(rg.mono (x1.stab rm)).mono st,fa,(G.mono _) _ _ _ _ (λd M' kk=>kk.ext (x1.trans x2)) (y.2 a (F2.out na))⟩
 refine Np (io I hg hm ?_ IA);refine Tz (h₀:=X.base) I.ok.mod.kin hk (thn (ha _ hl pos pins s σ H Qa I hq) λus s2 g9=>?_) he IB;obtain⟨ws,H2,I2,r,vs,ds,U,a,rfl,Iq,rd,IE,Ir,q2⟩:=g9;refine⟨I2.kIn,?_⟩;have C1:iq X.prog X.w X.K X.mg X.base (k-1) (frs X.stack) a (lSp X.K (uv Φ j gs js)) H2 s2.heap:=by
  by_cases hk2:∃k0,k=k0+2
  case neg=>
   refine ce (P:=λ_=>iq X.prog X.w X.K X.mg X.base (k-1) (frs X.stack) a (lSp X.K (uv Φ j gs js)) H2 s2.heap) b Iv λg es p pos h=>?_;simp only[tv,decide_eq_true_eq,LJ]at h;refine⟨(by obtain⟨pm,c',ctv,oc,vs,t,e1,_⟩:=Ir;exact⟨_,_,e1,rfl⟩),?_⟩
   intro A outer s1 H1 u1 u2 v1 v2 Q1 un hr e0 r1 r2 Is;obtain⟨IF,M2,Iw,Ix,_,q3⟩:=Is;exact absurd q3 ((L.big.resolve_left hk2) j g h.1.1.1.1 _ _ _)
  obtain⟨k0,rfl⟩:=hk2;refine xY (k:=k0) (gs:=gv) I2 Ir S (λy J=>by rw[G.sc];exact fv y J) (λi y e=>?_) (by rw[gl,sx B]) (λfd u1 u2 z z2 z3=>?_) λA outer s1 H1 v1 v2 Q1 cd un Is IG=>?_
  ·obtain⟨c,e1,e2⟩:=ww B i y e;obtain⟨v,e3,e4⟩:=gg i c e1;exact⟨c,by rw[G.N];exact e2,λv' e5=>by rw[e3]at e5;cases e5;exact e4⟩
  ·exact EK S.ne z z2 z3
  obtain⟨IF,M2,Iw,Ix,_,q3⟩:=Is;clear hl hq Qa Ir;refine ce (P:=λb=>∃t,PE (cxL CX0 X.prog X.w X.K X.mg X.base (xs++[a1.arg,a2.arg]) q0 sc a cd cl A outer s1 H1 E0) b t/\t ((gv++[v1,v2]).map Z) H1 Q1) b Iv λg es p pos h=>?_;simp only[tv,decide_eq_true_eq,LJ]at h;obtain⟨⟨⟨⟨h1,h2⟩,h3⟩,h4⟩,h5⟩:=h;obtain⟨fg,fdg,psg,IH,II,IJ,Fg⟩:=L.low j g h1
  cases es with
  |nil=>cases h4
  |cons e0 IM=>
   obtain⟨p1,p2,p3⟩:=nA (X:=cxL CX0 X.prog X.w X.K X.mg X.base (xs++[a1.arg,a2.arg]) q0 sc a cd cl A outer s1 H1 E0) (ns:=xs++[a1.arg,a2.arg]) rfl (λy J=>by
    rcases KQ.mp J with J|J
    ·exact .inr (.inr (S.fr y J))
    ·simp only[KH,Lw,or_false]at J
     rcases J with rfl|rfl
     ·exact .inl S.l1
     ·exact .inl S.l2) h5
   simp only[Ot,tv]at p2;refine⟨_,rE (X:=cxL CX0 X.prog X.w X.K X.mg X.base (xs++[a1.arg,a2.arg]) q0 sc a cd cl A outer s1 H1 E0) Fg IG (by show sc.names.lookup g=_;simpa[glB]using h2) IH II IJ .nil tu p1 h3 (aj p2.1) (cZ p2.2),?_⟩
   have hlen:(gv++[v1,v2]).length=(xs++[a1.arg,a2.arg]).length:=by simp[gl,sx B]
   refine qj (λi hi=>by rw[hlen];exact p3 i hi) ⟨_,M2,Iw,?_,q3⟩
   rw[Mv];exact qk ((IE.mono ⟨un.tups,un.frzs⟩).append Ix) λi hi=>by rw[hlen];exact p3 i hi
 have r2:Vals (vs++[.ref a]) (us++[]):=by rw[Mv];exact r
 have Iy:spC X.prog X.w X.K X.mg X.base k Φ f X.stack s2 (vs++[.ref a]) H2 Q E0:=⟨ds,a,j,gs,js,U,Iq,rd.append (RDs.cons (Vu.mpr rfl) RDs.nil),C1,q2⟩;have IK:(us++[]).length=ps.length:=by rw[<-r2.length];exact F.len _ _ _ _ _ _ Iy
 refine Tx (Ob (F.run X.A X.stack s2 H2 ⟨us,[]⟩ (us++[]) (vs++[.ref a]) Q E0 G.room I2.env0 (hb s2 us I2.kIn IK) r2 Iy) λr s' hq=>?_)
 cases r with
 |error e=>exact hq.elim
 |ok fl=>
  cases fl with
  |ret u=>exact I2.after hq
  |next=>exact False.elim hq
  |brk=>exact False.elim hq
  |cont=>exact False.elim hq
end
end
variable{p:VQ}{tb:TCd}
section
section
variable{Φ:Phi}{k:Nat}
theorem dQ{X:Cx}(G:Good C Φ k X){F:Sem Fin->Sem Fin}{ifs:List Expr}{ts:List TTd}(mb:ci tb)(mt:∀t∈ts,aP t)(j:PB X F (lC X.K p tb))(z:Mo (λc t=>PT X c t) ifs (ts.map (lT X.K))):
 PB X (λk=>bw ifs X.env>>=λok=>if ok=N3 then F k else k) (lC X.K p (bq ts tb)):=
 PB.imp (xW G.hx j z) (jU mb mt)
theorem i8{m:MC}{Cs:Ctx}{g2:LZ}{gs:List LZ}{elt:Expr}(h:okC m Cs C (g2::gs) elt=N3):g2.is_async=0:=by
 obtain⟨t,i,f,a⟩:=g2
 cases m with
 |last src g ifs m=>
  cases gs with
  |nil=>simp only[okC,tv,decide_eq_true_eq]at h;exact h.1.1.1.1
  |cons _ _=>simp[okC]at h
 |more src g ifs rest=>
  cases gs with
  |nil=>simp[okC]at h
  |cons _ _=>simp only[okC,tv,decide_eq_true_eq]at h;exact h.1.1.1.1
theorem zm{X:Cx}(G:Good C Φ k X):∀T∈["bool","int","str","tuple","list","dict"],X.mg (Ll T)=Y/\OE (Ll T)=Z (.type T)/\Ll T≠"__name__"/\(Ll T==("__debug__":Str))=VP:=by
 intro T j;simp only[KH,Lw,or_false]at j
 rcases j with rfl|rfl|rfl|rfl|rfl|rfl
 all_goals exact⟨G.mgB _ (by decide),by decide +kernel,by decide,by decide⟩
mutual
theorem sE:∀(m:ME) {C:Ctx} {X:Cx} (G:Good C Φ k X) (e:Expr),okE m C e=N3->PE X e (lE X.K (wE Φ m))
 |.var i,C,X,G,e,h=>by refine dG e h λx _ h=>?_;simp only[tv,LJ,decide_eq_true_eq]at h;exact D6 (by rw[G.N];exact h.1.1.1) (G.vis h.1.1.2) h.1.2 h.2
 |.int i,C,X,G,e,h=>by refine i6 e h λc _ _ h=>?_;rw[of_decide_eq_true h];exact D7
 |.bl i,C,X,G,e,h=>by refine i6 e h λc _ _ h=>?_;rw[of_decide_eq_true h];exact ER
 |.non,C,X,G,e,h=>by refine i6 e h λc _ _ h=>?_;rw[of_decide_eq_true h];exact D8
 |.bin op a b,C,X,G,e,h=>by refine DG e h λl o r _ h=>?_;simp only[tv,decide_eq_true_eq]at h;rw[h.1.1];exact ES (DP G op) (qe op) (mE G.mono a) (mE G.mono b) (sE a G _ h.1.2) (sE b G _ h.2)
 |.neg a,C,X,G,e,h=>by
  refine jk e h λo x _ h=>?_;replace h:=bK h;obtain⟨ho,h⟩:=h
  cases of_decide_eq_true ho
  exact ET yo oW (mE G.mono a) (sE a G _ h)
 |.cmp op a b,C,X,G,e,h=>by refine qh e h λl os rs pos h=>?_;refine cY os h λo h=>?_;refine cY rs h λr h=>?_;simp only[tv,decide_eq_true_eq]at h;obtain⟨⟨⟨ho,ha⟩,hb⟩,hm⟩:=h;rw[LJ]at hm;subst ho;exact D9 (sv G op) (gu op) (mE G.mono a) (mE G.mono b) (sE a G _ ha) (sE b G _ hb) hm
 |.and es,C,X,G,e,h=>by
  refine iK e h λo xs _ h=>?_;replace h:=bK h;obtain⟨ho,h⟩:=h;obtain⟨ho,L⟩:=bK ho
  cases of_decide_eq_true ho
  exact sAnds es G _ _ h (by intro z;rw[z]at L;cases L)
 |.or es,C,X,G,e,h=>by
  refine iK e h λo xs _ h=>?_;replace h:=bK h;obtain⟨ho,h⟩:=h;obtain⟨ho,L⟩:=bK ho
  cases of_decide_eq_true ho
  exact sOrs es G _ _ h (by intro z;rw[z]at L;cases L)
 |.not a,C,X,G,e,h=>by
  refine jk e h λo x _ h=>?_;replace h:=bK h;obtain⟨ho,h⟩:=h
  cases of_decide_eq_true ho
  exact Dj (mE G.mono a) (sE a G _ h)
 |.ite c a b,C,X,G,e,h=>by refine DH e h λt x y _ h=>?_;simp only[tv]at h;exact EZ (mT G.mono c) (mE G.mono a) (mE G.mono b) (sT c G _ h.1.1) (sE a G _ h.1.2) (sE b G _ h.2)
 |.tup es,C,X,G,e,h=>by refine eF e h λxs _ _ h=>?_;exact Db (mA G.mono es) (sA es G _ h)
 |.lst es,C,X,G,e,h=>by refine Fa e h λxs _ h=>?_;exact Dc (mA G.mono es) (sA es G _ h)
 |.ix a b,C,X,G,e,h=>by refine dH e h λx y _ h=>?_;simp only[tv]at h;exact EU (G6 (by have:=G.units;lia)) rP (mE G.mono a) (mE G.mono b) (sE a G _ h.1.2) (sE b G _ h.2) (ze h.1.1)
 |.sl a lo hi,C,X,G,e,h=>by refine jSl e h λx l u s p pos h=>?_;refine jon s h fun  h=>?_;simp only[tv]at h;exact F4 (mE G.mono a) (mO G.mono lo) (mO G.mono hi) (sE a G _ h.1.1) (sO lo G _ h.1.2) (sO hi G _ h.2)
 |.call f es,C,X,G,e,h=>by
  refine ce e h λx xs p pos h=>?_;simp only[tv,decide_eq_true_eq,LJ]at h;have hA:=sA es G _ h.2;have J:=du h.2
  cases xs with
  |nil=>
   cases es with
   |nil=>exact zf G h.1.1.1 (G.gl h.1.1.2) h.1.2
   |cons _ _=>simp[okEs]at h
  |cons y ys=>simp only[Ot,tv]at J;exact Bv G (mA G.mono es) h.1.1.1 (G.gl h.1.1.2) h.1.2 hA (aj J.1) (cZ J.2)
 |.callC i es,C,X,G,e,h=>by
  refine ce e h λx xs p pos h=>?_;simp only[tv,decide_eq_true_eq,LJ]at h;obtain⟨⟨⟨⟨⟨⟨h0,h1⟩,h2⟩,h3⟩,h4⟩,h6⟩,h7⟩:=h;have hA:=sA es G _ h7;have J:=du h7
  cases xs with
  |nil=>cases h6
  |cons y ys=>simp only[Ot,tv]at J;exact zg G h0 (mA G.mono es) (by rw[G.N];exact h1) (G.vis h2) h3 h4 hA (aj J.1) (cZ J.2)
 |.callL f es j cs js P lpos q,C,X,G,e,h=>by
  refine ce e h λx xs p pos h=>?_;simp only[tv,decide_eq_true_eq,LJ]at h;obtain⟨⟨⟨⟨⟨⟨⟨h0,h1⟩,h2⟩,h3⟩,h4⟩,h5⟩,h6⟩,h7⟩:=h;subst h4
  cases e5:xs.getLast? with
  |none=>rw[e5]at h5;cases h5
  |some l=>
   rw[e5]at h5;obtain⟨O⟩:=zj (C:=C) h5;have J:=du h7;have hA:=λtl hl=>sAL es G xs.dropLast h7 l tl hl (by rw[O.e];rfl)
   obtain⟨ys,rfl⟩:∃ys,xs=ys++[l]:=⟨xs.dropLast,(by
    have L:xs≠[]:=λz=>by rw[z]at e5;cases e5
    rw[List.getLast?_eq_getLast L]at e5;have:=MX L;rw[N1.inj e5]at this;exact this.symm)⟩
   rw[List.dropLast_concat]at h6 h7 J hA
   cases ys with
   |nil=>cases h6
   |cons y ys=>simp only[Ot,tv]at J;exact zk G (mA G.mono es) h0 h1 (G.gl h2) h3 O hA (aj J.1) (cZ (by rw[List.all_append,J.2,O.e];rfl))
 |.blt f es,C,X,G,e,h=>by
  refine ce e h λx xs p pos h=>?_;simp only[tv,decide_eq_true_eq,LJ]at h;have hA:=sA es G _ h.2;have J:=du h.2;obtain⟨⟨⟨rfl,F2⟩,L⟩,_⟩:=h
  cases xs with
  |nil=>simp at L
  |cons y ys=>simp only[Ot,tv]at J;exact DQ G (mA G.mono es) (G.gl F2) hA (aj J.1) (cZ J.2)
 |.glob x k',C,X,G,e,h=>by refine dG e h λx _ h=>?_;simp only[tv,decide_eq_true_eq,LJ]at h;obtain⟨⟨⟨rfl,F2⟩,hc⟩,hd⟩:=h;obtain⟨u,ht,hv⟩:=G.cs _ _ hc;obtain⟨v,rv,rd⟩:=Aa hv;exact PE.imp (Aq (v:=v) (G.gl F2) ht rv hd) λσ H Q g9=>(by obtain⟨ρ,M,rs,rm,q⟩:=g9;exact q _ H Ext.refl rm (rd H))
 |.dnew t,C,X,G,e,h=>by refine Fb e h λks vs _ h=>?_;refine i7 ks h fun  h=>?_;refine i7 vs h fun  h=>?_;exact Bg
 |.sortI a,C,X,G,e,h=>by refine ce e h λx xs p pos h=>?_;refine cY xs h λw h=>?_;refine ow w h λy n ys ap cp h=>?_;refine i7 ys h fun  h=>?_;simp only[tv,decide_eq_true_eq]at h;obtain⟨⟨⟨⟨⟨rfl,F2⟩,rfl⟩,U⟩,hl⟩,ha⟩:=h;exact yU (by have:=G.units;lia) (mE G.mono a) G.calm (sE a G _ ha) (G.gl F2) (G.mgB _ (by decide)) (gC U) hl
 |.dget o k' x,C,X,G,e,h=>by
  refine ow e h λy n xs ap cp h=>?_;refine lh xs h λe1 e2 h=>?_;simp only[tv,decide_eq_true_eq]at h;obtain⟨⟨⟨⟨⟨⟨⟨rfl,U⟩,hl⟩,Iq⟩,fv⟩,ho⟩,hk⟩,hx⟩:=h;have st:Lg [e1,e2] X.env=[(VP,eval e1 X.env),(VP,eval e2 X.env)]:=by rw[aj Iq,aj fv];rfl
  refine Br (by have:=G.units;lia) (mE G.mono o) (mE G.mono k') (mE G.mono x) (sE o G _ ho) (sE k' G _ hk) (sE x G _ hx) ⟨gC U,?_,hl,?_⟩
  ·rw[st];rfl
  ·rw[st];rfl
 |.isin a T,C,X,G,e,h=>by refine ce e h λx xs p pos h=>?_;refine lh xs h λy w h=>?_;refine dG w h λz p2 h=>?_;simp only[tv,decide_eq_true_eq]at h;obtain⟨⟨⟨⟨⟨⟨rfl,F2⟩,Ir⟩,hz⟩,hT⟩,hs⟩,ha⟩:=h;obtain⟨n1,n2,n3,n4⟩:=zm G T hT;subst hz;exact B9 hT (mE G.mono a) (sE a G _ ha) (G.gl F2) (G.mgB _ (by decide)) (G.gl Ir) n1 n2 n3 n4 (aj hs) rfl
 |.meth m o a,C,X,G,e,h=>by
  refine ow e h λx n xs ap cp h=>?_;refine cY xs h λy h=>?_;simp only[tv,decide_eq_true_eq]at h;obtain⟨⟨⟨⟨⟨hn,U⟩,hl⟩,hs⟩,ho⟩,ha⟩:=h;subst hn;have pa:PA X [y] (lA X.K (aE (wE Φ a) br)):=bU (mE G.mono a) aG (sE a G _ ha) ed (aj hs);have few:((OG cp (Lg [y] X.env)).all (λx=>!x.1)&&(V8 cp (SN [] X.env)).all (λx=>x.1.isSome)&&decide (([y]:List Expr).length+([]:List QJ).length+(if([]:List QJ).isEmpty then 0 else 1)<30))=N3:=by rw[aj hs];rfl
  cases m with
  |append=>exact PE.imp (zV RT PySem.F.slot_list_append PySem.F.type_list_append mj (sE o G _ ho) pa (gC U) few hl (aj hs) rfl) (rR iZ (mE G.mono o) (az (mE G.mono a) aG) yv)
 |.ins o i a,C,X,G,e,h=>by
  refine ow e h λx n xs ap cp h=>?_;refine lh xs h λy z h=>?_;simp only[tv,decide_eq_true_eq]at h;obtain⟨⟨⟨⟨⟨⟨⟨hn,U⟩,hl⟩,hs⟩,fv⟩,ho⟩,hi⟩,ha⟩:=h;subst hn;have pa:PA X [y,z] (lA X.K (aE (wE Φ i) (aE (wE Φ a) br))):=bU (mE G.mono i) (az (mE G.mono a) aG) (sE i G _ hi) (bU (mE G.mono a) aG (sE a G _ ha) ed (aj fv)) (aj hs);have few:((OG cp (Lg [y,z] X.env)).all (λx=>!x.1)&&(V8 cp (SN [] X.env)).all (λx=>x.1.isSome)&&decide (([y,z]:List Expr).length+([]:List QJ).length+(if([]:List QJ).isEmpty then 0 else 1)<30))=N3:=by rw[aj hs,aj fv];rfl
  exact PE.imp (zV RT Rz PySem.F.type_list_insert wd (sE o G _ ho) pa (gC U) few hl (aj hs) (by rw[aj fv];rfl)) (rR j5 (mE G.mono o) (az (mE G.mono i) (az (mE G.mono a) aG)) yW)
 |.comp fr N' c,C,X,G,e,h=>by
  refine wl e h λelt gens sc pos h=>?_;simp only[tv]at h;have B:bh sc X.env.scope X.N N' fr:=by rw[G.sc,G.N];exact kz h.1
  have B':bh sc C.sc C.N N' fr:=kz h.1
  cases c with
  |last src g ifs m=>
   have h2:=h.2;simp only[okC]at h2
   split at h2
   ·rename_i t it fs a;simp only[tv,decide_eq_true_eq]at h2;obtain⟨⟨⟨⟨rfl,hi⟩,F2⟩,ht⟩,he⟩:=h2;refine PE.imp (iY G.calm G.hx B (λg' z=>by simp at z) (sI src G _ t hi).1 (λs H fp=>sG (G.blk B' s H fp) g t F2) (tb:=λp=>lC X.K p (bq (wTl Φ ifs) (eS (wE Φ m)))) (λs H fp p=>?_) (sI src G _ t hi).2) (eT (mI G.mono src) (aW (bO (mE G.mono m)) (mTl G.mono ifs)))
    have G':=G.blk B' s H fp;exact dQ (p:=p) G' (bO (mE G.mono m)) (mTl G.mono ifs) (PB.imp (kQ G'.hx (sE m G' elt he) rfl) (gX (mE G.mono m))) (sTl ifs G' fs ht)
   ·cases h2
  |more src g ifs rest=>
   have h2:=h.2;simp only[okC]at h2
   split at h2
   ·rename_i t it fs a g2 gs;simp only[tv,decide_eq_true_eq]at h2;obtain⟨⟨⟨⟨rfl,hi⟩,F2⟩,ht⟩,he⟩:=h2;have Is:∀g',(g2::gs)[0]?=Z g'->g'.is_async=0:=fun g' z=>by
     have z':g2=g':=by simpa using z
     subst z';exact i8 he
    refine PE.imp (iY G.calm G.hx B Is (sI src G _ t hi).1 (λs H fp=>sG (G.blk B' s H fp) g t F2) (tb:=λp=>lC X.K p (bq (wTl Φ ifs) (wCl Φ rest))) (λs H fp p=>?_) (sI src G _ t hi).2) (eT (mI G.mono src) (aW (mCl G.mono rest) (mTl G.mono ifs)));have G':=G.blk B' s H fp;exact dQ (p:=p) G' (mCl G.mono rest) (mTl G.mono ifs) (sCl rest G' elt (⟨t,it,fs,0⟩::g2::gs) sc pos 0 (.inl rfl) p he) (sTl ifs G' fs ht)
   ·cases h2
theorem sA:∀(m:MEs) {C:Ctx} {X:Cx} (G:Good C Φ k X) (es:List Expr),okEs m C es=N3->PA X es (lA X.K (wA Φ m))
 |.nil,C,X,G,es,h=>by simp[okEs]at h;subst h;exact ed
 |.cons m r,C,X,G,[],h=>by simp[okEs]at h
 |.cons m r,C,X,G,e::es,h=>by simp only[okEs,tv]at h;exact bU (mE G.mono m) (mA G.mono r) (sE m G e h.1.2) (sA r G es h.2) (aj h.1.1)
theorem sAL:∀(m:MEs) {C:Ctx} {X:Cx} (G:Good C Φ k X) (es:List Expr),okEs m C es=N3->∀(l:Expr) (tl:TE),PE X l tl->aU l=N3->PA X (es++[l]) (iL (lA X.K (wA Φ m)) tl)
 |.nil,C,X,G,es,h=>by simp[okEs]at h;subst h;exactλl tl j z=>zh j (aj z)
 |.cons m r,C,X,G,[],h=>by simp[okEs]at h
 |.cons m r,C,X,G,e::es,h=>by simp only[okEs,tv]at h;exactλl tl j z=>wu (mE G.mono m) (mA G.mono r) (sE m G e h.1.2) (sAL r G es h.2 l tl j z) (aj h.1.1)
theorem sAnds:∀(m:MEs) {C:Ctx} {X:Cx} (G:Good C Φ k X) (es:List Expr) (pos:Pos),okEs m C es=N3->es≠[]->PE X (.BoolOp .And es pos) (lE X.K (wAnds Φ m))
 |.nil,C,X,G,es,pos,h,j=>by simp[okEs]at h;exact absurd h j
 |.cons m r,C,X,G,[],pos,h,j=>absurd rfl j
 |.cons m .nil,C,X,G,e::es,pos,h,_=>by simp only[okEs,tv]at h;obtain⟨h1,h2⟩:=h;simp at h2;subst h2;exact vx (sE m G e h1.2)
 |.cons m (.cons m2 r),C,X,G,e::es,pos,h,_=>by
  simp only[okEs,tv]at h;obtain⟨h1,h2⟩:=h
  cases es with
  |nil=>simp at h2
  |cons f fs=>exact Di (mE G.mono m) (mAnds G.mono _) (sE m G e h1.2) (sAnds (.cons m2 r) G (f::fs) pos (by simpa only[okEs,tv]using h2) (by simp))
theorem sOrs:∀(m:MEs) {C:Ctx} {X:Cx} (G:Good C Φ k X) (es:List Expr) (pos:Pos),okEs m C es=N3->es≠[]->PE X (.BoolOp .Or es pos) (lE X.K (wOrs Φ m))
 |.nil,C,X,G,es,pos,h,j=>by simp[okEs]at h;exact absurd h j
 |.cons m r,C,X,G,[],pos,h,j=>absurd rfl j
 |.cons m .nil,C,X,G,e::es,pos,h,_=>by simp only[okEs,tv]at h;obtain⟨h1,h2⟩:=h;simp at h2;subst h2;exact vx (sE m G e h1.2)
 |.cons m (.cons m2 r),C,X,G,e::es,pos,h,_=>by
  simp only[okEs,tv]at h;obtain⟨h1,h2⟩:=h
  cases es with
  |nil=>simp at h2
  |cons f fs=>exact EY (mE G.mono m) (mOrs G.mono _) (sE m G e h1.2) (sOrs (.cons m2 r) G (f::fs) pos (by simpa only[okEs,tv]using h2) (by simp))
theorem sO:∀(m:MO) {C:Ctx} {X:Cx} (G:Good C Φ k X) (e:Option Expr),okO m C e=N3->PO X e (lO X.K (wO Φ m))
 |.none,C,X,G,e,h=>by simp[okO]at h;subst h;exact B4
 |.some m,C,X,G,Y,h=>by simp[okO]at h
 |.some m,C,X,G,Z e,h=>by simp only[okO]at h;exact B5 (mE G.mono m) (sE m G e h)
theorem sT:∀(m:MT) {C:Ctx} {X:Cx} (G:Good C Φ k X) (e:Expr),okT m C e=N3->PT X e (lT X.K (wT Φ m))
 |.tru m,C,X,G,e,h=>by simp only[okT,tv]at h;exact De (mE G.mono m) (sE m G e h.2) (uu h.1)
 |.cmp op a b,C,X,G,e,h=>by refine qh e h λl os rs pos h=>?_;refine cY os h λo h=>?_;refine cY rs h λr h=>?_;simp only[tv,decide_eq_true_eq]at h;obtain⟨⟨⟨ho,B⟩,F⟩,hm⟩:=h;rw[LJ]at hm;subst ho;exact Da (sv G op) (gu op) (mE G.mono a) (mE G.mono b) (sE a G _ B) (sE b G _ F) hm
 |.and ts,C,X,G,e,h=>by
  refine iK e h λo xs _ h=>?_;replace h:=bK h;obtain⟨ho,h⟩:=h;obtain⟨ho,j⟩:=bK ho
  cases of_decide_eq_true ho
  exact(sAndTs ts G _ _ h (by intro z;rw[z]at j;cases j)).pt
 |.or ts,C,X,G,e,h=>by
  refine iK e h λo xs _ h=>?_;replace h:=bK h;obtain⟨ho,h⟩:=h;obtain⟨ho,j⟩:=bK ho
  cases of_decide_eq_true ho
  exact(sOrTs ts G _ _ h (by intro z;rw[z]at j;cases j)).pt
 |.not t,C,X,G,e,h=>by
  refine jk e h λo x _ h=>?_;replace h:=bK h;obtain⟨ho,h⟩:=h
  cases of_decide_eq_true ho
  exact Df (mT G.mono t) (sT t G _ h)
theorem sAndTs:∀(m:MTs) {C:Ctx} {X:Cx} (G:Good C Φ k X) (es:List Expr) (pos:Pos),okTs m C es=N3->es≠[]->PW X (.BoolOp .And es pos) (lT X.K (wAndTs Φ m))
 |.nil,C,X,G,es,pos,h,j=>by simp[okTs]at h;exact absurd h j
 |.cons m r,C,X,G,[],pos,h,j=>absurd rfl j
 |.cons m .nil,C,X,G,e::es,pos,h,_=>by simp only[okTs,tv]at h;obtain⟨h1,h2⟩:=h;simp at h2;subst h2;exact B2 (sT m G e h1)
 |.cons m (.cons m2 r),C,X,G,e::es,pos,h,_=>by
  simp only[okTs,tv]at h;obtain⟨h1,h2⟩:=h
  cases es with
  |nil=>simp at h2
  |cons f fs=>exact Dh (mT G.mono m) (mAndTs G.mono _) (sT m G e h1) (sAndTs (.cons m2 r) G (f::fs) pos (by simpa only[okTs,tv]using h2) (by simp))
theorem sOrTs:∀(m:MTs) {C:Ctx} {X:Cx} (G:Good C Φ k X) (es:List Expr) (pos:Pos),okTs m C es=N3->es≠[]->PW X (.BoolOp .Or es pos) (lT X.K (wOrTs Φ m))
 |.nil,C,X,G,es,pos,h,j=>by simp[okTs]at h;exact absurd h j
 |.cons m r,C,X,G,[],pos,h,j=>absurd rfl j
 |.cons m .nil,C,X,G,e::es,pos,h,_=>by simp only[okTs,tv]at h;obtain⟨h1,h2⟩:=h;simp at h2;subst h2;exact Dg (sT m G e h1)
 |.cons m (.cons m2 r),C,X,G,e::es,pos,h,_=>by
  simp only[okTs,tv]at h;obtain⟨h1,h2⟩:=h
  cases es with
  |nil=>simp at h2
  |cons f fs=>exact EX (mT G.mono m) (mOrTs G.mono _) (sT m G e h1) (sOrTs (.cons m2 r) G (f::fs) pos (by simpa only[okTs,tv]using h2) (by simp))
theorem sTl:∀(m:MTs) {C:Ctx} {X:Cx} (G:Good C Φ k X) (es:List Expr),okTs m C es=N3->Mo (λc t=>PT X c t) es ((wTl Φ m).map (lT X.K))
 |.nil,C,X,G,es,h=>by simp[okTs]at h;subst h;exact .nil
 |.cons m r,C,X,G,[],h=>by simp[okTs]at h
 |.cons m r,C,X,G,e::es,h=>by simp only[okTs,tv]at h;exact .cons (sT m G e h.1) (sTl r G es h.2)
theorem sI:∀(m:MI) {C:Ctx} {X:Cx} (G:Good C Φ k X) (e tg:Expr),okI m C tg e=N3->PI X tg e (lI X.K (wI Φ m))/\∀x,Nx e X.env x=pure x
 |.seq m,C,X,G,e,tg,h=>by simp only[okI,tv]at h;exact⟨Do (mE G.mono m) (sE m G e h.2),wo h.1⟩
 |.rng1 a,C,X,G,e,tg,h=>by refine ce e h λx xs p pos h=>?_;refine cY xs h λy h=>?_;simp only[tv,decide_eq_true_eq]at h;obtain⟨⟨⟨rfl,B⟩,hs⟩,F⟩:=h;exact⟨Bc (az (mE G.mono a) aG) (G.gl B) (G.mgB _ (by decide)) (bU (mE G.mono a) aG (sE a G _ F) ed (aj hs)) (aj hs),λx=>rfl⟩
 |.enum a,C,X,G,e,tg,h=>by refine ce e h λx xs p pos h=>?_;refine cY xs h λy h=>?_;refine eF tg h λts kt pt h=>?_;simp only[tv,decide_eq_true_eq]at h;obtain⟨⟨⟨rfl,B⟩,hs⟩,F⟩:=h;exact⟨Bd (mE G.mono a) (G.gl B) (G.mgB _ (by decide)) (bU (mE G.mono a) aG (sE a G _ F) ed (aj hs)) (aj hs),λx=>rfl⟩
 |.zip a b,C,X,G,e,tg,h=>by refine ce e h λx xs p pos h=>?_;refine lh xs h λy z h=>?_;refine eF tg h λts kt pt h=>?_;simp only[tv,decide_eq_true_eq]at h;obtain⟨⟨⟨⟨⟨rfl,B⟩,hs⟩,j⟩,F⟩,J⟩:=h;exact⟨Dr (mE G.mono a) (mE G.mono b) (G.gl B) (G.mgB _ (by decide)) (bU (mE G.mono a) (az (mE G.mono b) aG) (sE a G _ F) (bU (mE G.mono b) aG (sE b G _ J) ed (aj j)) (aj hs)) (by rw[aj hs,aj j];rfl) (aj j),λx=>rfl⟩
theorem sCl:∀(m:MC) {C:Ctx} {X:Cx} (G:Good C Φ k X) (elt:Expr) (gens:List LZ) (sc:Scope) (pos:Pos) (d:Nat) (_:d=0∨d=d) (p:VQ),okC m C C (gens.drop (d+1)) elt=N3->
 PB X (bg elt gens sc pos d (.ref p) X.env) (lC X.K p (wCl Φ m))
 |.last src g ifs m,C,X,G,elt,gens,sc,pos,d,_,p,h=>by
  simp only[okC]at h
  split at h
  ·rename_i t it fs a hd;simp only[tv,decide_eq_true_eq]at h;obtain⟨⟨⟨⟨rfl,hi⟩,B⟩,F⟩,he⟩:=h;have J:gens[d+1]?=Z ⟨t,it,fs,0⟩:=by
    have z:(gens.drop (d+1))[0]?=Z ⟨t,it,fs,0⟩:=by rw[hd];rfl
    rw[OM]at z;simpa using z
   have j:gens[d+1+1]?=Y:=by
    have z:(gens.drop (d+1))[1]?=Y:=by rw[hd];rfl
    rw[OM]at z;simpa using z
   refine PB.imp (mw G.hx G.calm J (λg' z=>by rw[j]at z;cases z) (sI src G _ t hi).1 (sG G g t B) (dQ (p:=p) G (bO (mE G.mono m)) (mTl G.mono ifs) (PB.imp (kQ G.hx (sE m G elt he) j) (gX (mE G.mono m))) (sTl ifs G fs F)) (sI src G _ t hi).2) (j3 (mI G.mono src) (aW (bO (mE G.mono m)) (mTl G.mono ifs)))
  ·cases h
 |.more src g ifs rest,C,X,G,elt,gens,sc,pos,d,_,p,h=>by
  simp only[okC]at h
  split at h
  ·rename_i t it fs a g2 gs hd;simp only[tv,decide_eq_true_eq]at h;obtain⟨⟨⟨⟨rfl,hi⟩,B⟩,F⟩,he⟩:=h;have J:gens[d+1]?=Z ⟨t,it,fs,0⟩:=by
    have z:(gens.drop (d+1))[0]?=Z ⟨t,it,fs,0⟩:=by rw[hd];rfl
    rw[OM]at z;simpa using z
   have j:gens[d+1+1]?=Z g2:=by
    have z:(gens.drop (d+1))[1]?=Z g2:=by rw[hd];rfl
    rw[OM]at z;simpa using z
   have O:gens.drop (d+1+1)=g2::gs:=by
    have z:(gens.drop (d+1)).drop 1=g2::gs:=by rw[hd];rfl
    rw[R4]at z;simpa using z
   have L:∀g',gens[d+1+1]?=Z g'->g'.is_async=0:=λg' z=>by rw[j]at z;cases z;exact i8 he
   refine PB.imp (mw G.hx G.calm J L (sI src G _ t hi).1 (sG G g t B) (dQ (p:=p) G (mCl G.mono rest) (mTl G.mono ifs) (sCl rest G elt gens sc pos (d+1) (.inr rfl) p (by rw[O];exact he)) (sTl ifs G fs F)) (sI src G _ t hi).2) (j3 (mI G.mono src) (aW (mCl G.mono rest) (mTl G.mono ifs)))
  ·cases h
end
end
end
section
section
variable{Φ:Phi}{k:Nat}{C:Ctx}{X:Cx}
theorem zn{ts vs:List Expr}{kk j:Nat}{pp p2:Pos}(hs:env.scope=sc)(z:sc.kind=.function)(h:um sc ts vs=N3):Oi [.Tuple ts kk pp] (.Tuple vs j p2) env=pure Y:=by
 have B:env.blockKind=.function:=by unfold RA;rw[hs,z];rfl
 have h':um sc ts vs=N3:=h;unfold Oi;dsimp only;rw[B]
 by_cases c1:(!(ts.length==2 || ts.length==3) || vs.length != ts.length)=N3
 ·simp only[c1,Bool.true_or,if_true]
 ·simp only[Qm]at c1;rw[c1];simp only[Ru,bne_self_eq_false,MB,if_false]
  split
  ·rfl
  ·
    generalize F:List.filterMap _ ts=L;obtain rfl:L=bf sc ts:=by
     rw[<-F];unfold bf;congr 1
     funext x
     cases x<;>first|rfl|(unfold TM;rw[hs])
    unfold um at h';rw[c1]at h';simp only[Ru,QB]at h'
    by_cases c3:((bf sc ts).length != ts.length || (bf sc ts).eraseDups.length != (bf sc ts).length)=N3
    ·rw[if_pos c3]
    ·rw[if_neg c3];have G:vs.all (Tt 8)=N3:=by
      rcases h' with h'|h'
      ·exact absurd (QB _ _ |>.mpr h') c3
      ·exact h'
     rw[if_pos G]
theorem Bw{ts vs:List Expr}{ns:List Str}{kk j:Nat}{pp p2:Pos}(hs:env.scope=sc)(B:sc.kind=.function)(h:uq sc ts vs ns=N3):Oi [.Tuple ts kk pp] (.Tuple vs j p2) env=pure (Z ns):=by
 have F:env.blockKind=.function:=by unfold RA;rw[hs,B];rfl
 simp only[uq,tv,LJ,decide_eq_true_eq]at h;obtain⟨⟨⟨⟨⟨G,J⟩,O⟩,U⟩,F2⟩,fv⟩:=h;unfold Oi;dsimp only;rw[F,G];simp only[Ru,bne_self_eq_false,MB,if_false]
 split
 ·next z=>exact absurd z (by rw[Qm];exact J)
 ·generalize hL:List.filterMap _ ts=L;obtain rfl:L=bf sc ts:=by
   rw[<-hL];unfold bf;congr 1
   funext x
   cases x<;>first|rfl|(unfold TM;rw[hs])
  rw[U,F2,fv,O];rfl
theorem sy{i:Nat}(h:uo C i x=N3):C.N[i]?=Z x/\C.sc.names.lookup x=Z .local:=by simpa[uo]using h
theorem da{tg:Expr}{l:Nat}{b:Bool}(h:Pa e (Z tg) l env=pure b):Pm [tg] e l env=pure b:=by unfold Pm;exact h
theorem sB{tg:Expr}(hs:env.scope=sc)(j:sc.kind=.function)(h:ur sc tg e=N3):Oi [tg] e env=pure Y:=by
 cases tg with
 |Tuple ts kk pp=>
  cases e with
  |Tuple vs z p2=>exact zn hs j h
  |_=>rfl
 |_=>first|rfl|(cases h;done)
theorem ql{elt:Expr}{gens:List LZ}{s:Scope}{px:Pos}{l:Nat}(hs:env.scope=sc)(j:sc.kind=.function):
 Pa (.ListComp elt gens s pos) (Z (.Name x px)) l env=pure (ut sc x px (.ListComp elt gens s pos)):=by
 have z:env.blockKind=.function:=by unfold RA;rw[hs,j];rfl
 unfold Pa;dsimp only;rw[z];unfold ut TM;rw[hs];rfl
theorem wx{ek ev:Expr}{gens:List LZ}{s:Scope}{px:Pos}{l:Nat}(hs:env.scope=sc)(j:sc.kind=.function):
 Pa (.DictComp ek ev gens s pos) (Z (.Name x px)) l env=pure (sc.names.lookup x==Z .local&&px.line==(Expr.DictComp ek ev gens s pos).pos.line && !(s.names.any λ(n,k)=>n==x&&(k==.local || k==.cell))):=by
 have z:env.blockKind=.function:=by unfold RA;rw[hs,j];rfl
 unfold Pa;dsimp only;rw[z];unfold TM;rw[hs];rfl
mutual
theorem sS:∀(m:MS) (G:Good C Φ k X) (F:C.sc.kind=.function) (s:Stmt),okS m C s=N3->PS X s (lS X.K (wS Φ m))
 |.asgL gs m,G,F,s,h=>by refine gA s h λts e pos h=>?_;refine cY ts h λtg h=>?_;refine eF tg h λts k p h=>?_;simp only[tv]at h;obtain⟨⟨J,he⟩,L⟩:=h;obtain⟨a,b⟩:=jm (env:=X.env) J;exact PS.imp (oE (sE m G _ he) (DC G.calm (ll J) (sGs G gs _ J) a b) (da DO) (sB G.sc F L) rfl) (wb (mE G.mono m))
 |.asg g m,G,F,s,h=>by
  refine gA s h λts e pos h1=>?_;clear h;refine cY ts h1 λtg h=>?_;clear h1;simp only[tv]at h;obtain⟨⟨⟨J,he⟩,L⟩,hc⟩:=h;have hw:=sB G.sc F L;have pg:=sG G g tg J;have plain:Pm [tg] e pos.line X.env=pure VP->PS X (.Assign [tg] e pos) (lS X.K (kY (wE Φ m) (bG g))):=λhs=>PS.imp (oE (sE m G e he) pg hs hw (by cases tg<;>first|rfl|(cases L;done))) (yJ (mE G.mono m))
  cases tg with
  |Tuple ts a b=>exact plain (da (lj hc))
  |Name x px=>
   cases e with
   |ListComp elt gens sc cpos=>
    by_cases sw:ut C.sc x px (.ListComp elt gens sc cpos)=N3
    ·cases g with
     |tup gs=>exact absurd J KW
     |name i=>
      cases m with
      |comp fr N' c=>
       replace he:=bK he;have B:bh sc X.env.scope X.N N' fr:=by rw[G.sc,G.N];exact kz he.1
       have B':bh sc C.sc C.N N' fr:=kz he.1;have Iq:PG X (.Name x px) (jx i):=by have J:=bK J;have J:=Ql (bK J.1) J.2;exact rD G.nd (by rw[G.N];exact of_decide_eq_true J.1.1) (G.loc J.1.2) (G.own J.2)
       have Ir:∀l,Pa (.ListComp elt gens sc cpos) (Z (.Name x px)) l X.env=pure N3:=λl=>by rw[ql G.sc F,sw]
       have mc:=mCmp G.mono fr c
       cases c with
       |last src g ifs m=>
        have h2:=he.2;simp only[okC]at h2
        split at h2
        ·rename_i t it fs a;simp only[tv,decide_eq_true_eq]at h2;obtain⟨⟨⟨⟨rfl,hi⟩,U⟩,ht⟩,O⟩:=h2;refine PS.imp (jL (i:=i) (g:=lG X.K (bG g)) (wi:=lI X.K (wI Φ src)) G.calm G.hx B (λg' z=>by simp at z) (sI src G _ t hi).1 (λs H fp=>sG (G.blk B' s H fp) g t U) (tb:=λp=>lC X.K p (bq (wTl Φ ifs) (eS (wE Φ m)))) (λs H fp p=>?_) (sI src G _ t hi).2 Iq (Ir _)) λD σ H h=>?_
         ·have G':=G.blk B' s H fp;exact dQ (p:=p) G' (bO (mE G.mono m)) (mTl G.mono ifs) (PB.imp (kQ G'.hx (sE m G' elt O) rfl) (gX (mE G.mono m))) (sTl ifs G' fs ht)
         ·exact eT (mI G.mono src) (aW (bO (mE G.mono m)) (mTl G.mono ifs)) σ H _ (mP mc D σ H h)
        ·cases h2
       |more src g ifs rest=>
        have h2:=he.2;simp only[okC]at h2
        split at h2
        ·rename_i t it fs a g2 gs;simp only[tv,decide_eq_true_eq]at h2;obtain⟨⟨⟨⟨rfl,hi⟩,U⟩,ht⟩,O⟩:=h2;have Is:∀g',(g2::gs)[0]?=Z g'->g'.is_async=0:=fun g' z=>by
          have z':g2=g':=by simpa using z
          subst z';exact i8 O
         refine PS.imp (jL (i:=i) (g:=lG X.K (bG g)) (wi:=lI X.K (wI Φ src)) G.calm G.hx B Is (sI src G _ t hi).1 (λs H fp=>sG (G.blk B' s H fp) g t U) (tb:=λp=>lC X.K p (bq (wTl Φ ifs) (wCl Φ rest))) (λs H fp p=>?_) (sI src G _ t hi).2 Iq (Ir _)) λD σ H h=>?_
         ·have G':=G.blk B' s H fp;exact dQ (p:=p) G' (mCl G.mono rest) (mTl G.mono ifs) (sCl rest G' elt (⟨t,it,fs,0⟩::g2::gs) sc cpos 0 (.inl rfl) p O) (sTl ifs G' fs ht)
         ·exact eT (mI G.mono src) (aW (mCl G.mono rest) (mTl G.mono ifs)) σ H _ (mP mc D σ H h)
        ·cases h2
      |_=>exact absurd he KW
    ·refine plain ?_;simp only[Qm]at sw;refine da ?_;rw[ql G.sc F,sw]
   |SetComp _ _ _ _=>cases m<;>exact absurd he KW
   |DictComp _ _ _ _ _=>refine plain (da ?_);rw[wx G.sc F];unfold DN at hc;simp only[LJ]at hc;rw[hc]
   |_=>exact plain (da rfl)
  |_=>cases L
 |.par i j a b,G,F,s,h=>by refine gA s h λts e pos h=>?_;refine cY ts h λtg h=>?_;refine eF tg h λts k p h=>?_;refine eF e h λes k' p' h=>?_;refine lh ts h λt u h=>?_;refine lh es h λe f h=>?_;refine dG t h λx px h=>?_;refine dG u h λy py h=>?_;simp only[tv,decide_eq_true_eq]at h;obtain⟨⟨⟨⟨⟨⟨⟨hi,hj⟩,Iu⟩,n1⟩,n2⟩,L⟩,hb⟩,hw⟩:=h;obtain⟨i1,i2⟩:=sy hi;obtain⟨j1,j2⟩:=sy hj;exact PS.imp (CD G.calm G.nd (by rw[G.N];exact i1) (by rw[G.N];exact j1) Iu (by rw[G.sc];exact i2) (by rw[G.sc];exact j2) (bU (mE G.mono a) (az (mE G.mono b) aG) (sE a G _ L) (bU (mE G.mono b) aG (sE b G _ hb) ed (aj n2)) (aj n1)) (Bw G.sc F hw) (da rfl)) (vK (az (mE G.mono a) (az (mE G.mono b) aG)))
 |.put o i m,G,F,s,h=>by refine gA s h λts e pos h=>?_;refine cY ts h λtg h=>?_;refine dH tg h λx y tp h=>?_;simp only[tv]at h;obtain⟨⟨⟨⟨F2,hc⟩,ho⟩,hi⟩,he⟩:=h;exact Dt (by have:=G.units;lia) (mE G.mono m) (mE G.mono o) (mE G.mono i) (sE m G e he) (sE o G x ho) (sE i G y hi) (da (lj hc)) rfl (λv=>by cases y<;>first|rfl|(cases F2;done))
 |.aug i op m,G,F,s,h=>by
  refine j6 s h λt o e pos h=>?_;refine dG t h λx _ h=>?_;simp only[tv,decide_eq_true_eq]at h;obtain⟨⟨⟨⟨⟨rfl,fv⟩,hi⟩,hl⟩,hf⟩,he⟩:=h
  cases op with
  |add=>exact pO G.nd (by rw[G.N];exact hi) (G.loc hl) (sE m G _ he) mR gZ (mE G.mono m) (G.own hf)
  |sub=>exact pO G.nd (by rw[G.N];exact hi) (G.loc hl) (sE m G _ he) mU hJ (mE G.mono m) (G.own hf)
  |mul=>exact pO G.nd (by rw[G.N];exact hi) (G.loc hl) (sE m G _ he) mV hW (mE G.mono m) (G.own hf)
  |_=>simp at fv
 |.augI o i op m,G,F,s,h=>by
  refine j6 s h λt o' e pos h=>?_;refine dH t h λx y tp h=>?_;simp only[tv,decide_eq_true_eq]at h;obtain⟨⟨⟨⟨⟨rfl,fv⟩,F2⟩,ho⟩,hi⟩,he⟩:=h;have hu:X.A.units+1<Oa:=by have:=G.units;lia
  have L:∀ov iv new,augStore y ov iv new=(do holding [new,ov,iv] (T6 ov iv new);release [new,ov,iv] [];pure .next):=λov iv new=>by cases y<;>first|rfl|(cases F2;done)
  cases op with
  |add=>exact kZ hu (mE G.mono o) (mE G.mono i) (mE G.mono m) gZ (sE o G x ho) (sE i G y hi) (sE m G e he) mR L
  |sub=>exact kZ hu (mE G.mono o) (mE G.mono i) (mE G.mono m) hJ (sE o G x ho) (sE i G y hi) (sE m G e he) mU L
  |mul=>exact kZ hu (mE G.mono o) (mE G.mono i) (mE G.mono m) hW (sE o G x ho) (sE i G y hi) (sE m G e he) mV L
  |_=>simp at fv
 |.drop m,G,F,s,h=>by refine DJ s h λe _ h=>?_;simp only[tv]at h;exact PS.imp (Aw (sE m G _ h.2) (lj h.1)) (vI (mE G.mono m))
 |.ret m,G,F,s,h=>by refine zc s h λo _ h=>?_;refine jos o h λe h=>?_;exact PS.imp (Cy (sE m G _ h)) (yI (mE G.mono m))
 |.ite c a b,G,F,s,h=>by refine Gb s h λt x y _ h=>?_;simp only[tv]at h;exact PS.imp (Ex (sT c G _ h.1.1) (sSs a G F _ h.1.2) (sSs b G F _ h.2)) (Be (mT G.mono c))
 |.for g src b,G,F,s,h=>by refine Fc s h λtg it body els _ h=>?_;refine i7 els h fun  h=>?_;simp only[tv]at h;obtain⟨⟨⟨hs,J⟩,hi⟩,hb⟩:=h;exact PS.imp (CI (λe s z=>(G.hx e s z).elim) G.calm (sI src G _ _ hi).1 (sG G g _ J) (sSs b G F _ hb) (wo hs)) (yK (mI G.mono src) (mSs G.mono b))
 |.while c b,G,F,s,h=>by refine Bt s h λt body els _ h=>?_;refine i7 els h fun  h=>?_;simp only[tv]at h;exact PS.imp (xD (λe s z=>(G.hx e s z).elim) (sT c G _ h.1) (sSs b G F _ h.2)) (tW (mT G.mono c) (mSs G.mono b))
 |.pass,G,F,s,h=>by refine DL s h λ_ h=>?_;exact PS.imp Av mN
 |.brk,G,F,s,h=>by refine Bu s h λ_ h=>?_;exact PS.imp xB tV
 |.cnt,G,F,s,h=>by refine uk s h λ_ h=>?_;exact PS.imp qZ vH
theorem sSs:∀(m:MSs) (G:Good C Φ k X) (j:C.sc.kind=.function) (s:List Stmt),okSs m C s=N3->PSs X s (lS X.K (wSs Φ m))
 |.nil,G,j,s,h=>by simp[okSs]at h;subst h;exact PSs.imp Au mN
 |.cons m r,G,j,[],h=>by simp[okSs]at h
 |.cons m r,G,j,s::ss,h=>by simp only[okSs,tv]at h;exact PSs.imp (xA (sS m G j s h.1) (sSs r G j ss h.2)) (yH (mS G.mono m) (mSs G.mono r))
end
end
end
variable{a:VQ}{ns:List Int}{r:RAd}{H:Hp}{ds:List D}{M:Mem}{Q:QD}
section
structure FD where
 name:Str
 st:Stmt
 N:List Str
 np:Nat
 body:MSs
noncomputable def bT(N:List Str)(ds:List D):aq:=ds.map Z++KD (N.length-ds.length) Y
def FD.takes(d:FD):Prop:=(Ll "")∈d.N
noncomputable def db(Φ:Phi)(a:VQ)(r:RAd):Phi:=λf ds M Q=>if f=5000+a then r ds M Q else Φ f ds M Q
noncomputable def rOf(Φ:Phi)(j:Nat)(gs:List D)(js:List Nat):RAd:=λargs M Q=>args.length=2/\Φ (2000+j) (js.map λi=>(gs++args).getD i .non) M Q
noncomputable def phi(T:List FD):Nat->Phi
 |0=>λ_ _ _ _=>False
 | k+1=>fun f ds M Q=>(∃d,T[f]?=Z d/\ds.length=d.np/\wSs (phi T k) d.body {nx:=fun _ M'=>Q .non M',rt:=Q} (bT d.N ds) M) ∨
   (∃i d xs a j gs js,f=1000+i/\i<1000/\j<1000/\T[i]?=Z d/\d.takes/\ds=xs++[.ref a,.int (j:Nat),.tup gs,.tup ((js:List Nat).map λi:Nat=>.int i)]/\xs.length+1=d.np /\
    wSs (db (phi T k) a (rOf (phi T k) j gs js)) d.body {nx:=λ_ M'=>Q .non M',rt:=Q} (bT d.N (xs++[.ref a])) M) ∨
   (∃j,f=2000+j/\j<3000/\phi T k j ds M Q)
theorem nB(h:∀f,aK (Φ f))(B:aK r)(f:Nat):aK (db Φ a r f):=λds M Q Q' j q=>by
 unfold db at q⊢
 split
 ·rename_i z;rw[if_pos z]at q;exact B _ _ _ _ j q
 ·rename_i z;rw[if_neg z]at q;exact h f _ _ _ _ j q
theorem cg(T:List FD):∀k f,aK (phi T k f)
 |0,f=>λ_ _ _ _ _ q=>q.elim
 |k+1,f=>fun ds M Q Q' h G=>by
  rcases G with⟨d,e,l,q⟩|⟨i,d,xs,a,j,gs,js,B,F,ej,J,L,O,U,q⟩|⟨j,B,F,q⟩
  ·exact .inl ⟨d,e,l,mSs (cg T k) d.body {nx:=λ_ M'=>Q .non M',rt:=Q} {nx:=λ_ M'=>Q' .non M',rt:=Q'} _ _ ⟨λ_ M' q'=>h _ _ q',h,λ_ _ z=>z,λ_ _ z=>z⟩ q⟩
  ·exact .inr (.inl ⟨i,d,xs,a,j,gs,js,B,F,ej,J,L,O,U,mSs (nB (cg T k) (r:=rOf (phi T k) j gs js) λ_ _ _ _ F2 z=>⟨z.1,cg T k _ _ _ _ _ F2 z.2⟩) d.body {nx:=λ_ M'=>Q .non M',rt:=Q} {nx:=λ_ M'=>Q' .non M',rt:=Q'} _ _ ⟨λ_ M' q'=>h _ _ q',h,λ_ _ z=>z,λ_ _ z=>z⟩ q⟩)
  ·exact .inr (.inr ⟨j,B,F,cg T k _ _ _ _ _ h q⟩)
noncomputable def fA(lms:List (Str×VQ))(d:FD):Nat:=if(Ll "")∈d.N then 1 else match lms.lookup d.name with|some P=>P+2|none=>0
noncomputable def uw(Γ:List Str)(cs:List (Str×D))(lms:List (Str×VQ))(d:FD):Bool:=
 decide ((al d.st).kind=.function) && !(al d.st).isCoroutine && !(al d.st).isGenerator&&decide (d.N.Nodup)&&decide (d.np<=d.N.length)
  && (d.N.take d.np).all (λx=>(al d.st).names.lookup x==Z .local || (al d.st).names.lookup x==Z .cell)
  && (al d.st).names.all (λy=>!(y.2==.free))&&okSs d.body ⟨Γ,d.N,al d.st,d.N,cs,fA lms d,d.name⟩ (bv d.st)
theorem qm{Γ:List Str}{cs:List (Str×D)}{lms:List (Str×VQ)}{d:FD}(h:uw Γ cs lms d=N3):cD d.N (d.N.take d.np) (al d.st)/\(d.N.take d.np).length=d.np/\okSs d.body ⟨Γ,d.N,al d.st,d.N,cs,fA lms d,d.name⟩ (bv d.st)=N3:=by
 simp only[uw,tv,decide_eq_true_eq,LJ]at h;obtain⟨⟨⟨⟨⟨⟨⟨h1,h2⟩,B⟩,F⟩,U⟩,G⟩,J⟩,L⟩:=h;have j:(d.N.take d.np).length=d.np:=by rw[Lk];lia
 refine⟨⟨h1,h2,B,F,by rw[j],λx hx=>?_,λy O e=>?_⟩,j,L⟩
 ·have z:=NR.mp G x hx;simpa using z
 ·have z:=NR.mp J y O;rw[e]at z;simp at z
section
variable{P:Lb}{w:Ly}{K:Frag}{mg:Str->Option i3}{base:Heap}
structure uz(K:Frag)(mg:Str->Option i3)(T:List FD)(cs:List (Str×D))(lms:List (Str×VQ)):Prop where
 blt:∀x∈bltNames,mg x=Y
 fns:∀(i:Nat) (d:FD),T[i]?=Z d->∃f fd,Fun K d.name d.name d.st f fd/\mg d.name=Z (.ref f)/\PY K Me d.name=Z (Z (.ref f))/\Binds K fd (d.N.take d.np) []
 ok:∀d∈T,uw (T.map (·.name)) cs lms d=N3
 cst:∀x d,(x,d)∈cs->∃u,mg x=Z u/\GV K d u
 len:T.length<=1000
 own:∀(i:Nat) (d:FD) (T0:VQ),T[i]?=Z d->lms.lookup d.name=Z T0->∀f,mg d.name=Z (.ref f)->∃fd,FunP K d.name d.name d.st f fd T0
theorem qo{N:List Str}{vs:List V}(rs:RDs K H ds vs):RS K H (bE N vs) (bT N ds):=by
 refine⟨by simp[bE,bT,rs.length],λj dd B=>?_⟩
 unfold bT at B;unfold bE
 by_cases F:j<ds.length
 ·rw[KS (by simpa using F),KL]at B
  cases e3:ds[j]? with
  |none=>rw[e3]at B;cases B
  |some z=>rw[e3]at B;cases B;obtain⟨v,G,rv⟩:=rs.get e3;refine⟨v,?_,rv⟩;rw[KS (by rw[q7,rs.length];exact F),KL,G];rfl
 ·rw[z0 (by simpa using F),RB]at B
  split at B<;>cases B
theorem lp{T:List FD}(F:T.length<=1000){a:Nat}:∀{k:Nat} {ds:List D} {M:Mem} {Q:QD},¬phi T k (5000+a) ds M Q
 |0,_,_,_,h=>h
 |k+1,ds,M,Q,h=>by
  rcases h with⟨d,e,_⟩|⟨i,d,xs,b,j,gs,js,z,B,_⟩|⟨j,z,B,_⟩
  ·have:=(KN.mp e).1;lia
  ·lia
  ·lia
theorem uA{T:List FD}(G:T.length<=1000){j k:Nat}(J:j<1000)(h:phi T k (4000+j) ds M Q):∃k0,k=k0+2/\phi T k0 j ds M Q:=by
 have s1:∀{k:Nat} {m:Nat} {ds:List D} {M:Mem} {Q:QD},m<3000->phi T k (2000+m) ds M Q->∃k0,k=k0+1/\phi T k0 m ds M Q:=λ{k m ds M Q} hm h=>by
  cases k with
  |zero=>exact h.elim
  |succ k=>
   rcases h with⟨d,e,_⟩|⟨i,d,xs,b,j,gs,js,z,B,_⟩|⟨j,z,B,q⟩
   ·have:=(KN.mp e).1;lia
   ·lia
   ·have:j=m:=by lia
    subst this;exact⟨k,rfl,q⟩
 rw[show 4000+j=2000+(2000+j) by lia]at h
 obtain⟨L,rfl,h1⟩:=s1 ∅ h
 obtain⟨F,rfl,h2⟩:=s1 ∅ h1
 exact⟨F,rfl,h2⟩
theorem qp:∀{a b:List Nat},(a.map λi:Nat=>D.int i)=(b.map λi:Nat=>D.int i)->a=b
 |[],[],_=>rfl
 |[],_::_,h=>by cases h
 |_::_,[],h=>by cases h
 |x::a,y::b,h=>by rw[KY,KY,OT,D.int.injEq]at h;rw[qp h.2,show x=y by have:=h.1;lia]
structure oA(P:Lb)(w:Ly)(K:Frag)(mg:Str->Option i3)(base:Heap)(T:List FD)(k:Nat):Prop where
 fn:∀(i:Nat) (d:FD) (f:VQ) (fd:N4),T[i]?=Z d->Fun K d.name d.name d.st f fd->mg d.name=Z (.ref f)->FnOk P w K mg base CX0 k f fd (d.N.take d.np) (lSp K (phi T k i))
 fs:∀(i:Nat) (d:FD) (f:VQ) (fd:N4),T[i]?=Z d->Fun K d.name d.name d.st f fd->mg d.name=Z (.ref f)->nN P w K mg base k f fd (d.N.take d.np) (spC P w K mg base k (phi T k) i)
theorem sC{T:List FD}{cs:List (Str×D)}{lms:List (Str×VQ)}(O:uz K mg T cs lms)(hM:Frag.In K base)(hB:fj mg base){k:Nat}(A1:oA P w K mg base T k)(A3:∀k0,k=k0+2->oA P w K mg base T k0){i:Nat}{d:FD}(e:T[i]?=Z d)(hΦ:∀f,f<5000->Φ f=phi T k f)(hm:∀f,aK (Φ f)){A:LD}{outer:List Env}{s:r0}{E:XK}{f:VQ}{cdv:i3}(S:cD d.N (d.N.take d.np) (al d.st))(U:Room k (A.deeper (Qi d.name (al d.st) s.heap.objs.size f cdv)))(hc:fA lms d=1->∀a,wq ((cz CX0 P w K mg base d.N d.name (al d.st) f cdv A outer s H E).nox) a (Φ (5000+a)))(ho:∀T0,fA lms d=T0+2->∃c,cdv=.ref c/\MN K c T0=N3):
 Good ⟨T.map (·.name),d.N,al d.st,d.N,cs,fA lms d,d.name⟩ Φ k ((cz CX0 P w K mg base d.N d.name (al d.st) f cdv A outer s H E).nox):=by
 have small:∀{j:Nat} {x:Str},(T.map (·.name))[j]?=Z x->j<1000/\∃d2,T[j]?=Z d2/\d2.name=x:=λ{j x} hx=>by
  rw[KL]at hx
  cases F:T[j]? with
  |none=>rw[F]at hx;cases hx
  |some d2=>rw[F]at hx;cases hx;exact⟨Lh (KN.mp F).1 O.len,d2,rfl,rfl⟩
 refine⟨λ_ _ z=>z,rfl,rfl,rfl,S.nd,λ_ _=>rfl,U,O.blt,λj x hx=>?_,hm,O.cst,hc,λT0 hl=>?_⟩
 ·obtain⟨L,d2,F,rfl⟩:=small hx;obtain⟨f2,B,G,J,n2,F2⟩:=O.fns j d2 F;exact⟨f2,B,_,J,n2,G.kp,F2,by rw[hΦ j ∅];exact A1.fn j d2 f2 B F G J⟩
 ·obtain⟨c,rfl,hd⟩:=ho T0 hl;refine⟨⟨c,rfl,Tc hM hd⟩,hB,rfl,λj x hx=>?_,λj x hx=>?_,?_⟩
  ·obtain⟨L,d2,F,rfl⟩:=small hx;obtain⟨f2,B,G,J,n2,F2⟩:=O.fns j d2 F;have F3:=A1.fs j d2 f2 B F G J;have cv:∀{o:List Env} {s:r0} {vs:List V} {H:Hp} {Q:VK} {E:XK},spC P w K mg base k Φ j o s vs H Q E->spC P w K mg base k (phi T k) j o s vs H Q E:=by
    rintro o s vs H Q E ⟨ds,a,j',gs,js,M,rm,rd,C1,q⟩;refine⟨ds,a,j',gs,js,M,rm,rd,⟨C1.fn,?_⟩,by rw[<-hΦ _ ∅];exact q⟩
    intro A outer s1 H1 u1 u2 v1 v2 Q1 un U e0 r1 r2 Iq;obtain⟨Ir,M2,Is,Iu,q2,fv⟩:=Iq;have fv:phi T k (4000+j') _ M2 _:=fv
    by_cases hj':j'<1000
    ·exact C1.run A outer s1 H1 u1 u2 v1 v2 Q1 un U e0 r1 r2 ⟨Ir,M2,Is,Iu,q2,by show Φ (4000+j') _ _ _;rw[hΦ _ ∅];exact fv⟩
    ·rw[show 4000+j'=5000+(j'-1000) by lia]at fv
     exact absurd fv (lp O.len)
   exact⟨f2,B,_,J,G.kp,F2,⟨λo s vs H Q E z=>F3.len o s vs H Q E (cv z),λA outer s H args us vs Q E U e0 hb r z=>F3.run A outer s H args us vs Q E U e0 hb r (cv z)⟩⟩
  ·obtain⟨L,d2,F,rfl⟩:=small hx;obtain⟨f2,B,G,J,n2,F2⟩:=O.fns j d2 F;refine⟨f2,B,_,J,G.kp,F2,?_⟩
   by_cases hk:∃k0,k=k0+2
   ·obtain⟨k0,rfl⟩:=hk;refine(A3 k0 rfl |>.fn j d2 f2 B F G J).imp λvs H Q E g9=>?_
    obtain⟨ds,M,rm,rd,q⟩:=g9;rw[hΦ _ ∅]at q
    obtain⟨k1,e1,q1⟩:=uA O.len L q;have:k1=k0:=∅
    subst this;exact⟨ds,M,rm,rd,q1⟩
   ·have no:∀{vs H Q E},¬lSp K (Φ (4000+j)) vs H Q E:=fun {vs H Q E} g9=>by
     obtain⟨ds,M,rm,rd,q⟩:=g9;rw[hΦ _ ∅]at q
     obtain⟨k1,e1,_⟩:=uA O.len L q;exact hk ⟨k1,e1⟩
    exact⟨λvs H Q E z=>absurd z no,λA outer s H args us vs Q E _ _ _ _ z=>absurd z no⟩
  ·by_cases hk:∃k0,k=k0+2
   ·exact .inl hk
   ·refine .inr λj x hx ds M Q q=>?_;obtain⟨L,_⟩:=small hx;rw[hΦ _ ∅]at q
    obtain⟨k1,e1,_⟩:=uA O.len L q;exact hk ⟨k1,e1⟩
theorem DT{T:List FD}{cs:List (Str×D)}{lms:List (Str×VQ)}(O:uz K mg T cs lms)(hM:Frag.In K base)(hB:fj mg base)(k:Nat):oA P w K mg base T k:=by
 induction k using Nat.strongRecOn with
 |ind k ih=>
  cases k with
  | zero=>exact⟨fun i d f fd e F hm=>⟨fun vs H Q E h=>by obtain⟨ds,M,_,_,q⟩:=h;exact q.elim,fun A outer s H args us vs Q E _ _ _ _ h=>by obtain⟨ds,M,_,_,q⟩:=h;exact q.elim⟩,
     λi d f fd e F hm=>⟨λo s vs H Q E h=>by obtain⟨ds,a,j,gs,js,M,_,_,_,q⟩:=h;exact q.elim,λA outer s H args us vs Q E _ _ _ _ h=>by obtain⟨ds,a,j,gs,js,M,_,_,_,q⟩:=h;exact q.elim⟩⟩
  |succ k=>
   have A1:=ih k (Ux k);have A3:∀k0,k=k0+2->oA P w K mg base T k0:=λk0 z=>ih k0 ∅
   have reg:∀{i:Nat} {d:FD} {ds:List D} {M:Mem} {Q:QD},T[i]?=Z d->phi T (k+1) i ds M Q->ds.length=d.np/\wSs (phi T k) d.body {nx:=λ_ M'=>Q .non M',rt:=Q} (bT d.N ds) M:=λ{i d ds M Q} e h=>by
    have hi:=(KN.mp e).1;have hl:=O.len
    rcases h with⟨d',e',l,q⟩|⟨i',d',xs,b,j,gs,js,e1,_⟩|⟨j,e1,_⟩
    ·rw[e]at e';cases e';exact⟨l,q⟩
    ·lia
    ·lia
   refine⟨λi d f fd e F Iq=>?_,λi d f fd e F Iq=>?_⟩
   ·obtain⟨S,hl,hb⟩:=qm (O.ok d (L5 e));have len:∀vs H Q E,lSp K (phi T (k+1) i) vs H Q E->vs.length=(d.N.take d.np).length:=fun vs H Q E h=>by
     obtain⟨ds,M,rm,rs,q⟩:=h;rw[rs.length,(reg e q).1,hl]
    have body:∀(cdv:i3) (A:LD) (outer:List Env) (s:r0) (H:Hp) (vs:List V) (Q:VK) (E:XK),(∀T0,fA lms d=T0+2->∃c,cdv=.ref c/\MN K c T0=N3)->Room k (A.deeper (Qi d.name (al d.st) s.heap.objs.size f cdv))->lSp K (phi T (k+1) i) vs H Q E->
     ∃t,PSs (cz CX0 P w K mg base d.N d.name (al d.st) f cdv A outer s H E).nox (bv d.st) t/\t {nx:=λ_ H'=>Q .non H',rt:=Q} (bE d.N vs) H:=λcdv A outer s H vs Q E ho J h=>by
     obtain⟨ds,M,rm,rs,q⟩:=h;have G:=sC (P:=P) (w:=w) (A:=A) (outer:=outer) (s:=s) (H:=H) (E:=E) (f:=f) (cdv:=cdv) O hM hB A1 A3 e (Φ:=phi T k) (λ_ _=>rfl) (cg T k) S J (λ_ a pins s σ H vs us Q I r z=>by obtain⟨ds,M,_,_,q⟩:=z;exact absurd q (lp O.len)) ho
     exact⟨_,sSs d.body G S.kind _ hb,bT d.N ds,M,{nx:=λ_ M'=>KE' K M H Q .non M',rt:=KE' K M H Q},qo rs,rm,⟨λρ M' σ H' x rs' rm' q'=>q' .non H' x rm' (VA.mpr rfl),λd M' v H' x rm' rd' q'=>q' v H' x rm' rd',λ_ _ _ _ _ _ _ z=>z,λ_ _ _ _ _ _ _ z=>z⟩,(reg e q).2⟩
    by_cases fv:(Ll "")∈d.N
    ·refine F.ok S len λcdv A outer s H vs Q E J h=>body cdv A outer s H vs Q E (λT0 z=>?_) J h;unfold fA at z;rw[if_pos fv]at z;lia
    cases U:lms.lookup d.name with
    |none=>refine F.ok S len λcdv A outer s H vs Q E J h=>body cdv A outer s H vs Q E (λT0 z=>?_) J h;unfold fA at z;rw[if_neg fv,U]at z;cases z
    |some T1=>
     obtain⟨fd',FP⟩:=O.own i d T1 e U f Iq;have:fd'=fd:=by obtain⟨_,_,_,_,_,_,_,_,_,_,l1,_⟩:=F.ex;obtain⟨_,_,_,_,_,_,_,_,_,_,l2,_⟩:=FP.ex;rw[l1]at l2;cases l2;rfl
     subst this;refine FP.ok S len λc A outer s H vs Q E hd J h=>body (.ref c) A outer s H vs Q E (λT0 z=>?_) J h;unfold fA at z;rw[if_neg fv,U]at z;have:T1=T0:=by have z:T1+2=T0+2:=z;lia
     subst this;exact⟨c,rfl,hd⟩
   ·obtain ⟨S,hl,hb⟩:=qm (O.ok d (L5 e));have hi:=(KN.mp e).1;have ops:∀{o:List Env} {s:r0} {vs:List V} {H:Hp} {Q:VK} {E:XK},spC P w K mg base (k+1) (phi T (k+1)) i o s vs H Q E->
     ∃(xs:List D) (a:VQ) (r:RAd) (M:Mem),d.takes/\RM K M H/\RDs K H (xs++[.ref a]) vs/\xs.length+1=d.np/\aK r/\(∀ds M Q,r ds M Q->ds.length=2)/\iq P w K mg base k (frs o) a (lSp K r) H s.heap /\
      wSs (db (phi T k) a r) d.body {nx:=λ_ M'=>KE' K M H Q .non M',rt:=KE' K M H Q} (bT d.N (xs++[.ref a])) M:=by
     rintro o s vs H Q E ⟨ds,a,j,gs,js,M,rm,rd,C1,q⟩
     rcases q with⟨d',e',_⟩|⟨i',d',xs,b,j',gs',js',e1,e2,ej,e3,e4,e5,e6,q⟩|⟨j',e1,_⟩
     ·have:=(KN.mp e').1;have:=O.len;lia
     ·have:i=i':=by lia
      subst this;rw[e]at e3;cases e3;obtain⟨rfl,z⟩:=List.append_inj' e5 (by simp)
      simp only[OT,D.ref.injEq,D.int.injEq,D.tup.injEq,and_true]at z;obtain⟨rfl,hj,rfl,F2⟩:=z;have hj:j=j':=by exact_mod_cast hj
      subst hj;have F2:js=js':=qp F2;subst F2;refine⟨ds,a,rOf (phi T k) j gs js,M,e4,rm,rd,e6,λ_ _ _ _ hq z=>⟨z.1,cg T k _ _ _ _ _ hq z.2⟩,λ_ _ _ z=>z.1,⟨C1.fn,?_⟩,q⟩;intro A outer s1 H1 u1 u2 v1 v2 Q1 un J e0 r1 r2 Ix;obtain⟨L,M2,Iy,Iz,B,q3⟩:=Ix;exact C1.run A outer s1 H1 u1 u2 v1 v2 Q1 un J e0 r1 r2 ⟨L,M2,Iy,Iz,B,.inr (.inr ⟨2000+j,∅,∅,q3⟩)⟩
     ·have:=O.len;lia
    refine F.okS S (λo s vs H Q E h=>?_) λcdv A outer s H vs Q E J h=>?_
    ·obtain⟨xs,a,r,M,fv,rm,rd,hn,Ir,Is,C1,q⟩:=ops h;rw[rd.length,D1,MU,hn,hl]
    ·obtain⟨xs,a,r,M,fv,rm,rd,hn,Ir,Is,C1,q⟩:=ops h;have h1:fA lms d=1:=if_pos fv;have G:=sC (P:=P) (w:=w) (A:=A) (outer:=outer) (s:=s) (H:=H) (E:=E) (f:=f) (cdv:=cdv) O hM hB A1 A3 e (Φ:=db (phi T k) a r) (fun f hf=>by
      funext ds M Q;unfold db;rw[if_neg ∅]) (nB (cg T k) Ir) S J (λ_ b pins s2 σ H2 Iu us Q2 I rv z=>?_) (λT0 z=>by rw[h1]at z;lia)
     ·exact⟨_,sSs d.body G S.kind _ hb,bT d.N (xs++[.ref a]),M,{nx:=λ_ M'=>KE' K M H Q .non M',rt:=KE' K M H Q},qo (K:=K) rd,rm,⟨λρ M' σ H' x rs' rm' q'=>q' .non H' x rm' (VA.mpr rfl),λd M' v H' x rm' rd' q'=>q' v H' x rm' rd',λ_ _ _ _ _ _ _ z=>z,λ_ _ _ _ _ _ _ z=>z⟩,q⟩
     ·obtain⟨L,M2,IA,Iv,B⟩:=z
      by_cases hb':b=a
      ·subst hb';have B:r L M2 (KE' K M2 H2 Q2):=by
        unfold db at B;rw[if_pos rfl]at B;exact B
       have Iw:=Is _ _ _ B;rw[<-Iv.length]at Iw;obtain⟨v1,v2,rfl⟩:∃v1 v2,Iu=[v1,v2]:=by
        match Iu,Iw with
        |[v1,v2],_=>exact⟨v1,v2,rfl⟩
       exact xZ (X:=(cz CX0 P w K mg base d.N d.name (al d.st) f cdv A outer s H E).nox) rfl J C1 pins s2 σ H2 v1 v2 us Q2 I rv ⟨L,M2,IA,Iv,B⟩
      ·have B:phi T k (5000+b) L M2 (KE' K M2 H2 Q2):=by
        unfold db at B;rw[if_neg ∅]at B;exact B
       exact absurd B (lp O.len)
noncomputable def eI:List (VQ×Pos×Str)->Mem
 |[],_=>Y
 |(P,pos,q)::r,a=>if a=P then Z (.tab pos q)else eI r a
theorem sD{H:Hp}:∀{ts:List (VQ×Pos×Str)},(∀t∈ts,H t.1=Z (.tbl #[]))->RM K (eI ts) H
 |[],_=>λ_ _ z=>by cases z
 |(P,pos,q)::r,h=>λa o z=>by
  unfold eI at z
  split at z
  ·rename_i e;cases z;subst e;exact⟨#[],h _ (Ln ..),.inl rfl⟩
  ·exact sD (λt j=>h t (L9 _ j)) a o z
theorem By{T:List FD}{k i:Nat}{ts:List (VQ×VQ)}(cs:List (VQ×Pos×Str))(B:∀t∈cs,∃q∈ts,q.2=t.1)(F:nO ts H)(G:Scr K H a (ns.map V.int))(h:phi T k i [.con (ns.map D.int)] (eI cs) λd _=>d=.bl N3):
 lSp K (phi T k i) [.ref a] H (λv _=>v=.bl N3) λ_ _ _=>False:=by
 have j:RM K (eI cs) H:=sD λt z=>by obtain⟨q,J,e⟩:=B t z;rw[<-e];exact F.tab q J
 refine⟨[.con (ns.map D.int)],eI cs,j,RDs.cons (Vy.mpr ⟨a,ns.map V.int,rfl,?_,RDs.ints ns⟩) RDs.nil,cg T k i [.con (ns.map D.int)] (eI cs) (λd _=>d=.bl N3) (KE' K (eI cs) H λv _=>v=.bl N3) (λd M' e=>λv H' x rm rd=>?_) h⟩
 ·exact G
 ·subst e;exact Vv.mp rd
end
theorem DU{T:List FD}{lms:List (Str×VQ)}{Ls:List Nat}(h:((KA T.length).all λi=>Ls.contains i || (T[i]?).all λd=>(lms.lookup d.name).isNone)=N3){i:Nat}{d:FD}{T0:VQ}(e:T[i]?=Z d)(j:lms.lookup d.name=Z T0):i∈Ls:=by have z:=NR.mp h i (LC.mpr (KN.mp e).1);rw[e]at z;simpa[j]using z
theorem hd_in{K:Frag}{c:VQ}{o:Obj}(h:K.lookup c=Z o)(e:MN [(c,o)] c P=N3):MN K c P=N3:=by
 unfold MN at e⊢;rw[h];rw[show P6 c [(c,o)]=Z o by simp[P6]]at e
 exact e
theorem Fd(us:List i3)(h:us.length=0):us=[]:=Lu.mp h
theorem kA(us:List i3)(h:us.length=1):∃a,us=[a]:=Q7.mp h
theorem cm(us:List i3)(h:us.length=2):∃a b,us=[a,b]:=by
 cases us with
 |nil=>cases h
 |cons a us=>obtain⟨b,rfl⟩:=kA us (Vk.inj h);exact⟨a,b,rfl⟩
theorem kB(us:List i3)(h:us.length=3):∃a b c,us=[a,b,c]:=by
 cases us with
 |nil=>cases h
 |cons a us=>obtain⟨b,c,rfl⟩:=cm us (Vk.inj h);exact⟨a,b,c,rfl⟩
theorem uB(us:List i3)(h:us.length=4):∃a b c d,us=[a,b,c,d]:=by
 cases us with
 |nil=>cases h
 |cons a us=>obtain⟨b,c,d,rfl⟩:=kB us (Vk.inj h);exact⟨a,b,c,d,rfl⟩
end
variable{i j c z:Int}{q n N m ft L L0 L1 W ff w:Nat}{b p2:VQ}{l A:List Int}{F G:Nat->Int}{xs:List D}{s sf ss:Stmt}{d:FD}{T:List FD}{E:bV}{o:O}{ρ:aq}{M' M'':Mem}{B:List (List Int)}{zs:List (Int×Int)}{mul:List Int->List Int->List Int}
section
theorem DV{k:Nat}(e:T[f]?=Z d)(l:ds.length=d.np)(r:bT d.N ds=ρ)(h:wSs (phi T k) d.body {nx:=λ_ M'=>Q .non M',rt:=Q} ρ M):phi T (k+1) f ds M Q:=by
 rw[<-r]at h
 first|exact⟨d,e,l,h⟩|exact .inl ⟨d,e,l,h⟩
theorem aA(j:1<=n)(e:T[f]?=Z d)(l:ds.length=d.np)(r:bT d.N ds=ρ)(h:wSs (phi T (n-1)) d.body {nx:=λ_ M'=>Q .non M',rt:=Q} ρ M):phi T n f ds M Q:=by
 obtain⟨k,rfl⟩:∃k,n=k+1:=⟨n-1,∅⟩
 exact DV e l r h
theorem Bz{D:bV}:wSs Φ .nil D ρ M=D.nx ρ M:=by rw[wSs];rfl
theorem bI{s:MS}{r:MSs}{D:bV}:wSs Φ (.cons s r) D ρ M=wS Φ s {D with nx:=wSs Φ r D} ρ M:=by rw[wSs];rfl
theorem Gw{y:D}:wIx (.tup ds) y M Q=∃i d,y=.int i/\atI ds i=Z d/\Q d M:=rfl
theorem Gx{y:D}:wIx (.con ds) y M Q=∃i d,y=.int i/\atI ds i=Z d/\Q d M:=rfl
theorem aJ{d:D}(h:M a=Z (.lst ds))(e:atI ds i=Z d)(q:Q d M):wIx (.ref a) (.int i) M Q:=.inl ⟨ds,i,d,h,rfl,e,q⟩
theorem eJ{v:D}{j:Nat}{Q:Mem->Prop}(h:M a=Z (.lst ds))(e:ixN ds.length i=Z j)(q:Q (ag M a (.lst (ds.set j v)))):gj (.ref a) (.int i) v M Q:=⟨a,rfl,.inl ⟨ds,i,j,rfl,h,e,q⟩⟩
theorem b7(h:M a=Z (.lst ds))(q:Q (.int ds.length) M):fw [.ref a] M Q:=⟨_,_,rfl,by simp only[p8,h],q⟩
theorem af(h:M a=Z (.lst ds)):aM M (.ref a)=Z ds:=by simp only[aM,h]
theorem Hh:kW [.int i] M Q=Q (.int i) M:=by
 apply propext;constructor
 ·rintro(⟨j,e,q⟩|⟨k,e,q⟩)
  ·cases e;exact q
  ·cases e
 ·exactλq=>.inl ⟨i,rfl,q⟩
theorem Hi{b:Bool}:kW [.bl b] M Q=Q (.int (if b then 1 else 0)) M:=by
 apply propext;constructor
 ·rintro(⟨j,e,q⟩|⟨k,e,q⟩)
  ·cases e
  ·cases e;exact q
 ·exactλq=>.inr ⟨b,rfl,q⟩
theorem Id:wEq (.int i) (.int j) M Q=Q (.bl (i==j)) M:=by simp[wEq,rb,LV]
theorem Ie:wNe (.int i) (.int j) M Q=Q (.bl (!(i==j))) M:=by simp[wNe,rb,LV]
theorem DW:gT (.int i) (.int j) M Q=Q (.int (i+j)) M:=rfl
theorem Hj{a b:List D}:gT (.tup a) (.tup b) M Q=((a≠[]∨True)/\a.length+b.length<=KJ/\Q (.tup (a++b)) M):=rfl
theorem Hk:oS (.int i) (.int j) M Q=Q (.int (i-j)) M:=rfl
theorem wMul_i:gU (.int i) (.int j) M Q=(MulOk i j/\Q (.int (i*j)) M):=rfl
theorem Hl{k:Int}:gU (.tup ds) (.int k) M Q=(-(2^63)<=k/\k<2^63/\ds.length*k.toNat<=KJ/\Q (.tup (KD k.toNat ds).flatten) M):=rfl
theorem wMul_r{k:Int}:gU (.ref a) (.int k) M Q=∃xs,M a=Z (.lst xs) /\ -(2^63)<=k/\k<2^63/\xs.length*k.toNat<=KJ/\∀p,M p=Y->Q (.ref p) (ag M p (.lst (KD k.toNat xs).flatten)):=rfl
theorem Gy:jN (.int i) (.int j) M Q=(0<j/\j<2^256/\Q (.int (i / j)) M):=rfl
theorem Hm:oT (.int i) (.int j) M Q=(0<j/\Q (.int (i%j)) M):=rfl
theorem Hn:oU (.int i) (.int j) M Q=(0<=j/\j<=1000000/\i.natAbs<2^64/\Q (.int (i^j.toNat)) M):=rfl
theorem Ig:wLt (.int i) (.int j) M Q=Q (.bl (decide (i<j))) M:=rfl
theorem Fe:wGt (.int i) (.int j) M Q=Q (.bl (decide (j<i))) M:=rfl
theorem Ih:wGe (.int i) (.int j) M Q=Q (.bl (decide (j<=i))) M:=rfl
theorem BA:jY (.int i) (.int j) M Q=Q (.int (i+j)) M:=rfl
theorem Gz:jZ (.int i) (.int j) M Q=Q (.int (i-j)) M:=rfl
theorem GA:ka (.int i) (.int j) M Q=(MulOk i j/\Q (.int (i*j)) M):=rfl
theorem Ho:oV (.int i) M Q=Q (.int (-i)) M:=rfl
theorem Hq:kU [.int i] M Q=Q (.int (if i<0 then -i else i)) M:=by simp[kU]
theorem GB:jP [.int i,.int j] M Q=Q (.int (if j > i then j else i)) M:=by
 apply propext;constructor
 ·rintro⟨a,b,e,q⟩;cases e;exact q
 ·exactλq=>⟨i,j,rfl,q⟩
theorem GC:jQ [.int i,.int j] M Q=Q (.int (if j<i then j else i)) M:=by
 apply propext;constructor
 ·rintro⟨a,b,e,q⟩;cases e;exact q
 ·exactλq=>⟨i,j,rfl,q⟩
theorem Hr:fw [.con ds] M Q=Q (.int ds.length) M:=by simp[fw,p8]
theorem Hs:fw [.tup ds] M Q=Q (.int ds.length) M:=by simp[fw,p8]
theorem Ht:aM M (.tup ds)=Z ds:=rfl
theorem Hu:aM M (.con ds)=Z ds:=rfl
theorem Ii{α:Sort _}{a b:α}:(if N3=N3 then a else b)=a:=rfl
theorem Ij{α:Sort _}{a b:α}:(if VP=N3 then a else b)=b:=rfl
theorem GD{ta tb:TEd}{R:List D->(Mem->Prop)->Mem->Prop}:kX ta tb ρ M R=ta ρ M λx j=>tb ρ j λy M2=>∃xs ys,aM M2 x=Z xs/\aM M2 y=Z ys/\R (Pe gd xs ys) (λM=>aM M x=Z xs/\aM M y=Z ys) M2:=by
 unfold kX aE;congr 1;funext x j;unfold br;congr 1;funext y M2;apply propext;constructor
 ·rintro⟨x',y',xs,ys,e,q⟩
  cases e;exact⟨xs,ys,q⟩
 ·rintro⟨xs,ys,q⟩;exact⟨x,y,xs,ys,rfl,q⟩
theorem Hv:gT (.str x) (.str y) M Q=(x.length+y.length<=KJ/\Q (.str (x++y)) M):=rfl
theorem Hw{i}:wE Φ (.var i)=fu i:=rfl
theorem Hx{i}:wE Φ (.int i)=wC (.int i):=rfl
theorem Ik{b}:wE Φ (.bl b)=wC (.bl b):=rfl
theorem Hy:wE Φ (.non)=wC .non:=rfl
theorem Hz{op}{a}{b}:wE Φ (.bin op a b)=wOp (opB op) (wE Φ a) (wE Φ b):=rfl
theorem HA{a}:wE Φ (.neg a)=wUn oV (wE Φ a):=rfl
theorem HB{op}{a}{b}:wE Φ (.cmp op a b)=wOp (opC op) (wE Φ a) (wE Φ b):=rfl
theorem HC{es}:wE Φ (.and es)=wAnds Φ es:=rfl
theorem Il{es}:wE Φ (.or es)=wOrs Φ es:=rfl
theorem HD{a}:wE Φ (.not a)=nT (wE Φ a):=rfl
theorem HE{c}{a}{b}:wE Φ (.ite c a b)=wIf (wT Φ c) (wE Φ a) (wE Φ b):=rfl
theorem HF{es}:wE Φ (.tup es)=wAr tE (wA Φ es):=rfl
theorem HG{es}:wE Φ (.lst es)=wAr tF (wA Φ es):=rfl
theorem Im{a}{b}:wE Φ (.ix a b)=wOp wIx (wE Φ a) (wE Φ b):=rfl
theorem Io{a}{lo}{hi}:wE Φ (.sl a lo hi)=wSl (wE Φ a) (wO Φ lo) (wO Φ hi):=rfl
theorem GE{f}{es}:wE Φ (.call f es)=wAr (Φ f) (wA Φ es):=rfl
theorem Gc{i}{es}:wE Φ (.callC i es)=km Φ i (wA Φ es):=rfl
theorem Gd{f}{es}{j}{cs}{js}{P}{pos}{q}:wE Φ (.callL f es j cs js P pos q)=ko Φ f (wA Φ es) j cs js P pos q:=rfl
theorem HH{f}{es}:wE Φ (.blt f es)=wAr (opF f) (wA Φ es):=rfl
theorem GF{a}{T}:wE Φ (.isin a T)=nV T (wE Φ a):=rfl
theorem GG{u1}{d}:wE Φ (.glob u1 d)=wC d:=rfl
theorem GH{t}:wE Φ (.dnew t)=oh t:=rfl
theorem Gf{a}:wE Φ (.sortI a)=ki (wE Φ a):=rfl
theorem GI{o}{k}{x}:wE Φ (.dget o k x)=ot (wE Φ o) (wE Φ k) (wE Φ x):=rfl
theorem GJ{m}{o}{a}:wE Φ (.meth m o a)=wBM (opM m) (wE Φ o) (aE (wE Φ a) br):=rfl
theorem HI{o}{i}{a}:wE Φ (.ins o i a)=wBM iI (wE Φ o) (aE (wE Φ i) (aE (wE Φ a) br)):=rfl
theorem GK{fr}{u1}{c}:wE Φ (.comp fr u1 c)=wCmp Φ fr c:=rfl
theorem GM:wA Φ (.nil)=br:=rfl
theorem Gg{e}{r}:wA Φ (.cons e r)=aE (wE Φ e) (wA Φ r):=rfl
theorem Gh:wTl Φ (.nil)=[]:=rfl
theorem FA{t}{r}:wTl Φ (.cons t r)=wT Φ t::wTl Φ r:=rfl
theorem HJ{e}:wI Φ (.seq e)=tP (wE Φ e):=rfl
theorem GN{a}:wI Φ (.rng1 a)=nW (aE (wE Φ a) br):=rfl
theorem HK{a}{b}:wI Φ (.zip a b)=kX (wE Φ a) (wE Φ b):=rfl
theorem GO{a}:wI Φ (.enum a)=nX (wE Φ a):=rfl
theorem FB{src}{g}{ifs}{elt}:wCl Φ (.last src g ifs elt)=dO (wI Φ src) (bG g) (bq (wTl Φ ifs) (eS (wE Φ elt))):=rfl
theorem FC{src}{g}{ifs}{rest}:wCl Φ (.more src g ifs rest)=dO (wI Φ src) (bG g) (bq (wTl Φ ifs) (wCl Φ rest)):=rfl
theorem Ff{src}{g}{ifs}{elt}:wCmp Φ fr (.last src g ifs elt)=iz fr (wI Φ src) (bG g) (bq (wTl Φ ifs) (eS (wE Φ elt))):=rfl
theorem Fh{src}{g}{ifs}{rest}:wCmp Φ fr (.more src g ifs rest)=iz fr (wI Φ src) (bG g) (bq (wTl Φ ifs) (wCl Φ rest)):=rfl
theorem HM{g}{e}:wS Φ (.asg g e)=kY (wE Φ e) (bG g):=rfl
theorem GP{gs}{e}:wS Φ (.asgL gs e)=ou (wE Φ e) (bGs gs):=rfl
theorem HN{i}{j}{a}{b}:wS Φ (.par i j a b)=tR (aE (wE Φ a) (aE (wE Φ b) br)) (cu (cM i) (cu (cM j) jc)):=rfl
theorem HP{o}{i}{e}:wS Φ (.put o i e)=tX (wE Φ e) (wE Φ o) (wE Φ i):=rfl
theorem HQ{i}{op}{e}:wS Φ (.aug i op e)=tY i (opI op) (wE Φ e):=rfl
theorem GQ{o}{i}{op}{e}:wS Φ (.augI o i op e)=og (wE Φ o) (wE Φ i) (wE Φ e) (opI op):=rfl
theorem GS{e}:wS Φ (.drop e)=nZ (wE Φ e):=rfl
theorem HR{e}:wS Φ (.ret e)=tQ (wE Φ e):=rfl
theorem HS{c}{a}{b}:wS Φ (.ite c a b)=sIf (wT Φ c) (wSs Φ a) (wSs Φ b):=rfl
theorem HU{g}{src}{b}:wS Φ (.for g src b)=tS (wI Φ src) (bG g) (wSs Φ b):=rfl
theorem Gi{c}{b}:wS Φ (.while c b)=jX (wT Φ c) (wSs Φ b):=rfl
theorem GT:wS Φ (.pass)=jV:=rfl
theorem HV:wS Φ (.brk)=jW:=rfl
theorem HW:wS Φ (.cnt)=nY:=rfl
theorem HX{e}:wT Φ (.tru e)=tL (wE Φ e):=rfl
theorem HY{op}{a}{b}:wT Φ (.cmp op a b)=gR (wOp (opC op) (wE Φ a) (wE Φ b)):=rfl
theorem HZ{ts}:wT Φ (.and ts)=wAndTs Φ ts:=rfl
theorem Ip{ts}:wT Φ (.or ts)=wOrTs Φ ts:=rfl
theorem I0{t}:wT Φ (.not t)=nQ (wT Φ t):=rfl
theorem Ek:wAndTs Φ (.nil)=λ_ _ _=>False:=rfl
theorem DX{e}:wAndTs Φ (.cons e .nil)=wT Φ e:=rfl
theorem DY{e}{f}{r}:wAndTs Φ (.cons e (.cons f r))=nR (wT Φ e) (wAndTs Φ (.cons f r)):=rfl
theorem Fi:wOrTs Φ (.nil)=λ_ _ _=>False:=rfl
theorem El{e}:wOrTs Φ (.cons e .nil)=wT Φ e:=rfl
theorem Em{e}{f}{r}:wOrTs Φ (.cons e (.cons f r))=tM (wT Φ e) (wOrTs Φ (.cons f r)):=rfl
theorem Fj:wAnds Φ (.nil)=λ_ _ _=>False:=rfl
theorem Eo{e}:wAnds Φ (.cons e .nil)=wE Φ e:=rfl
theorem Ep{e}{f}{r}:wAnds Φ (.cons e (.cons f r))=nS (wE Φ e) (wAnds Φ (.cons f r)):=rfl
theorem FE:wOrs Φ (.nil)=λ_ _ _=>False:=rfl
theorem Fk{e}:wOrs Φ (.cons e .nil)=wE Φ e:=rfl
theorem Fl{e}{f}{r}:wOrs Φ (.cons e (.cons f r))=tN (wE Φ e) (wOrs Φ (.cons f r)):=rfl
theorem Gj{i}:bG (.name i)=cM i:=rfl
theorem GU{gs}:bG (.tup gs)=yw (bGs gs):=rfl
theorem Gk:bGs (.nil)=jc:=rfl
theorem FF{g}{r}:bGs (.cons g r)=cu (bG g) (bGs r):=rfl
theorem Gm:wO Φ (.none)=iu:=rfl
theorem Gn{e}:wO Φ (.some e)=nU (wE Φ e):=rfl
theorem GW:opB (.add)=gT:=rfl
theorem GX:opB (.sub)=oS:=rfl
theorem GY:opB (.mul)=gU:=rfl
theorem Go:opB (.fdiv)=jN:=rfl
theorem GZ:opB (.mod)=oT:=rfl
theorem H0:opB (.pow)=oU:=rfl
theorem I8:opC (.eq)=wEq:=rfl
theorem I9:opC (.ne)=wNe:=rfl
theorem Ia:opC (.lt)=wLt:=rfl
theorem Ib:opC (.gt)=wGt:=rfl
theorem Ic:opC (.ge)=wGe:=rfl
theorem Gp:opC (.ninD)=uc N3:=rfl
theorem H8:opF (.len)=fw:=rfl
theorem H9:opF (.abs)=kU:=rfl
theorem Gq:opF (.max2)=jP:=rfl
theorem Gr:opF (.min2)=jQ:=rfl
theorem Ha:opF (.int)=kW:=rfl
theorem Gs:opF (.list)=nP:=rfl
theorem FG:opF (.tuple)=jR:=rfl
theorem Hb:opF (.sum)=tJ:=rfl
theorem Hc:opF (.all)=pQ:=rfl
theorem FH:opF (.sorts)=kj:=rfl
theorem Fm:opM (.append)=iw:=rfl
theorem Hd:opI (.add)=jY:=rfl
theorem He:opI (.sub)=jZ:=rfl
theorem Hf:opI (.mul)=ka:=rfl
local macro_rules|`(tactic| ac_nf)=>do
 let f:=fun(n:Lean.Name)(s:String)=>(s.splitOn " ").toArray.map fun x=>(⟨(Lean.mkIdent (n++x.toName)).raw⟩:Lean.Term)
 let a:=f `_root_.L2.Mi "tz fu wC wOp wUn br aE wAr gR tE tF tL nQ nR tM nS tN nT wIf iu nU wSl nV wBM cM jc cu yw tP nW nX eS bq dO iz jV yB jW nY nZ tQ sIf kY tR tS jX tX tY og oh ki ot ou Bz Gw Gx Hh Hi Id Ie DW Hj Hk wMul_i Hl Gy Hm Hn Ig Fe Ih BA Gz GA Ho Hq GB GC Hr Hs Ht Hu Ii Ij GD Hv Hw Hx Ik Hy Hz HA HB HC Il HD HE HF HG Im Io GE Gc Gd HH GF GG GH Gf GI GJ HI GK GM Gg Gh FA HJ GN HK GO FB FC Ff Fh HM GP HN HP HQ GQ GS HR HS HU Gi GT HV HW HX HY HZ Ip I0 Ek DX DY Fi El Em Fj Eo Ep FE Fk Fl Gj GU Gk FF Gm Gn GW GX GY Go GZ H0 I8 I9 Ia Ib Ic Gp H8 H9 Gq Gr Ha Gs FG Hb Hc FH Fm Hd He Hf"
 let b1:=a++f .anonymous "RU OA TN TQ Oy O8 Pg UE UG KY Od LF Nj"
 let b2:=a++f .anonymous "MB if_false if_true RU OA TN TQ U9 exists_eq_left' exists_eq_left exists_eq_right exists_and_left exists_and_right D.bl.injEq D.int.injEq D.ref.injEq D.tup.injEq Oy O8 Pg UE UG KY Od decide_eq_true_eq OT and_true true_and LF Nj"
 `(tactic| ((try dsimp only[$[$b1:term],*]);(try simp only[$[$b2:term],*])))
local macro_rules|`(tactic| nofun)=>`(tactic| ((first|rw[bI]|(dsimp only;rw[bI]));ac_nf))
theorem wy{t:Bool}{kvs:List (D×D)}{k d:D}(h:M a=Z (.dct t kvs))(ok:eQ t k=N3)(e:dget kvs k=Z d)(q:Q d M):wIx (.ref a) k M Q:=.inr (.inl ⟨t,kvs,d,h,ok,e,q⟩)
theorem qq{t:Bool}{kvs:List (D×D)}{k v:D}{Q:Mem->Prop}(h:M a=Z (.dct t kvs))(ok:eQ t k=N3)(j:kvs.length<KJ)(q:Q (ag M a (.dct t (fq kvs k v)))):gj (.ref a) k v M Q:=⟨a,rfl,.inr ⟨t,kvs,h,ok,j,q⟩⟩
theorem wz{o':O}:ag (ag M a o) a o'=ag M a o':=by funext b;unfold ag;split<;>rfl
theorem wB(h:M a=Z o):ag M a o=M:=by
 funext b;unfold ag;split
 ·next e=>rw[e,h]
 ·rfl
def Ge(M M':Mem):Prop:=∀a o,M a=Z o->M' a=Z o
theorem Ge.refl:Ge M M:=λ_ _ h=>h
theorem Ge.trans(h:Ge M M')(g:Ge M' M''):Ge M M'':=λ_ _ e=>g _ _ (h _ _ e)
theorem Ge.new(h:M p=Y):Ge M (ag M p o):=λa o' e=>by rw[ar (λz=>by rw[z,h]at e;cases e)];exact e
def Box(b:VQ)(M:Mem):Prop:=∃x y z:Int,M b=Z (.lst [.int x,.int y,.int z])
structure Bx(b:VQ)(M M':Mem):Prop where
 box:Box b M'
 keep:∀a o,a≠b->M a=Z o->M' a=Z o
theorem Bx.refl(h:Box b M):Bx b M M:=⟨h,λ_ _ _ e=>e⟩
theorem Bx.trans(h:Bx b M M')(g:Bx b M' M''):Bx b M M'':=⟨g.box,λa o n e=>g.keep a o n (h.keep a o n e)⟩
theorem Bx.ge(h:Bx b M M')(g:Ge M' M''):Bx b M M'':=⟨by obtain⟨x,y,z,e⟩:=h.box;exact⟨x,y,z,g _ _ e⟩,λa o n e=>g _ _ (h.keep a o n e)⟩
theorem Bx.put{x y:Int}:Bx b M (ag M b (.lst [.int x,.int y,.int z])):=⟨⟨x,y,z,ab⟩,λa o n e=>by rw[ar n];exact e⟩
theorem Bx.of(h:Box b M)(g:Ge M M'):Bx b M M':=(Bx.refl h).ge g
theorem nC{b:BT}{chk:Mem->Prop}{N:NC}(I:List D->aq->Mem->List D->Prop){acc:List D}(h0:I [] ρ M acc)(z:∀l ρ M acc,I l ρ M acc->chk M)(hs:∀l x r ρ M acc,xs=l++x::r->I l ρ M acc->∃ρ',b x ρ=Z ρ'/\∀N':NC,(∀ρ2 M2 j,I (l++[x]) ρ2 M2 j->N' ρ2 M2 j)->tb ρ' M acc N')(B:∀ρ M acc,I xs ρ M acc->N ρ M acc):cw b tb chk N xs ρ M acc:=by
 have g:∀(r l:List D) (ρ:aq) (M:Mem) (acc:List D),xs=l++r->I l ρ M acc->cw b tb chk N r ρ M acc:=by
  intro r
  induction r with
  |nil=>intro l ρ M acc e i;rw[Mv]at e;subst e;exact⟨z _ _ _ _ i,B _ _ _ i⟩
  |cons x r ih=>intro l ρ M acc e i;obtain⟨ρ',F,h⟩:=hs l x r ρ M acc e i;exact⟨z _ _ _ _ i,ρ',F,h _ λρ2 M2 j G=>ih (l++[x]) ρ2 M2 j (by rw[e];simp) G⟩
 exact g xs [] ρ M acc rfl h0
section
theorem zo{i j:Nat}{gs:List D}(F:1<=n)(hi:i<1000)(z:j<1000)(e:T[i]?=Z d)(B:d.takes)(l:xs.length+1=d.np)(r:bT d.N (xs++[.ref a])=ρ)(h:wSs (db (phi T (n-1)) a (rOf (phi T (n-1)) j gs js)) d.body {nx:=λ_ M'=>Q .non M',rt:=Q} ρ M):phi T n (1000+i) (xs++[.ref a,.int (j:Nat),.tup gs,.tup ((js:List Nat).map λi:Nat=>.int i)]) M Q:=by
 obtain⟨k,rfl⟩:∃k,n=k+1:=⟨n-1,∅⟩
 exact .inr (.inl ⟨i,d,xs,a,j,gs,js,rfl,hi,z,e,B,rfl,l,by rw[r];exact h⟩)
theorem ls(h:Φ f ds M Q)(hf:f<5000:=by decide):db Φ a r f ds M Q:=by unfold db;rw[if_neg ∅];exact h
theorem BB(h:r ds M Q):db Φ a r (5000+a) ds M Q:=by unfold db;rw[if_pos rfl];exact h
theorem BC{j:Nat}(B:1<=n)(z:j<3000)(h:phi T (n-1) j ds M Q):phi T n (2000+j) ds M Q:=by
 obtain⟨k,rfl⟩:∃k,n=k+1:=⟨n-1,∅⟩
 exact .inr (.inr ⟨j,rfl,z,h⟩)
end
section
variable{T:List FD}
noncomputable def kC(s:Stmt):FD:=⟨"_law_cell_at",s,["_law_script","_law_k"],2,
 (.cons (.ite (.cmp .lt (.var 1) (.blt .len (.cons (.var 0) .nil))) (.cons (.ret (.ix (.var 0) (.var 1)))
 .nil) .nil)
 (.cons (.ret (.int 0))
 .nil))⟩
theorem zp{α:Type}{xs:List α}(h0:0<=i)(h1:i<xs.length):∃x,atI xs i=Z x/\xs[i.toNat]?=Z x:=by
 have:i.toNat<xs.length:=∅
 refine⟨xs[i.toNat],?_,y3 this⟩;unfold atI ixN;simp[h0,h1,y3 this]
theorem BD(hf:T[f]?=Z (kC s))(z:1<=n){k:Int}(h0:0<=k)(q:∀i,Q (.int i) M):phi T n f [.con (ns.map D.int),.int k] M Q:=by
 refine aA z hf rfl (ρ:=[Z _,Z _]) rfl ?_;unfold kC;nofun
 split
 ·next h=>
  nofun;obtain⟨x,e,j⟩:=zp (xs:=ns.map D.int) h0 h;rw[KL]at j
  cases e3:ns[k.toNat]? with
  |none=>rw[e3]at j;cases j
  |some y=>rw[e3]at j;cases j;exact⟨_,e,q y⟩
 ·nofun;exact q 0
theorem bx(h:-(2^64)<i/\i<2^64):MulOk i j:=.inl h
theorem lu(h:-(2^64)<j/\j<2^64):MulOk i j:=.inr (.inl h)
noncomputable def lw(s:Stmt):FD:=⟨"_law_mixed",s,["_law_number_here","_law_k","_law_once","_law_twice"],2,
 (.cons (.asg (.name 2) (.bin .mod (.bin .mul (.bin .add (.bin .add (.bin .mod (.var 0) (.int 1000000007)) (.bin .mul (.int 7) (.var 1))) (.int 1)) (.int 48271)) (.int 2147483647)))
 (.cons (.asg (.name 3) (.bin .mod (.bin .mul (.var 2) (.bin .add (.bin .add (.bin .mod (.var 2) (.int 1009)) (.var 1)) (.int 3))) (.int 998244353)))
 (.cons (.ret (.bin .fdiv (.bin .mod (.bin .add (.bin .mul (.var 3) (.int 39373)) (.var 2)) (.int 2147483629)) (.int 64)))
 .nil)))⟩
noncomputable def uC(s:Stmt)(fc fm:Nat):FD:=⟨"_law_box",s,["_law_script","_law_k","_law_cell"],2,
 (.cons (.asg (.name 2) (.call fc (.cons (.var 0) (.cons (.var 1) .nil))))
 (.cons (.ret (.lst (.cons (.bin .mul (.blt .abs (.cons (.var 2) .nil)) (.blt .int (.cons (.cmp .ge (.blt .abs (.cons (.var 2) .nil)) (.bin .pow (.int 10) (.int 18))) .nil))) (.cons (.call fm (.cons (.var 2) (.cons (.bin .add (.int 900) (.var 1)) .nil))) (.cons (.int 0) .nil)))))
 .nil))⟩
theorem DZ{fc fm:Nat}{sc:Stmt}(hf:T[f]?=Z (uC s fc fm))(z:T[fc]?=Z (kC sc))(B:∀{x k:Int} {M:Mem} {Q:QD},(∀i,Q (.int i) M)->phi T (n-1) fm [.int x,.int k] M Q)(G:2<=n){k:Int}(h0:0<=k)(q:∀p x y,M p=Y->Q (.ref p) (ag M p (.lst [.int x,.int y,.int 0]))):phi T n f [.con (ns.map D.int),.int k] M Q:=by
 refine aA ∅ hf rfl (ρ:=[Z _,Z _,Y]) rfl ?_
 unfold uC;nofun;refine BD z ∅ h0 λi=>?_
 nofun;refine⟨by decide,by decide,by decide,lu ?_,?_⟩
 ·split<;>lia
 refine B λj=>?_;exact⟨by rw[D0];lia,λp F=>q p _ _ F⟩
noncomputable def qr(s:Stmt)(fm:Nat):FD:=⟨"_law_take",s,["_law_box_here","_law_many","_law_found","_law_reach"],2,
 (.cons (.ite (.cmp .gt (.ix (.var 0) (.int 0)) (.int 0)) (.cons (.asg (.name 2) (.bin .mod (.ix (.var 0) (.int 0)) (.var 1)))
 (.cons (.put (.var 0) (.int 0) (.bin .fdiv (.ix (.var 0) (.int 0)) (.var 1)))
 (.cons (.ret (.var 2))
 .nil))) .nil)
 (.cons (.asg (.tup (.cons (.name 2) (.cons (.name 3) .nil))) (.tup (.cons (.int 0) (.cons (.int 1) .nil))))
 (.cons (.while (.cmp .lt (.var 3) (.var 1)) (.cons (.put (.var 0) (.int 2) (.bin .add (.ix (.var 0) (.int 2)) (.int 1)))
 (.cons (.asg (.name 2) (.bin .add (.bin .mul (.var 2) (.int 33554432)) (.call fm (.cons (.ix (.var 0) (.int 1)) (.cons (.ix (.var 0) (.int 2)) .nil)))))
 (.cons (.asg (.name 3) (.bin .mul (.var 3) (.int 33554432)))
 .nil))))
 (.cons (.ret (.bin .mod (.var 2) (.var 1)))
 .nil))))⟩
def uD(T:List FD)(n fm:Nat):Prop:=∀{x k:Int} {M:Mem} {Q:QD},(∀i,Q (.int i) M)->phi T n fm [.int x,.int k] M Q
theorem BE{fm:Nat}(hf:T[f]?=Z (qr s fm))(J:uD T (n-1) fm)(O:2<=n){m:Int}(L:Box b M)(h1:0<m)(h2:m<=2^120)(q:∀r M',0<=r->r<m->Bx b M M'->Q (.int r) M'):phi T n f [.ref b,.int m] M Q:=by
 refine aA ∅ hf rfl (ρ:=[Z _,Z _,Y,Y]) rfl ?_
 unfold qr;obtain⟨x,y,z,G⟩:=L;nofun;refine aJ G (d:=.int x) rfl ?_;simp only[Fe];ac_nf
 split
 ·next hx=>
  nofun;refine aJ G (d:=.int x) rfl ?_;ac_nf;refine⟨h1,?_⟩;nofun;refine aJ G (d:=.int x) rfl ?_;ac_nf;refine⟨h1,∅,?_⟩
  refine eJ G (j:=0) rfl ?_;nofun;exact q _ _ (QE _ ∅) (PJ _ h1) Bx.put
 ·next hx=>
  nofun;refine⟨by rw[D0];lia,?_⟩
  nofun;refine⟨6,?_⟩;have go:∀(f:Nat) (found reach z:Int) (M':Mem),m<=reach*33554432^f->M' b=Z (.lst [.int x,.int y,.int z])->Bx b M M'->
   aS (gR (wOp wLt (fu 3) (fu 1))) (wSs (phi T (n-1)) (MSs.cons (MS.put (ME.var 0) (ME.int 2) (ME.bin BOp.add ((ME.var 0).ix (ME.int 2)) (ME.int 1)))
    (MSs.cons (MS.asg (MG.name 2) (ME.bin BOp.add (ME.bin BOp.mul (ME.var 2) (ME.int 33554432)) (ME.call fm (MEs.cons ((ME.var 0).ix (ME.int 1)) (MEs.cons ((ME.var 0).ix (ME.int 2)) MEs.nil)))))
      (MSs.cons (MS.asg (MG.name 3) (ME.bin BOp.mul (ME.var 3) (ME.int 33554432))) MSs.nil))))
    {nx:=wSs (phi T (n-1)) (MSs.cons (MS.ret (ME.bin BOp.mod (ME.var 2) (ME.var 1))) MSs.nil) {nx:=λx M'=>Q D.non M',rt:=Q},rt:=Q} (f+1) [Z (.ref b),Z (.int m),Z (.int found),Z (.int reach)] M':=by
   intro f
   induction f with
   |zero=>
    intro found reach z M' hm F B;simp only[aS];ac_nf;rw[if_neg ∅]
    nofun;exact⟨h1,q _ _ (QE _ ∅) (PJ _ h1) B⟩
   |succ f ih=>
    intro found reach z M' hm F B;rw[aS];ac_nf
    split
    ·next U=>
     nofun;refine aJ F (d:=.int z) rfl ?_;ac_nf;refine eJ F (j:=2) rfl ?_;nofun;refine⟨lu (by decide),?_⟩
     refine aJ ab (d:=.int y) rfl ?_;refine aJ ab (d:=.int (z+1)) rfl ?_;refine J λi=>?_;ac_nf;nofun;refine⟨lu (by decide),?_⟩
     exact ih _ _ (z+1) _ (by rw[Int.mul_assoc,<-Int.pow_succ'];exact hm) ab (B.trans Bx.put)
    ·nofun;exact⟨h1,q _ _ (QE _ ∅) (PJ _ h1) B⟩
  exact go 5 0 1 z M ∅ G (Bx.refl ⟨x,y,z,G⟩)
def kD(T:List FD)(n f:Nat):Prop:=∀{b:VQ} {m:Int} {M:Mem} {Q:QD},Box b M->0<m->m<=2^120->(∀r M',0<=r->r<m->Bx b M M'->Q (.int r) M')->phi T n f [.ref b,.int m] M Q
noncomputable def jn(s:Stmt)(ft:Nat):FD:=⟨"_law_number",s,["_law_box_here","_law_way"],1,
 (.cons (.asg (.name 1) (.call ft (.cons (.var 0) (.cons (.int 9) .nil))))
 (.cons (.ite (.cmp .eq (.var 1) (.int 0)) (.cons (.ret (.bin .sub (.call ft (.cons (.var 0) (.cons (.int 2001) .nil))) (.int 1000)))
 .nil) .nil)
 (.cons (.ret (.ix (.lst (.cons (.int 0) (.cons (.int 0) (.cons (.int 0) (.cons (.int 1) (.cons (.int 1) (.cons (.int 1) (.cons (.neg (.int 1)) (.cons (.neg (.int 1)) (.cons (.int 2) .nil)))))))))) (.var 1)))
 .nil)))⟩
theorem wD(hf:T[f]?=Z (jn s ft))(j:kD T (n-1) ft)(U:1<=n)(G:Box b M)(q:∀r M',-1000<=r->r<=1000->Bx b M M'->Q (.int r) M'):phi T n f [.ref b] M Q:=by
 refine aA ∅ hf rfl (ρ:=[Z _,Y]) rfl ?_
 unfold jn;nofun;refine j G (by decide) (by decide) λr F2 h0 h1 B=>?_
 nofun
 split
 ·nofun;refine j B.box (by decide) (by decide) λfv M2 h0 h1 J=>?_
  ac_nf;exact q _ _ ∅ ∅ (B.trans J)
 ·next F=>
  nofun;refine⟨by rw[D0];lia,λp L=>?_⟩
  have F:r=1∨r=2∨r=3∨r=4∨r=5∨r=6∨r=7∨r=8:=by
   have:r≠0:=λz=>F (by rw[z];rfl)
   lia
  have O:=B.ge (Ge.new (o:=.lst [.int 0,.int 0,.int 0,.int 1,.int 1,.int 1,.int (-1),.int (-1),.int 2]) L)
  rcases F with rfl|rfl|rfl|rfl|rfl|rfl|rfl|rfl<;>exact aJ ab rfl (q _ _ (by decide) (by decide) O)
end
section
variable{T:List FD}
def qt(T:List FD)(n f:Nat):Prop:=∀{b:VQ} {M:Mem} {Q:QD},Box b M->(∀r M',-1000<=r->r<=1000->Bx b M M'->Q (.int r) M')->phi T n f [.ref b] M Q
def dl(ns:List Int):Prop:=∀x∈ns,-1000<=x/\x<=1000
theorem dI{lo:Int}:(cO lo n).length=n:=by simp[cO]
theorem ax{α:Type}{xs l r:List α}{x:α}(e:xs=l++x::r):l.length<xs.length:=by rw[e];simp
noncomputable def qv(s:Stmt)(fn:Nat):FD:=⟨"_law_part",s,["_law_box_here","_law_length"],2,
 (.cons (.ret (.blt .tuple (.cons (.comp [Y,(Z 0)] ["_law_k","_law_box_here"] (.last (.rng1 (.var 1)) (.name 0) .nil (.call fn (.cons (.var 1) .nil)))) .nil)))
 .nil)⟩
theorem BG{fn:Nat}(hf:T[f]?=Z (qv s fn))(B:qt T (n-1) fn)(F2:1<=n)(fv:L<=1000)(F:Box b M)(q:∀(ns:List Int) M',ns.length=L->dl ns->Bx b M M'->Q (.tup (ns.map .int)) M'):phi T n f [.ref b,.int L] M Q:=by
 refine aA ∅ hf rfl (ρ:=[Z _,Z _]) rfl ?_
 unfold qv;nofun;refine⟨∅,∅,?_⟩
 refine nC (I:=λl ρ M' acc=>∃(ns:List Int) (x:Option D),acc=ns.map .int/\ns.length=l.length/\dl ns/\Bx b M M'/\ρ=[x,Z (.ref b)]) ⟨[],Y,rfl,rfl,λ_ h=>by simp at h,Bx.refl F,rfl⟩ (λ_ _ _ _ _=>trivial) ?_ ?_
 ·rintro l x r ρ M1 acc e ⟨ns,o,rfl,j,hs,z,rfl⟩;refine⟨_,rfl,λN' G=>?_⟩;ac_nf;refine B z.box λv M2 h1 h2 J=>?_;have:=ax e;rw[dI]at this;refine⟨by rw[q7,j,D0];lia,G _ _ _ ⟨ns++[v],_,by simp,by simp[j],?_,z.trans J,rfl⟩⟩
  intro y O
  rcases KQ.mp O with h|h
  ·exact hs y h
  ·simp at h;subst h;exact⟨h1,h2⟩
 ·rintro ρ M1 acc ⟨ns,o,rfl,j,hs,z,rfl⟩ p U;rw[dI]at j;refine⟨_,ns.map .int,rfl,af ab,q ns _ ∅ hs (z.ge (Ge.new U))⟩
noncomputable abbrev Pr:=List Int×List Int×List Int
noncomputable def prD(p:Pr):D:=.tup [.tup (p.1.map .int),.tup (p.2.1.map .int),.tup (p.2.2.map .int)]
noncomputable def lF(p:Pr):Mr:=.tuple [.tuple (p.1.map .int),.tuple (p.2.1.map .int),.tuple (p.2.2.map .int)]
structure qw(L0 L1 L2:Nat)(p:Pr):Prop where
 l0:p.1.length=L0
 l1:p.2.1.length=L1
 l2:p.2.2.length=L2
 s0:dl p.1
 s1:dl p.2.1
 s2:dl p.2.2
theorem lH{k:Nat}{M:Mem}:∀ns:List Int,ay (rb k M) (ns.map D.int)=Z (ns.map PyData.int)
 |[]=>rfl
 |x::r=>by
  have e:rb k M (.int x)=Z (.int x):=by cases k<;>rfl
  simp[ay,e,lH r]
theorem Fn{k:Nat}(p:Pr):rb (k+2) M (prD p)=Z (lF p):=by simp[rb,prD,lF,ay,lH]
theorem wF{k:Nat}{M:Mem}:∀ps:List Pr,ay (rb (k+2) M) (ps.map prD)=Z (ps.map lF)
 |[]=>rfl
 |p::r=>by simp[ay,Fn,wF r]
theorem qz{k:Nat}(h:M a=Z (.lst ds)):rb (k+1) M (.ref a)=(ay (rb k M) ds).map PR:=by simp only[rb,h]
theorem de{s:MS}{r:MSs}(I:aq->Mem->Prop)(h1:∀R:aq->Mem->Prop,(∀ρ M,I ρ M->R ρ M)->wS Φ s {E with nx:=R} ρ M)(h2:∀ρ M,I ρ M->wSs Φ r E ρ M):wSs Φ (.cons s r) E ρ M:=by rw[bI];exact h1 _ h2
theorem Bx.upd{q:VQ}(h:Bx b M M')(B:M q=Y)(j:q≠b):Bx b M (ag M' q o):=
 ⟨by obtain⟨x,y,z,e⟩:=h.box;exact⟨x,y,z,by rw[ar j.symm];exact e⟩,fun u o' nu eu=>by rw[ar (λz=>by rw[z,B]at eu;cases eu)];exact h.keep u o' nu eu⟩
theorem Bx.none{q:VQ}(h:Bx b M M')(z:M' q=Y)(j:q≠b):M q=Y:=by
 cases e:M q with
 |none=>rfl
 |some o=>rw[h.keep q o j e]at z;cases z
theorem Gu{k:Nat}:(KD k [D.int 0]).flatten=(KD k (0:Int)).map D.int:=by
 induction k with
 |zero=>rfl
 |succ k ih=>rw[LY,LI,ih];rfl
def wG(T:List FD)(n f:Nat):Prop:=∀{b:VQ} {L:Nat} {M:Mem} {Q:QD},L<=1000->Box b M->(∀(ns:List Int) M',ns.length=L->dl ns->Bx b M M'->Q (.tup (ns.map .int)) M')->phi T n f [.ref b,.int L] M Q
end
section
theorem am{α:Type}{f:α->D}{b:BT}{chk:Mem->Prop}{N:NC}(I:List α->aq->Mem->List D->Prop){ys:List α}(hx:xs=ys.map f){acc:List D}(h0:I [] ρ M acc)(z:∀l ρ M acc,I l ρ M acc->chk M)(hs:∀l x r ρ M acc,ys=l++x::r->I l ρ M acc->∃ρ',b (f x) ρ=Z ρ'/\∀N':NC,(∀ρ2 M2 j,I (l++[x]) ρ2 M2 j->N' ρ2 M2 j)->tb ρ' M acc N')(B:∀ρ M acc,I ys ρ M acc->N ρ M acc):cw b tb chk N xs ρ M acc:=by
 subst hx;have g:∀(r l:List α) (ρ:aq) (M:Mem) (acc:List D),ys=l++r->I l ρ M acc->cw b tb chk N (r.map f) ρ M acc:=by
  intro r
  induction r with
  |nil=>intro l ρ M acc e i;rw[Mv]at e;subst e;exact⟨z _ _ _ _ i,B _ _ _ i⟩
  |cons x r ih=>intro l ρ M acc e i;obtain⟨ρ',F,h⟩:=hs l x r ρ M acc e i;exact⟨z _ _ _ _ i,ρ',F,h _ λρ2 M2 j G=>ih (l++[x]) ρ2 M2 j (by rw[e];simp) G⟩
 exact g ys [] ρ M acc rfl h0
theorem bJ{α:Type}{f:α->D}{b:BT}{tb:TSd}{chk:Mem->Prop}(I:List α->aq->Mem->Prop){ys:List α}(hx:xs=ys.map f)(h0:I [] ρ M)(j:∀l ρ M,I l ρ M->chk M)(hs:∀l x r ρ M,ys=l++x::r->I l ρ M->∃ρ',b (f x) ρ=Z ρ'/\∀F:aq->Mem->Prop,(∀ρ2 M2,I (l++[x]) ρ2 M2->F ρ2 M2)->tb {E with nx:=F,ct:=F,bk:=E.nx} ρ' M)(z:∀ρ M,I ys ρ M->E.nx ρ M):ca b tb chk E xs ρ M:=by
 subst hx;have g:∀(r l:List α) (ρ:aq) (M:Mem),ys=l++r->I l ρ M->ca b tb chk E (r.map f) ρ M:=by
  intro r
  induction r with
  |nil=>intro l ρ M e i;rw[Mv]at e;subst e;exact⟨j _ _ _ i,z _ _ i⟩
  |cons x r ih=>intro l ρ M e i;obtain⟨ρ',B,h⟩:=hs l x r ρ M e i;exact⟨j _ _ _ i,ρ',B,h _ λρ2 M2 G=>ih (l++[x]) ρ2 M2 (by rw[e];simp) G⟩
 exact g ys [] ρ M rfl h0
theorem sF{x:D}(h:aM M x=Z ds)(g:Ge M M'):aM M' x=Z ds:=by
 cases x with
 |ref a=>
  simp only[aM]at h⊢
  split at h
  ·next e=>rw[g _ _ e];exact h
  ·cases h
 |_=>exact h
theorem aF:cO 0 n=(KA n).map λi=>D.int (i:Nat):=by simp[cO]
end
section
variable{T:List FD}
def Big(ns:List Int):Prop:=∀x∈ns,-1000000000000<=x/\x<=1000000000000
noncomputable def uE(s:Stmt)(ft:Nat):FD:=⟨"_law_row",s,["_law_box_here","_law_length","_law_most"],2,
 (.cons (.asg (.name 2) (.ix (.lst (.cons (.int 9) (.cons (.int 9) (.cons (.int 9) (.cons (.bin .pow (.int 10) (.int 12)) .nil))))) (.call ft (.cons (.var 0) (.cons (.int 4) .nil)))))
 (.cons (.ret (.comp [Y,(Z 0),(Z 2)] ["_law_k","_law_box_here","_law_most"] (.last (.rng1 (.var 1)) (.name 0) .nil (.bin .sub (.call ft (.cons (.var 1) (.cons (.bin .add (.bin .mul (.int 2) (.var 2)) (.int 1)) .nil))) (.var 2)))))
 .nil))⟩
def Ah(T:List FD)(n f:Nat):Prop:=∀{b:VQ} {L:Nat} {M:Mem} {Q:QD},L<=1000->Box b M->
 (∀(ns:List Int) p M',ns.length=L->Big ns->Bx b M M'->M p=Y->M' p=Z (.lst (ns.map .int))->Q (.ref p) M')->phi T n f [.ref b,.int L] M Q
theorem E1(hf:T[f]?=Z (uE s ft))(F:kD T (n-1) ft)(hn:1<=n):Ah T n f:=by
 intro b L M Q hL fv q;refine aA ∅ hf rfl (ρ:=[Z _,Z _,Y]) rfl ?_
 unfold uE;nofun;refine⟨by decide,by decide,by decide,by rw[D0];lia,λp hp=>?_⟩
 have g0:=Ge.new (o:=.lst [.int 9,.int 9,.int 9,.int (10^(12:Int).toNat)]) hp;have O:p≠b:=λz=>by obtain⟨x,y,w,e⟩:=fv;rw[<-z,hp]at e;cases e
 have x0:=Bx.of fv g0;refine F x0.box (by decide) (by decide) λw M1 w0 w1 j=>?_
 have U:=j.keep p _ O ab;have hw:∃m:Int,0<=m/\m<=1000000000000/\atI [D.int 9,.int 9,.int 9,.int (10^(12:Int).toNat)] w=Z (.int m):=by
  have:w=0∨w=1∨w=2∨w=3:=∅
  rcases this with rfl|rfl|rfl|rfl
  ·exact⟨9,by decide,by decide,rfl⟩
  ·exact⟨9,by decide,by decide,rfl⟩
  ·exact⟨9,by decide,by decide,rfl⟩
  ·exact⟨_,by decide,by decide,rfl⟩
 obtain⟨m,m0,m1,em⟩:=hw;refine aJ U em ?_;have F2:=x0.trans j;nofun;refine⟨∅,∅,?_⟩
 refine nC (I:=λl ρ M' acc=>∃(ns:List Int) (x:Option D),acc=ns.map .int/\ns.length=l.length/\Big ns/\Bx b M M'/\ρ=[x,Z (.ref b),Z (.int m)]) ⟨[],Y,rfl,rfl,λ_ h=>by simp at h,F2,rfl⟩ (λ_ _ _ _ _=>trivial) ?_ ?_
 ·rintro l x r ρ M1 acc e ⟨ns,o,rfl,J,hs,j,rfl⟩;refine⟨_,rfl,λN' hN=>?_⟩;ac_nf;refine⟨bx (by decide),?_⟩
  refine F j.box ∅ ∅ λv M2 h1 h2 x2=>?_
  ac_nf;have:=ax e;rw[dI]at this;refine⟨by rw[q7,J,D0];lia,hN _ _ _ ⟨ns++[v-m],_,by simp,by simp[J],?_,j.trans x2,rfl⟩⟩
  intro y hy
  rcases KQ.mp hy with h|h
  ·exact hs y h
  ·simp at h;subst h;lia
 ·rintro ρ M1 acc ⟨ns,o,rfl,J,hs,j,rfl⟩ p2 B;rw[dI]at J;have G:p2≠b:=λz=>by obtain⟨x,y,w,e⟩:=j.box;rw[<-z,B]at e;cases e
  exact q ns p2 _ ∅ hs (j.ge (Ge.new B)) (j.none B G) ab
end
section
variable{T:List FD}
noncomputable def qA(x:Str)(s:Stmt):FD:=⟨"_law_mixed",s,[x,"_law_k","_law_once","_law_twice"],2,(lw s).body⟩
theorem wH(hf:T[f]?=Z (qA x s))(j:1<=n):uD T n f:=by
 intro x k M Q q;refine aA j hf rfl (ρ:=[Z _,Z _,Y,Y]) rfl ?_;unfold qA lw;nofun;refine⟨by decide,bx (by decide),lu (by decide),by decide,?_⟩
 nofun;refine⟨by decide,bx ?_,by decide,?_⟩
 ·have h1:=QE ((x%1000000007+7*k+1)*48271) (b:=2147483647) (by decide)
  have h2:=PJ ((x%1000000007+7*k+1)*48271) (b:=2147483647) (by decide)
  lia
 nofun;refine⟨lu (by decide),by decide,by decide,by decide,?_⟩
 exact q _
end
section
open L2.Srt
variable{T:List FD}
noncomputable abbrev K3:=Int×Int×Int
noncomputable abbrev Tm:=K3×Int
noncomputable def k3D(k:K3):D:=.tup [.int k.1,.int k.2.1,.int k.2.2]
noncomputable def tmD(t:Tm):D:=.tup [.int t.1.1,.int t.1.2.1,.int t.1.2.2,.int t.2]
noncomputable def kcD(t:Tm):D×D:=(k3D t.1,.int t.2)
noncomputable def k3K(k:K3):Ky:=.tup [.int k.1,.int k.2.1,.int k.2.2]
def klt(a b:K3):Prop:=ltK (k3K a) (k3K b)=N3
theorem lJ{a b:K3}(h:k3D a=k3D b):a=b:=by obtain⟨a1,a2,j⟩:=a;obtain⟨z,B,F⟩:=b;simp[k3D]at h;simp[h]
theorem BH{a b:K3}(h:k3K a=k3K b):a=b:=by obtain⟨a1,a2,j⟩:=a;obtain⟨z,B,F⟩:=b;simp[k3K]at h;simp[h]
noncomputable def cf(ts:List Tm)(k:K3):Int:=((ts.filter λt=>decide (t.1=k)).map (·.2)).sum
theorem fM{k:K3}:cf [] k=0:=rfl
theorem b8{t:Tm}{ts:List Tm}{k:K3}:cf (t::ts) k=(if t.1=k then t.2 else 0)+cf ts k:=by
 unfold cf
 by_cases h:t.1=k
 ·rw[OB (by simpa using h),if_pos h];simp
 ·rw[OC (by simpa using h),if_neg h];simp
theorem i9{a b:List Tm}{k:K3}:cf (a++b) k=cf a k+cf b k:=by
 induction a with
 |nil=>simp[fM]
 |cons t a ih=>rw[RQ,b8,b8,ih];lia
theorem BI{a b:List Tm}(h:a.Perm b){k:K3}:cf a k=cf b k:=by
 induction h with
 |nil=>rfl
 |cons x h ih=>rw[b8,b8,ih]
 |swap x y l=>simp only[b8];lia
 |trans _ _ j z=>rw[j,z]
theorem fN{ts:List Tm}{k:K3}(h:∀t∈ts,t.1≠k):cf ts k=0:=by
 induction ts with
 |nil=>rfl
 |cons t ts ih=>rw[b8,if_neg (h t (by simp)),ih λu j=>h u (by simp[j])];rfl
theorem wJ{ts:List Tm}(j:(ts.map (·.1)).Nodup){t:Tm}(B:t∈ts):cf ts t.1=t.2:=by
 induction ts with
 |nil=>simp at B
 |cons u ts ih=>
  simp only[KY,Mn]at j;rw[b8]
  rcases KH.mp B with z|z
  ·subst z;rw[if_pos rfl,fN λv F e=>j.1 (by rw[<-e];exact L6 F)]
   lia
  ·rw[if_neg λe=>j.1 (by rw[e];exact L6 z),ih j.2 z];lia
theorem qB{ts:List Tm}{B:Int}(z:0<=B)(h:∀t∈ts,-B<=t.2/\t.2<=B){k:K3}:-(ts.length*B)<=cf ts k/\cf ts k<=ts.length*B:=by
 induction ts with
 |nil=>simp[fM]
 |cons t ts ih=>
  obtain⟨h1,h2⟩:=ih λu j=>h u (by simp[j])
  obtain⟨F,G⟩:=h t (by simp)
  rw[b8,LF,Sw,Int.add_mul]
  split<;>lia
noncomputable def dA(L:List Tm)(k:K3)(c:Int):List Tm:=if(L.any λp=>decide (p.1=k))=N3 then L.map λp=>if p.1=k then(p.1,p.2+c)else p else L++[(k,c)]
theorem BJ{L:List Tm}{k:K3}:dget (L.map kcD) (k3D k)=(L.find? λp=>decide (p.1=k)).map λp=>.int p.2:=by
 unfold dget
 induction L with
 |nil=>rfl
 |cons t L ih=>
  by_cases h:t.1=k
  ·rw[KY,Q8 (by simp[kcD,h]),Q8 (by simpa using h)];rfl
  ·rw[KY,OL (by simp only[decide_eq_true_eq];exactλe=>h (lJ e)),OL (by simpa using h),ih]
theorem E2{L:List Tm}{k:K3}:((L.map kcD).any λp=>decide (p.1=k3D k))=L.any λp=>decide (p.1=k):=by
 induction L with
 |nil=>rfl
 |cons t L ih=>
  rw[KY,Oo,Oo,ih];congr 1
  by_cases h:t.1=k
  ·simp[kcD,h]
  ·rw[decide_eq_false h];exact decide_eq_false (λe=>h (lJ e))
theorem BK{L:List Tm}(j:(L.map (·.1)).Nodup){k:K3}:fq (L.map kcD) (k3D k) (.int ((((L.find? λp=>decide (p.1=k)).map (·.2)).getD 0)+c))=(dA L k c).map kcD:=by
 unfold fq dA;rw[E2]
 split
 ·next h=>
  rw[Ni,Ni];apply Mw;intro t B;simp only[Qt]
  by_cases e:t.1=k
  ·rw[if_pos (by rw[<-e];rfl),if_pos e]
   have:L.find? (λp=>decide (p.1=k))=Z t:=by
    clear h
    induction L with
    |nil=>simp at B
    |cons u L ih=>
     simp only[KY,Mn]at j
     rcases KH.mp B with z|z
     ·subst z;rw[Q8 (by simpa using e)]
     ·rw[OL (by simp;intro F;exact j.1 (by rw[F,<-e];exact L6 z))]
      exact ih j.2 z
   rw[this];rfl
  ·rw[if_neg (c:=(kcD t).1=k3D k) (λz=>e (lJ z)),if_neg e]
 ·next h=>
  have:L.find? (λp=>decide (p.1=k))=Y:=by rw[R9];intro x hx;simp only[decide_eq_true_eq];intro e;exact h (Mq.mpr ⟨x,hx,by simpa using e⟩)
  rw[this];simp[kcD]
theorem nD{L:List Tm}{k:K3}:(dA L k c).map (·.1)=if(L.any λp=>decide (p.1=k))=N3 then L.map (·.1)else L.map (·.1)++[k]:=by
 unfold dA
 split
 ·rw[Ni];apply Mw;intro t _;simp only[Qt]
  split<;>rfl
 ·simp
theorem uF{L:List Tm}(j:(L.map (·.1)).Nodup){k:K3}:((dA L k c).map (·.1)).Nodup:=by
 rw[nD]
 split
 ·exact j
 ·next h=>
  refine Nz.mpr ⟨j,by simp,λa B b z e=>?_⟩
  simp at z;subst z;subst e;obtain⟨t,F,e⟩:=KP.mp B;exact h (Mq.mpr ⟨t,F,by simpa using e⟩)
theorem zq{L:List Tm}{k a:K3}(h:a∈(dA L k c).map (·.1)):a∈L.map (·.1)∨a=k:=by
 rw[nD]at h
 split at h
 ·exact .inl h
 ·rcases KQ.mp h with z|z
  ·exact .inl z
  ·exact .inr (by simpa using z)
theorem zr{L:List Tm}{k:K3}:(dA L k c).length<=L.length+1:=by unfold dA;split<;>simp
theorem BM{L:List Tm}(j:(L.map (·.1)).Nodup){k a:K3}:cf (dA L k c) a=cf L a+if k=a then c else 0:=by
 unfold dA
 split
 ·next h=>
  obtain⟨t,B,e⟩:=Mq.mp h;have e:t.1=k:=by simpa using e
  clear h
  induction L with
  |nil=>simp at B
  |cons u L ih=>
   simp only[KY,Mn]at j;rw[KY,b8,b8]
   by_cases eu:u.1=k
   ·have rest:(L.map fun p=>if p.1=k then(p.1,p.2+c)else p)=L:=by
     conv=>rhs;rw[<-List.map_id L]
     apply Mw;intro p F;rw[if_neg λz=>j.1 (by rw[eu,<-z];exact L6 F)];rfl
    rw[rest,if_pos eu];dsimp only
    by_cases ea:u.1=a
    ·rw[if_pos ea,if_pos ea,if_pos (by rw[<-eu];exact ea)];lia
    ·rw[if_neg ea,if_neg ea,if_neg (by rw[<-eu];exact ea)];lia
   ·rcases KH.mp B with z|z
    ·exact absurd (by rw[<-z];exact e) eu
    ·rw[ih j.2 z,if_neg eu];lia
 ·rw[i9,b8,fM];simp
noncomputable def tset(ts:List Tm):List Tm:=ts.foldl (λL t=>dA L t.1 t.2) []
theorem dv{ts:List Tm}{t:Tm}:tset (ts++[t])=dA (tset ts) t.1 t.2:=by simp[tset]
theorem bo{α:Type}{P:List α->Prop}(h0:P [])(h1:∀l x,P l->P (l++[x]))(l:List α):P l:=by
 have:∀r:List α,P r.reverse:=by
  intro r
  induction r with
  |nil=>exact h0
  |cons x r ih=>rw[List.reverse_cons];exact h1 _ _ ih
 have:=this l.reverse;rw[SW]at this;exact this
theorem gD(ts:List Tm):((tset ts).map (·.1)).Nodup:=bo (P:=λts=>((tset ts).map (·.1)).Nodup) (by simp[tset]) (λl x ih=>by rw[dv];exact uF ih) ts
theorem BN(ts:List Tm)(k:K3):cf (tset ts) k=cf ts k:=bo (P:=λts=>cf (tset ts) k=cf ts k) rfl (λl x ih=>by rw[dv,BM (gD l),ih,i9,b8,fM];lia) ts
theorem qC(ts:List Tm):(tset ts).length<=ts.length:=bo (P:=λts=>(tset ts).length<=ts.length) (by simp[tset]) (λl x ih=>by rw[dv];have:=zr (L:=tset l) (k:=x.1) (c:=x.2);simp;lia) ts
theorem zt(ts:List Tm):∀a∈(tset ts).map (·.1),a∈ts.map (·.1):=bo (P:=λts=>∀a∈(tset ts).map (·.1),a∈ts.map (·.1)) (by simp[tset]) (λl x ih a j=>by
 rw[dv]at j;rw[Lf]
 rcases zq j with z|z
 ·exact Lp _ (ih a z)
 ·exact Ld _ (by simp[z])) ts
structure IsTask(ts rs:List Tm):Prop where
 srt:rs.Pairwise λa b=>klt a.1 b.1
 nz:∀r∈rs,r.2≠0
 cf:∀k,cf rs k=cf ts k
 mem:∀r∈rs,r.1∈ts.map (·.1)
 len:rs.length<=ts.length
theorem BO{a:K3}(h:klt a a):False:=by have:=qa _ _ h;unfold klt at h;rw[h]at this;cases this
theorem IsTask.nodup{ts rs:List Tm}(h:IsTask ts rs):(rs.map (·.1)).Nodup:=by rw[LM,Mg];refine h.srt.imp ?_;intro a b j e;rw[e]at j;exact BO j
theorem IsTask.val{ts rs:List Tm}(h:IsTask ts rs){r:Tm}(j:r∈rs):r.2=Mi.cf ts r.1:=by rw[<-h.cf,wJ h.nodup j]
theorem Fo{ts:List Tm}{k:K3}:Mi.cf (ts.filter λt=>!(t.2==0)) k=Mi.cf ts k:=by
 induction ts with
 |nil=>rfl
 |cons t ts ih=>
  rw[b8]
  by_cases h:t.2=0
  ·rw[OC (by simp[h]),ih,h];split<;>lia
  ·rw[OB (by simp[h]),b8,ih]
theorem Ge.upd{j:Mem}{d:VQ}(g:Ge M j)(hd:M d=Y):Ge M (ag j d o):=λa o' e=>by rw[ar (λz=>by rw[z,hd]at e;cases e)];exact g _ _ e
noncomputable def ic(s:Stmt):FD:=⟨"task_of",s,["left","right","many","terms","sums","k","i","j","c"],4,
 (.cons (.asg (.name 4) (.dnew N3))
 (.cons (.for (.tup (.cons (.name 5) (.cons (.name 6) (.cons (.name 7) (.cons (.name 8) .nil))))) (.seq (.var 3)) (.cons (.put (.var 4) (.tup (.cons (.var 5) (.cons (.var 6) (.cons (.var 7) .nil)))) (.bin .add (.dget (.var 4) (.tup (.cons (.var 5) (.cons (.var 6) (.cons (.var 7) .nil)))) (.int 0)) (.var 8)))
 .nil))
 (.cons (.ret (.tup (.cons (.var 0) (.cons (.var 1) (.cons (.var 2) (.cons (.comp [Y,Y,Y,Y] ["k","i","j","c"] (.last (.seq (.sortI (.var 4))) (.tup (.cons (.tup (.cons (.name 0) (.cons (.name 1) (.cons (.name 2) .nil)))) (.cons (.name 3) .nil))) (.cons (.cmp .ne (.var 3) (.int 0)) .nil) (.tup (.cons (.var 0) (.cons (.var 1) (.cons (.var 2) (.cons (.var 3) .nil))))))) .nil))))))
 .nil)))⟩
theorem BP(hf:T[f]?=Z (ic s))(hn:1<=n){L R N x:D}{ts:List Tm}(hx:aM M x=Z (ts.map tmD))(hl:ts.length<=100000)(q:∀(rs:List Tm) p M',IsTask ts rs->Ge M M'->M p=Y->M' p=Z (.lst (rs.map tmD))->Q (.tup [L,R,N,.ref p]) M'):phi T n f [L,R,N,x] M Q:=by
 refine aA ∅ hf rfl (ρ:=[Z _,Z _,Z _,Z _,Y,Y,Y,Y,Y]) rfl ?_
 unfold ic;nofun;intro d hd;nofun;have g0:=Ge.new (o:=.dct N3 []) hd;refine⟨_,sF hx g0,?_⟩;refine bJ (I:=λl ρ M'=>∃fv o6 o7 o8,ρ=[Z L,Z R,Z N,Z x,Z (.ref d),fv,o6,o7,o8]/\Ge M M'/\M' d=Z (.dct N3 ((tset l).map kcD))) rfl ⟨_,_,_,_,rfl,g0,ab⟩ (λl ρ M' g9=>(by obtain⟨_,_,_,_,_,g,_⟩:=g9;exact sF hx g)) ?_ ?_
 ·rintro l t r ρ M1 e ⟨fv,o6,o7,o8,rfl,g1,B⟩;refine⟨_,rfl,λF hF=>?_⟩;have Iq:=ax e;have Iu:=qC l;rw[bI];ac_nf;refine⟨⟨_,_,B⟩,by rw[D0];lia,_,_,B,rfl,?_⟩
  have ek:D.tup [D.int t.1.1,D.int t.1.2.1,D.int t.1.2.2]=k3D t.1:=rfl;rw[ek,BJ];have eg:((Option.map (λp:Tm=>D.int p.2) ((tset l).find? λp=>decide (p.1=t.1))).getD (.int 0))=.int (((((tset l).find? λp=>decide (p.1=t.1)).map (·.2)).getD 0)):=by cases(tset l).find? λp=>decide (p.1=t.1)<;>rfl
  rw[eg];ac_nf;refine⟨by rw[D0];lia,qq B rfl (by rw[q7,D0];lia) ?_⟩
  rw[BK (gD l)];refine hF _ _ ⟨_,_,_,_,rfl,g1.upd hd,?_⟩;rw[ab,dv]
 ·rintro ρ M1 ⟨fv,o6,o7,o8,rfl,g1,B⟩;dsimp only;nofun;refine⟨_,_,B,.tup [.tup [.int,.int,.int],.int],rfl,λkv Ir=>?_,λp ys hp z j=>?_⟩
  ·obtain⟨t,_,rfl⟩:=KP.mp Ir;rfl
  rw[Ni]at z;obtain⟨L',U,p2⟩:=eW (λt:Tm=>kvD (kcD t)) z rfl;have G:(L'.map (·.1)).Nodup:=(U.map (·.1)).nodup_iff.mpr (gD ts);have Is:L'.Pairwise λa b=>klt a.1 b.1:=by
   rw[<-p2]at j;unfold gp at j;rw[Mg]at j;rw[LM,Mg]at G;refine(j.and G).imp ?_;rintro a b ⟨h1,h2⟩;unfold klt
   cases e1:ltK (k3K a.1) (k3K b.1)with
   |true=>rfl
   |false=>
    exfalso
    cases J:ltK (k3K b.1) (k3K a.1)with
    |false=>exact h2 (BH (mZ _ _ e1 J))
    |true=>
     have:ltK (kyD (kvD (kcD b))) (kyD (kvD (kcD a)))=N3:=by
      show ltK (.tup [k3K b.1,.int b.2]) (.tup [k3K a.1,.int a.2])=N3;unfold ltK at J⊢;have J:av (k3K b.1) (k3K a.1)=.lt:=by simpa using J
      simp only[av,cmpKs];rw[J];rfl
     rw[this]at h1;cases h1
  have g2:=g1.trans (Ge.new (o:=.lst ys) hp);subst p2;refine⟨_,af ab,?_⟩;have Iv:L'.length<=ts.length:=by rw[U.length_eq];exact qC ts
  refine am (f:=λt:Tm=>kvD (kcD t)) (I:=λl ρ M' acc=>(∃o0 o1 o2 o3,ρ=[o0,o1,o2,o3])/\M'=ag M1 p (.lst (L'.map λt=>kvD (kcD t)))/\acc=(l.filter λt=>!(t.2==0)).map tmD) rfl ⟨⟨_,_,_,_,rfl⟩,rfl,rfl⟩ (λ_ _ _ _ hI=>by rw[hI.2.1];exact af ab) ?_ ?_
  ·rintro l t r ρ M2 acc e ⟨⟨o0,o1,o2,o3,rfl⟩,rfl,rfl⟩;refine⟨_,rfl,λN' hN=>?_⟩;have Iq:=ax e;have Iw:(l.filter λt=>!(t.2==0)).length<=l.length:=OY _ _;ac_nf;simp only[show(kcD t).2=D.int t.2 from rfl];ac_nf
   by_cases F2:t.2=0
   ·rw[if_neg (by simp[F2])]
    exact hN _ _ _ ⟨⟨_,_,_,_,rfl⟩,rfl,by simp[ON,F2]⟩
   ·rw[if_pos (by simp[F2])]
    refine⟨by rw[D0];lia,by rw[q7,D0];lia,hN _ _ _ ⟨⟨_,_,_,_,rfl⟩,rfl,?_⟩⟩
    simp[ON,F2,tmD]
  ·rintro ρ M2 acc ⟨_,rfl,rfl⟩ p2 hp2;refine⟨by rw[D0];lia,?_⟩
   have O:M p2=Y:=by
    cases hq:M p2 with
    |none=>rfl
    |some o=>rw[g2 _ _ hq]at hp2;cases hp2
   refine q (L'.filter λt=>!(t.2==0)) p2 _ ⟨Is.sublist List.filter_sublist,λr hr=>by simpa using(NB.mp hr).2,λk=>?_,λr hr=>?_,?_⟩ (g2.trans (Ge.new hp2)) O ab
   ·rw[Fo,BI U,BN]
   ·have:=(NB.mp hr).1;exact zt ts _ (L6 (U.mem_iff.mp this))
   ·have:=OY (λt:Tm=>!(t.2==0)) L';lia
end
section
open L2.Srt
variable{T:List FD}
noncomputable def gi(l:List Int)(i:Int):Int:=l.getD i.toNat 0
structure InB(rs:List Tm)(la lb N:Nat):Prop where
 k:∀r∈rs,0<=r.1.1/\r.1.1<N
 i:∀r∈rs,0<=r.1.2.1/\r.1.2.1<la
 j:∀r∈rs,0<=r.1.2.2/\r.1.2.2<lb
 c:∀r∈rs,-(2^64)<r.2/\r.2<2^64
end
section
open L2.Srt
theorem sH{α:Type}{lt:α->α->Prop}(as:∀a b,lt a b->lt b a->False):∀{l m:List α},l.Pairwise lt->m.Pairwise lt->(∀x,x∈l↔x∈m)->l=m
 |[],[],_,_,_=>rfl
 |[],y::m,_,_,h=>by have:=(h y).mpr (by simp);simp at this
 |x::l,[],_,_,h=>by have:=(h x).mp (by simp);simp at this
 |x::l,y::m,B,hm,h=>by
  rw[PH]at B hm;have e:x=y:=by
   rcases KH.mp ((h x).mp (by simp))with z|z
   ·exact z
   ·rcases KH.mp ((h y).mpr (by simp))with w|w
    ·exact w.symm
    ·exact(as _ _ (hm.1 _ z) (B.1 _ w)).elim
  subst e;rw[sH as B.2 hm.2 λz=>?_];constructor
  ·intro j
   rcases KH.mp ((h z).mp (by simp[j]))with w|w
   ·subst w;exact(as _ _ (B.1 _ j) (B.1 _ j)).elim
   ·exact w
  ·intro j
   rcases KH.mp ((h z).mpr (by simp[j]))with w|w
   ·subst w;exact(as _ _ (hm.1 _ j) (hm.1 _ j)).elim
   ·exact w
end
section
open L2.Srt
variable{T:List FD}
noncomputable def ao(n:Nat)(F:Nat->Int):Int:=((KA n).map F).sum
theorem au(h:∀i,i<n->F i=G i):ao n F=ao n G:=by unfold ao;rw[Mw λi hi=>h i (LC.mp hi)]
theorem rsum_succ:ao (n+1) F=ao n F+F n:=by unfold ao;rw[Sx];simp
theorem wK:ao (n+1) F=F 0+ao n λi=>F (i+1):=by unfold ao;rw[List.range_succ_eq_map,KY,Tu,Ni];rfl
theorem gF:ao n (λi=>F i+G i)=ao n F+ao n G:=by
 induction n with
 |zero=>rfl
 |succ n ih=>rw[rsum_succ,rsum_succ,rsum_succ,ih];lia
theorem eK{t:Int}:ao n (λi=>t*F i)=t*ao n F:=by
 induction n with
 |zero=>simp[ao]
 |succ n ih=>rw[rsum_succ,rsum_succ,ih,Int.mul_add]
theorem bu(h:∀i,i<n->F i=0):ao n F=0:=by
 induction n with
 |zero=>rfl
 |succ n ih=>rw[rsum_succ,ih λi hi=>h i ∅,h n ∅];rfl
end
section
open L2.Srt
variable{T:List FD}
theorem nE{l:List Nat}{i:Nat}{G:Nat->List Tm}:(l++[i]).flatMap G=l.flatMap G++G i:=by simp
theorem qD{l:List Nat}{g:Nat->Nat->Tm}:(l.flatMap λi=>(KA m).map (g i)).length=l.length*m:=by
 induction l with
 |nil=>simp
 |cons i l ih=>rw[Q9,D1,ih,LF,Oc];simp;lia
end
section
open L2.Srt
variable{T:List FD}
theorem BQ{L2:Nat}{ts rs:List Tm}(h:IsTask ts rs)(z:∀t∈ts,(0<=t.1.1/\t.1.1<L2)/\(0<=t.1.2.1/\t.1.2.1<L0)/\(0<=t.1.2.2/\t.1.2.2<L1) /\ -1000000000<=t.2/\t.2<=1000000000)(G:ts.length<=1000000):InB rs L0 L1 L2:=by
 have key:∀r∈rs,∃t∈ts,t.1=r.1:=λr j=>by obtain⟨t,h1,h2⟩:=KP.mp (h.mem r j);exact⟨t,h1,h2⟩
 refine⟨λr j=>?_,λr j=>?_,λr j=>?_,λr j=>?_⟩
 ·obtain⟨t,h1,h2⟩:=key r j;rw[<-h2];exact(z t h1).1
 ·obtain⟨t,h1,h2⟩:=key r j;rw[<-h2];exact(z t h1).2.1
 ·obtain⟨t,h1,h2⟩:=key r j;rw[<-h2];exact(z t h1).2.2.1
 ·rw[h.val j];obtain⟨h1,h2⟩:=qB (ts:=ts) (B:=1000000000) ∅ (λt F=>(z t F).2.2.2) (k:=r.1)
  have:(ts.length:Int)*1000000000<=1000000*1000000000:=Int.mul_le_mul_of_nonneg_right ∅ ∅
  lia
noncomputable def cT(m p a b c:Nat):Tm:=(((a*p+c:Nat),((a*m+b:Nat):Int),((b*p+c:Nat):Int)),1)
noncomputable def eM(m p a:Nat):List Tm:=(KA m).flatMap λb=>(KA p).map (cT m p a b)
noncomputable def bp(n m p:Nat):List Tm:=(KA n).flatMap (eM m p)
theorem zu{p a:Nat}:(eM m p a).length=m*p:=by unfold eM;rw[qD,LO]
theorem fO{p:Nat}{l:List Nat}:(l.flatMap (eM m p)).length=l.length*(m*p):=by
 induction l with
 |nil=>simp
 |cons i l ih=>rw[Q9,D1,ih,LF,zu,Oc];lia
theorem iM{p:Nat}{t:Tm}(h:t∈bp n m p):∃a b c,a<n/\b<m/\c<p/\t=cT m p a b c:=by obtain⟨a,j,h⟩:=N7.mp h;obtain⟨b,z,h⟩:=N7.mp h;obtain⟨c,B,rfl⟩:=KP.mp h;exact⟨a,b,c,LC.mp j,LC.mp z,LC.mp B,rfl⟩
theorem qE{a b:Nat}(j:a<n)(z:b<m):a*m+b<n*m:=by have:(a+1)*m<=n*m:=N8 m j;rw[Oc]at this;lia
noncomputable def iN(s:Stmt)(ft:Nat):FD:=⟨"table_task",s,["n","m","p","terms"],3,
 (.cons (.asg (.name 3) (.comp [Y,Y,Y,(Z 2),(Z 1)] ["a","b","c","p","m"] (.more (.rng1 (.var 0)) (.name 0) .nil (.more (.rng1 (.var 4)) (.name 1) .nil (.last (.rng1 (.var 3)) (.name 2) .nil (.tup (.cons (.bin .add (.bin .mul (.var 0) (.var 3)) (.var 2)) (.cons (.bin .add (.bin .mul (.var 0) (.var 4)) (.var 1)) (.cons (.bin .add (.bin .mul (.var 1) (.var 3)) (.var 2)) (.cons (.int 1) .nil))))))))))
 (.cons (.ret (.call ft (.cons (.bin .mul (.var 0) (.var 1)) (.cons (.bin .mul (.var 1) (.var 2)) (.cons (.bin .mul (.var 0) (.var 2)) (.cons (.var 3) .nil))))))
 .nil))⟩
theorem zw{s':Stmt}(hf:T[f]?=Z (iN s ft))(ht:T[ft]?=Z (ic s')){k:Nat}(hk:2<=k){p:Nat}(hn:n<=40)(hm:m<=40)(F2:p<=40)(q:∀(rs:List Tm) a M',IsTask (bp n m p) rs->Ge M M'->M a=Y->M' a=Z (.lst (rs.map tmD))->Q (.tup [.int ((n*m:Nat):Int),.int ((m*p:Nat):Int),.int ((n*p:Nat):Int),.ref a]) M'):phi T k f [.int n,.int m,.int p] M Q:=by
 refine aA ∅ hf rfl (ρ:=[Z _,Z _,Z _,Y]) rfl ?_
 unfold iN;have B:m*p<=40*40:=LS hm F2;nofun;refine⟨∅,∅,?_⟩
 refine am (f:=λi=>D.int (i:Nat)) (I:=λl ρ M' acc=>(∃o0 z j,ρ=[o0,z,j,Z (.int p),Z (.int m)])/\M'=M/\acc=(l.flatMap (eM m p)).map tmD) aF ⟨⟨_,_,_,rfl⟩,rfl,rfl⟩ (λ_ _ _ _ _=>trivial) ?_ ?_
 ·rintro l a r ρ M1 acc e ⟨⟨o0,z,j,rfl⟩,rfl,rfl⟩;refine⟨_,rfl,fun N' hN=>?_⟩;have L:=ax e;rw[LO]at L;have ha:a<n:=by
   have:a∈KA (n:Int).toNat:=by rw[e];simp
   have:=LC.mp this;lia
  ac_nf;refine⟨∅,∅,?_⟩
  refine am (f:=λi=>D.int (i:Nat)) (I:=λl' ρ M' acc=>(∃z j,ρ=[Z (.int a),z,j,Z (.int p),Z (.int m)])/\M'=M1/\acc=((l.flatMap (eM m p))++l'.flatMap λb=>(KA p).map (cT m p a b)).map tmD) aF ⟨⟨_,_,rfl⟩,rfl,by simp⟩ (λ_ _ _ _ _=>trivial) ?_ ?_
  ·rintro l' b r' ρ M2 acc e' ⟨⟨z,j,rfl⟩,rfl,rfl⟩;refine⟨_,rfl,fun N2 O=>?_⟩;have F:=ax e';rw[LO]at F;have hb:b<m:=by
    have:b∈KA (m:Int).toNat:=by rw[e'];simp
    have:=LC.mp this;lia
   ac_nf;refine⟨∅,∅,?_⟩
   refine am (f:=λi=>D.int (i:Nat)) (I:=λfv ρ M' acc=>(∃j,ρ=[Z (.int a),Z (.int b),j,Z (.int p),Z (.int m)])/\M'=M2/\acc=(((l.flatMap (eM m p))++l'.flatMap λb=>(KA p).map (cT m p a b))++fv.map (cT m p a b)).map tmD) aF ⟨⟨_,rfl⟩,rfl,by simp⟩ (λ_ _ _ _ _=>trivial) ?_ ?_
   ·rintro fv c r3 ρ M3 acc e3 ⟨⟨j,rfl⟩,rfl,rfl⟩;refine⟨_,rfl,λN3 U=>?_⟩;have G:=ax e3;rw[LO]at G;have h1:l.length*(m*p)<=40*(40*40):=LS ∅ B
    have h2:l'.length*p<=40*40:=LS ∅ F2
    ac_nf;refine⟨bx ∅,bx ∅,bx ∅,by rw[D0];lia,?_,U _ _ _ ⟨⟨_,rfl⟩,rfl,?_⟩⟩
    ·rw[q7,D1,D1,fO,qD,q7,D0];lia
    ·simp[tmD,cT]
   ·rintro ρ M3 acc ⟨⟨j,rfl⟩,rfl,rfl⟩;refine O _ _ _ ⟨⟨_,_,rfl⟩,rfl,?_⟩;rw[nE];simp
  ·rintro ρ M2 acc ⟨⟨z,j,rfl⟩,rfl,rfl⟩;refine hN _ _ _ ⟨⟨_,_,_,rfl⟩,rfl,?_⟩;rw[nE];simp[eM]
 ·rintro ρ M1 acc ⟨_,rfl,rfl⟩ pa hpa;have eL:((KA (n:Int).toNat).flatMap (eM m p))=bp n m p:=by rw[KO];rfl
  rw[eL];have hl:(bp n m p).length<=40*(40*40):=by unfold bp;rw[fO,LO];exact LS hn B
  nofun;refine⟨bx ∅,bx ∅,bx ∅,?_⟩
  refine BP ht ∅ (af ab) ∅ λrs p2 M2 h1 g J e2=>?_
  have g1:=Ge.new (o:=.lst ((bp n m p).map tmD)) hpa;rw[<-Pw,<-Pw,<-Pw];refine q rs p2 M2 h1 (g1.trans g) ?_ e2
  cases hq:M1 p2 with
  |none=>rfl
  |some o=>rw[g1 _ _ hq]at J;cases J
end
section
open L2.Srt
variable{T:List FD}
theorem wL{F:Nat->Nat->Int}:ao n (λi=>ao m λj=>F i j)=ao m λj=>ao n λi=>F i j:=by
 induction n with
 |zero=>exact(bu λ_ _=>rfl).symm
 |succ n ih=>rw[rsum_succ,ih,<-gF];exact au λj _=>rsum_succ.symm
theorem eY{k:Nat}(h:k<n):ao n (λi=>if k=i then F i else 0)=F k:=by
 induction n with
 |zero=>lia
 |succ n ih=>
  rw[rsum_succ]
  by_cases e:k=n
  ·subst e;rw[if_pos rfl,bu λi hi=>if_neg ∅];lia
  ·rw[if_neg e,ih ∅];lia
theorem wM{t:Int}:ao n (λi=>F i*t)=ao n F*t:=by rw[Int.mul_comm,<-eK];exact au λi _=>Int.mul_comm _ _
theorem zx{C:Nat}(h:∀i,i<n->(F i).natAbs<=C):(ao n F).natAbs<=n*C:=by
 induction n with
 |zero=>simp[ao]
 |succ n ih=>rw[rsum_succ,Oc];exact Mu (Int.natAbs_add_le _ _) (Nat.add_le_add (ih λi hi=>h i ∅) (h n ∅))
end
section
open L2.Srt
theorem cF{a b:Nat}(j:b<m):(a*m+b) / m=a:=by rw[Nt,Px ∅,Ph j,Nat.add_zero]
theorem wN{p:Nat}:((bp n m p).map (·.1)).Nodup:=by
 unfold bp eM;rw[Qq,LM,Qh];refine⟨λa _=>?_,?_⟩
 ·rw[Qq,Qh];refine⟨λb _=>?_,?_⟩
  ·rw[Ni,Mg];refine(LM.mp RV).imp ?_;intro c c' G e;have h:=congrArg (λk:K3=>k.2.2) e;simp only[Qt,cT]at h;lia
  ·refine(LM.mp RV).imp ?_;intro b b' B x hx y j e;rw[Ni]at hx j;obtain⟨u,_,rfl⟩:=KP.mp hx;obtain⟨v,_,rfl⟩:=KP.mp j;have h:=congrArg (λk:K3=>k.2.1) e;simp only[Qt,cT]at h;lia
 ·refine(LM.mp RV).imp ?_;intro a a' F x hx y j e;rw[Qq]at hx j;obtain⟨b,B,hx⟩:=N7.mp hx;obtain⟨b',z,j⟩:=N7.mp j;rw[Ni]at hx j;obtain⟨u,_,rfl⟩:=KP.mp hx;obtain⟨v,_,rfl⟩:=KP.mp j;have h:=congrArg (λk:K3=>k.2.1) e;simp only[Qt,cT]at h;have h2:a*m+b=a'*m+b':=by lia
  apply F;rw[<-cF (a:=a) (LC.mp B),h2,cF (LC.mp z)]
noncomputable def fB(a:List Int)(m i:Nat):List Int:=(KA m).map λt=>gi a ((i*m+t:Nat):Int)
theorem E3{a:List Int}{i:Nat}(h:i<a.length):a[i]?=Z (gi a (i:Nat)):=by unfold gi;rw[I7,KO,y3 h];rfl
theorem BS{a:List Int}{i:Nat}(j:a.length=n*m)(hi:i<n):cB (a.map D.int) (Z ((i*m:Nat):Int)) (Z ((i*m+m:Nat):Int))=(fB a m i).map D.int:=by
 have hle:i*m+m<=n*m:=by rw[<-Oc];exact N8 m hi
 unfold cB;simp only[HT.sIx];rw[if_neg ∅,if_neg ∅,q7,KO,KO,MW ∅,MW ∅]
 unfold fB;apply MA;intro t
 by_cases h:t<m
 ·rw[Ol ∅,OM,KL,E3 ∅,KL,KL,Mm h];rfl
 ·rw[Lx (by simp;lia),Lx (by simp;lia)]
end
section
open L2.Srt
variable{T:List FD}
noncomputable def idx(l:List Int):List (Int×Int):=l.mapIdx λi x=>((i:Nat),x)
noncomputable def nz(l:List Int):List (Int×Int):=(idx l).filter λq=>!(q.2==0)
noncomputable def pD(q:Int×Int):D:=.tup [.int q.1,.int q.2]
theorem BU:(idx l).length=l.length:=by simp[idx]
theorem zy:gf (l.map .int)=(idx l).map pD:=by
 unfold gf idx;apply MA;intro j;simp only[SV,KL]
 cases l[j]?<;>rfl
end
section
open L2.Srt
noncomputable def S1(zs:List (Int×Int))(k:Int):Int:=(zs.map λz=>if z.1=k then z.2 else 0).sum
theorem dR{z:Int×Int}{k:Int}:S1 (z::zs) k=(if z.1=k then z.2 else 0)+S1 zs k:=by simp[S1]
noncomputable def gz(l:List Int)(i:Int):Int:=if i<0 then 0 else l.getD i.toNat 0
theorem wP(h:i<0):gz l i=0:=if_pos h
theorem kE:gz [] i=0:=by unfold gz;split<;>simp
theorem dS{x:Int}:gz (x::l) i=if i=0 then x else gz l (i-1):=by
 unfold gz
 by_cases h:i<0
 ·rw[if_pos h,if_neg ∅,if_pos ∅]
 ·rw[if_neg h]
  by_cases h0:i=0
  ·subst h0;simp
  ·rw[if_neg h0,if_neg ∅]
   obtain⟨n,rfl⟩:∃n:Nat,i=((n+1:Nat):Int):=⟨(i-1).toNat,∅⟩
   rw[show(((n+1:Nat):Int)-1).toNat=n by lia,KO]
   simp
theorem eZ{a b:List Int}:∀{i:Int},gz (a++b) i=if i<a.length then gz a i else gz b (i-a.length):=by
 induction a with
 |nil=>
  intro i
  by_cases h:i<0
  ·rw[if_pos (by simpa using h),Pu,wP h,wP h]
  ·rw[if_neg (by simpa using h)];simp
 |cons x a ih=>
  intro i;rw[RQ,dS,dS,ih,LF]
  by_cases h0:i=0
  ·subst h0;rw[if_pos rfl,if_pos rfl,if_pos ∅]
  ·rw[if_neg h0,if_neg h0]
   by_cases h:i<((a.length+1:Nat):Int)
   ·rw[if_pos ∅,if_pos h]
   ·rw[if_neg ∅,if_neg h]
    congr 1;lia
theorem wQ{x:Int}:∀{b:List Int} {i:Int},gz (b.map (x * ·)) i=x*gz b i
 |[],i=>by rw[Od,kE];simp
 |y::b,i=>by rw[KY,dS,dS,wQ];split<;>rfl
theorem eN(h:gz l i≠0):0<=i/\i<l.length:=by
 unfold gz at h
 by_cases hi:i<0
 ·rw[if_pos hi]at h;exact absurd rfl h
 ·rw[if_neg hi]at h;refine⟨∅,?_⟩
  by_cases hl:i.toNat<l.length
  ·lia
  ·rw[I7,Lx ∅]at h;exact absurd rfl h
theorem nF{a b:List (Int×Int)}{k:Int}:S1 (a++b) k=S1 a k+S1 b k:=by simp[S1]
theorem uG{k:Int}:∀zs:List (Int×Int),S1 (zs.filter λq=>!(q.2==0)) k=S1 zs k
 |[]=>rfl
 |z::zs=>by
  rw[dR]
  by_cases h:z.2=0
  ·rw[OC (by simp[h]),uG zs,h];simp
  ·rw[OB (by simp[h]),dR,uG zs]
theorem E4(l:List Int)(k:Int):S1 (idx l) k=gz l k:=bo (P:=λl=>S1 (idx l) k=gz l k) (by rw[kE];rfl) (λl x ih=>by
 have e:idx (l++[x])=idx l++[(((l.length:Nat):Int),x)]:=by simp[idx,TR]
 rw[e,nF,ih,eZ,dR];simp only[S1,Od,List.sum_nil]
 by_cases h:k<l.length
 ·rw[if_pos h,if_neg ∅];lia
 ·rw[if_neg h,dS,kE];have z:gz l k=0:=by
   cases Decidable.em (gz l k=0)with
   |inl h=>exact h
   |inr h'=>exact absurd (eN h').2 h
  rw[z]
  by_cases e:(l.length:Int)=k
  ·rw[if_pos e,if_pos ∅];lia
  ·rw[if_neg e,if_neg ∅];rfl) l
noncomputable def Tn(ps:List Pr)(k i j:Int):Int:=(ps.map λp=>gz p.1 i*gz p.2.1 j*gz p.2.2 k).sum
theorem ie{a b:List Pr}{k:Int}:Tn (a++b) k i j=Tn a k i j+Tn b k i j:=by simp[Tn]
theorem df{p:Pr}{a:List Pr}{k:Int}:Tn (p::a) k i j=gz p.1 i*gz p.2.1 j*gz p.2.2 k+Tn a k i j:=by simp[Tn]
theorem wR{L0 L1 L2:Nat}{k i j:Int}:∀{us:List Pr},(∀u∈us,u.1.length=L0/\u.2.1.length=L1/\u.2.2.length=L2)->Tn us k i j≠0->(0<=k/\k<L2)/\(0<=i/\i<L0)/\(0<=j/\j<L1)
 |[],_,h=>absurd (by simp[Tn]) h
 |u::us,B,h=>by
  obtain⟨J,L,O⟩:=B u (by simp)
  rw[df]at h
  by_cases z:gz u.1 i*gz u.2.1 j*gz u.2.2 k=0
  ·rw[z,Int.zero_add]at h;exact wR (λv F=>B v (by simp[F])) h
  ·have a1:gz u.1 i≠0:=λe=>z (by rw[e];simp)
   have a2:gz u.2.1 j≠0:=λe=>z (by rw[e];simp)
   have G:gz u.2.2 k≠0:=λe=>z (by rw[e];simp)
   have:=eN a1;have:=eN a2;have:=eN G;lia
end
section
open L2.Srt
variable{T:List FD}
noncomputable def one(L:Nat)(k:Int):List Int:=(KA L).map λh=>if((h:Nat):Int)=k then 1 else 0
theorem sJ{k:Int}:(one L k).length=L:=by simp[one]
theorem wU{k:Int}(h0:0<=k)(h1:k<L):gz (one L k) i=if i=k then 1 else 0:=by
 unfold gz one
 by_cases hi:i<0
 ·rw[if_pos hi,if_neg ∅]
 ·rw[if_neg hi,I7,KL]
  by_cases hl:i.toNat<L
  ·rw[Mm hl];simp only[O8,Option.getD_some]
   by_cases e:i=k
   ·rw[if_pos ∅,if_pos e]
   ·rw[if_neg ∅,if_neg e]
  ·rw[Lx (by simp;lia),if_neg ∅];rfl
end
section
open L2.Srt
noncomputable def tm(p:Pr)(k i j:Int):Int:=gz p.1 i*gz p.2.1 j*gz p.2.2 k
theorem Ai{p:Pr}{a:List Pr}{k:Int}:Tn (p::a) k i j=tm p k i j+Tn a k i j:=df
theorem E5{ps:List Pr}{p:Pr}{k:Int}:Tn (ps.take n++p::ps.drop n) k i j=Tn ps k i j+tm p k i j:=by
 have e:Tn ps k i j=Tn (ps.take n) k i j+Tn (ps.drop n) k i j:=by rw[<-ie,Mx]
 rw[ie,Ai,e];lia
noncomputable def seven:List Pr:=[([1,0,0,1],[1,0,0,1],[1,0,0,1]),([0,0,1,1],[1,0,0,0],[0,0,1,-1]),([1,0,0,0],[0,1,0,-1],[0,1,0,1]),([0,0,0,1],[-1,0,1,0],[1,0,1,0]),([1,1,0,0],[0,0,0,1],[-1,1,0,0]),([-1,0,1,0],[1,1,0,0],[0,0,0,1]),([0,1,0,-1],[0,0,1,1],[1,0,0,0])]
theorem zz:∀a b c:Fin 4,Tn seven (a.val:Nat) (b.val:Nat) (c.val:Nat)=cf (bp 2 2 2) (((a.val:Nat):Int),((b.val:Nat):Int),((c.val:Nat):Int)):=by decide +kernel
theorem zA{k:Int}:Tn seven k i j=cf (bp 2 2 2) (k,i,j):=by
 by_cases h:(0<=k/\k<4)/\(0<=i/\i<4)/\(0<=j/\j<4)
 ·have:=zz ⟨k.toNat,∅⟩ ⟨i.toNat,∅⟩ ⟨j.toNat,∅⟩
  dsimp only at this;rw[MR h.1.1,MR h.2.1.1,MR h.2.2.1]at this;exact this
 ·have z:Tn seven k i j=0:=by
   cases Decidable.em (Tn seven k i j=0)with
   |inl e=>exact e
   |inr e=>exact absurd (wR (L0:=4) (L1:=4) (L2:=4) (us:=seven) (by decide) e) h
  have B:cf (bp 2 2 2) (k,i,j)=0:=fN λt F e=>by obtain⟨a,b,c,O,U,F2,rfl⟩:=iM F;unfold cT at e;have G:=congrArg (λq:K3=>q.1) e;have J:=congrArg (λq:K3=>q.2.1) e;have L:=congrArg (λq:K3=>q.2.2) e;dsimp only at G J L;lia
  rw[z,B]
end
section
open L2.Srt
theorem dU{a b:Nat}(j:b<m):(a*m+b)%m=b:=by rw[Nat.add_comm,Nat.add_mul_mod_self_right,Nat.mod_eq_of_lt j]
theorem E6{p x x' y y' z z':Nat}(hx:x<n)(F2:x'<n)(L:y<m)(fv:y'<m)(O:z<p)(j:z'<p):cf (bp n m p) (((x*p+z:Nat):Int),((x'*m+y:Nat):Int),((y'*p+z':Nat):Int))=if x=x'/\y=y'/\z=z' then 1 else 0:=by
 by_cases h:x=x'/\y=y'/\z=z'
 ·obtain⟨rfl,rfl,rfl⟩:=h;rw[if_pos ⟨rfl,rfl,rfl⟩];have hm:cT m p x y z∈bp n m p:=by
   unfold bp eM;exact N7.mpr ⟨x,LC.mpr hx,N7.mpr ⟨y,LC.mpr L,L6 (LC.mpr O)⟩⟩
  exact wJ wN hm
 ·rw[if_neg h];refine fN λt ht e=>h ?_;obtain⟨a,b,c,ha,U,J,rfl⟩:=iM ht;unfold cT at e;have B:=congrArg (λq:K3=>q.1) e;have F:=congrArg (λq:K3=>q.2.1) e;have G:=congrArg (λq:K3=>q.2.2) e;dsimp only at B F G;have B:=Vr.inj B;have F:=Vr.inj F;have G:=Vr.inj G;have a1:a=x:=by rw[<-cF (a:=a) J,B,cF O]
  have a2:c=z:=by rw[<-dU (a:=a) J,B,dU O]
  have a3:a=x':=by rw[<-cF (a:=a) U,F,cF L]
  have a4:b=y:=by rw[<-dU (a:=a) U,F,dU L]
  have a5:b=y':=by rw[<-cF (a:=b) J,G,cF j]
  have a6:c=z':=by rw[<-dU (a:=b) J,G,dU j]
  lia
end
section
open L2.Srt
variable{T:List FD}
theorem zB{i:Nat}{v:Int}:((KA L).map F).set i v=(KA L).map λk=>if k=i then v else F k:=by
 apply MA;intro k;rw[List.getElem?_set]
 by_cases h:i=k
 ·subst h;rw[if_pos rfl]
  by_cases j:i<L
  ·rw[if_pos (by simpa using j),KL,Mm j];simp
  ·rw[if_neg (by simpa using j),Lx (by simp;lia)]
 ·rw[if_neg h,KL,KL]
  by_cases j:k<L
  ·rw[Mm j];simp[Ne.symm h]
  ·rw[Lx (by simp;lia)];rfl
theorem Fp:(KD L [D.int 0]).flatten=((KA L).map λ_=>(0:Int)).map D.int:=by
 rw[Ni];have:(KA L).map (D.int∘λ_=>(0:Int))=KD L (D.int 0):=by rw[show(D.int∘λ_:Nat=>(0:Int))=λ_=>D.int 0 from rfl,List.map_const',LO]
 rw[this,List.flatten_replicate_singleton]
theorem Fq{i:Nat}(h:i<L):ixN L (i:Nat)=Z i:=by unfold ixN;rw[if_pos ∅,if_pos ∅,KO]
end
section
noncomputable abbrev K2:=Int×Int
noncomputable def k2D(k:K2):D:=.tup [.int k.1,.int k.2]
noncomputable def raD(r:K2×VQ):D×D:=(k2D r.1,.ref r.2)
theorem sK{a b:K2}(h:k2D a=k2D b):a=b:=by obtain⟨a1,a2⟩:=a;obtain⟨j,z⟩:=b;simp only[k2D,D.tup.injEq,OT,D.int.injEq,and_true]at h;rw[h.1,h.2]
theorem eO{α β:Type}{f:α->β}:∀{l:List α},(l.map f).Nodup->∀{x y:α},x∈l->y∈l->f x=f y->x=y
 |[],_,x,_,hx,_,_=>by cases hx
 |z::l,h,x,y,hx,F,e=>by
  rw[KY,Mn]at h
  rcases KH.mp hx with rfl|j<;>rcases KH.mp F with rfl|B
  ·rfl
  ·exact absurd (KP.mpr ⟨y,B,e.symm⟩) h.1
  ·exact absurd (KP.mpr ⟨x,j,e⟩) h.1
  ·exact eO h.2 j B e
structure RI(d:VQ)(N:Nat)(M:Mem)(R:List (K2×VQ))(g:K2->List Int):Prop where
 dct:M d=Z (.dct N3 (R.map raD))
 keys:(R.map (·.1)).Nodup
 ads:(R.map (·.2)).Nodup
 nd:∀r∈R,r.2≠d
 row:∀r∈R,M r.2=Z (.lst ((g r.1).map .int))
 ln:∀k,(g k).length=N
 out:∀k,k∉R.map (·.1)->g k=KD N 0
structure Run(d:VQ)(R:List (K2×VQ))(M:Mem)(R':List (K2×VQ))(M':Mem):Prop where
 ex:∀r∈R',r∈R∨M r.2=Y
 kp:∀b o,b≠d->b∉R.map (·.2)->M b=Z o->M' b=Z o
theorem Run.refl{d:VQ}{R:List (K2×VQ)}:Run d R M R M:=⟨λr h=>.inl h,λ_ _ _ _ e=>e⟩
theorem lK{k:K2}:∀R:List (K2×VQ),dget (R.map raD) (k2D k)=(R.find? λr=>decide (r.1=k)).map λr=>.ref r.2
 |[]=>rfl
 |r::R=>by
  have ih:=lK (k:=k) R;unfold dget at ih⊢;rw[KY,MM,MM]
  by_cases h:r.1=k
  ·have e:decide ((raD r).1=k2D k)=N3:=decide_eq_true (by rw[<-h];rfl)
   rw[e,decide_eq_true h];rfl
  ·have e:decide ((raD r).1=k2D k)=VP:=decide_eq_false (λz=>h (sK z));rw[e,decide_eq_false h];exact ih
theorem BV{k:K2}{R:List (K2×VQ)}(h:k∉R.map (·.1)):dget (R.map raD) (k2D k)=Y:=by
 rw[lK,R9.mpr λr j=>by intro z;exact h (KP.mpr ⟨r,j,of_decide_eq_true z⟩)]
 rfl
theorem lL{k:K2}{R:List (K2×VQ)}(h:k∈R.map (·.1)):∃a,(k,a)∈R/\dget (R.map raD) (k2D k)=Z (.ref a):=by
 cases e:R.find? λr=>decide (r.1=k)with
 |none=>obtain⟨r,j,z⟩:=KP.mp h;exact absurd (decide_eq_true z) (R9.mp e r j)
 |some r=>
  have h1:=UY e;have h2:=Rc e;have B:r.1=k:=of_decide_eq_true h1;obtain⟨rk,ra⟩:=r
  cases B
  exact⟨ra,h2,by rw[lK,e];rfl⟩
theorem BW{k:K2}{R:List (K2×VQ)}(h:k∉R.map (·.1)):fq (R.map raD) (k2D k) (.ref a)=(R++[(k,a)]).map raD:=by
 unfold fq;rw[if_neg,Lf]
 ·rfl
 ·intro z;obtain⟨x,hx,j⟩:=Mq.mp z;obtain⟨r,B,rfl⟩:=KP.mp hx;exact h (KP.mpr ⟨r,B,sK (of_decide_eq_true j)⟩)
theorem RI.ge{d:VQ}{R:List (K2×VQ)}{g:K2->List Int}(h:RI d N M R g)(x:Ge M M'):RI d N M' R g:=⟨x _ _ h.dct,h.keys,h.ads,h.nd,λr j=>x _ _ (h.row r j),h.ln,h.out⟩
theorem Run.trans{d:VQ}{R R' R'':List (K2×VQ)}{g g':K2->List Int}(h:Run d R M R' M')(h2:Run d R' M' R'' M'')(i:RI d N M' R' g')(sub:∀r∈R,r∈R'):Run d R M R'' M'':=by
 refine⟨λr F=>?_,λb o n m e=>?_⟩
 ·rcases h2.ex r F with j|j
  ·exact h.ex r j
  ·by_cases z:r.2∈R.map (·.2)
   ·obtain⟨r',B,e⟩:=KP.mp z;rw[<-e,i.row r' (sub r' B)]at j;cases j
   ·refine .inr ?_
    cases e:M r.2 with
    |none=>rfl
    |some o=>
     by_cases zd:r.2=d
     ·rw[zd,i.dct]at j;cases j
     ·rw[h.kp _ _ zd z e]at j;cases j
 ·refine h2.kp b o n (λz=>?_) (h.kp b o n m e);obtain⟨r',B,e'⟩:=KP.mp z
  rcases h.ex r' B with j|j
  ·exact m (KP.mpr ⟨r',j,e'⟩)
  ·rw[e',e]at j;cases j
theorem RI.new{d:VQ}{R:List (K2×VQ)}{g:K2->List Int}(h:RI d N M R g){k:K2}(O:k∉R.map (·.1)){J:Mem}(ga:Ge M J)(B:M a=Y)(h1:J a=Z (.lst ((KD N (0:Int)).map .int))):
 RI d N (ag J d (.dct N3 ((R++[(k,a)]).map raD))) (R++[(k,a)]) g/\Run d R M (R++[(k,a)]) (ag J d (.dct N3 ((R++[(k,a)]).map raD))):=by
 have F:a≠d:=λz=>by rw[z,h.dct]at B;cases B
 refine⟨⟨ab,?_,?_,?_,?_,h.ln,?_⟩,⟨?_,?_⟩⟩
 ·rw[Lf,Nz];exact⟨h.keys,by simp,λx hx y G=>by simp at G;subst G;exactλz=>O (z▸hx)⟩
 ·rw[Lf,Nz];refine⟨h.ads,by simp,λx hx y G=>?_⟩
  simp at G;subst G;intro z;obtain⟨r,j,rfl⟩:=KP.mp hx;rw[<-z,h.row r j]at B;cases B
 ·intro r j
  rcases KQ.mp j with j|j
  ·exact h.nd r j
  ·simp at j;subst j;exact F
 ·intro r j
  rcases KQ.mp j with j|j
  ·rw[ar (h.nd r j)];exact ga _ _ (h.row r j)
  ·simp at j;subst j;rw[ar F,h1,h.out k O]
 ·intro k' L;exact h.out k' λz=>L (by rw[Lf];exact Lp _ z)
 ·intro r j
  rcases KQ.mp j with j|j
  ·exact .inl j
  ·simp at j;subst j;exact .inr B
 ·intro b o n m e;rw[ar n];exact ga _ _ e
theorem RI.put{d:VQ}{R:List (K2×VQ)}{g:K2->List Int}(h:RI d N M R g){k:K2}(B:(k,a)∈R){row:List Int}(G:row.length=N):
 RI d N (ag M a (.lst (row.map .int))) R (λk'=>if k'=k then row else g k')/\Run d R M R (ag M a (.lst (row.map .int))):=by
 refine⟨⟨?_,h.keys,h.ads,h.nd,?_,?_,?_⟩,⟨λr h=>.inl h,?_⟩⟩
 ·rw[ar (λz=>h.nd _ B z.symm)];exact h.dct
 ·intro r j
  by_cases e:r=(k,a)
  ·subst e;rw[ab,if_pos rfl]
  ·have na:r.2≠a:=λz=>e (eO h.ads j B z);have nk:r.1≠k:=λz=>e (eO h.keys j B z);rw[ar na,if_neg nk];exact h.row r j
 ·intro k'
  split
  ·exact G
  ·exact h.ln k'
 ·intro k' F;rw[if_neg (λz=>F (KP.mpr ⟨_,B,z.symm⟩))];exact h.out k' F
 ·intro b o n m e;rw[ar (λz=>m (KP.mpr ⟨_,B,z.symm⟩))];exact e
end
section
open L2.Srt
variable{T:List FD}
noncomputable def dg(s:Stmt):FD:=⟨"filled",s,["part"],1,
 (.cons (.ret (.comp [Y,Y] ["at","x"] (.last (.enum (.var 0)) (.tup (.cons (.name 0) (.cons (.name 1) .nil))) (.cons (.cmp .ne (.var 1) (.int 0)) .nil) (.tup (.cons (.var 0) (.cons (.var 1) .nil))))))
 .nil)⟩
theorem nG(hf:T[f]?=Z (dg s))(G:1<=n){x:D}(J:l.length<=1000000)(hx:aM M x=Z (l.map .int))(q:∀p,M p=Y->Q (.ref p) (ag M p (.lst ((nz l).map pD)))):phi T n f [x] M Q:=by
 refine aA ∅ hf rfl (ρ:=[Z _]) rfl ?_
 unfold dg;nofun;refine⟨_,hx,?_⟩;rw[zy];refine am (f:=pD) (ys:=idx l) (I:=λr ρ M' acc=>(∃o0 z,ρ=[o0,z])/\M'=M/\acc=(r.filter λq=>!(q.2==0)).map pD) rfl ⟨⟨_,_,rfl⟩,rfl,rfl⟩ (λ_ _ _ _ h=>by rw[h.2.1];exact hx) ?_ ?_
 ·rintro l' y r ρ M1 acc e ⟨⟨o0,z,rfl⟩,rfl,rfl⟩;refine⟨_,rfl,λN' j=>?_⟩;have B:=ax e;rw[BU]at B;have F:(l'.filter λq=>!(q.2==0)).length<=l'.length:=OY _ _;ac_nf
  by_cases hz:y.2=0
  ·rw[if_neg (by simp[hz])]
   refine j _ _ _ ⟨⟨_,_,rfl⟩,rfl,?_⟩;rw[ON,OC (by simp[hz])];simp
  ·rw[if_pos (by simp[hz])]
   refine⟨by rw[D0];lia,by rw[q7,D0];lia,j _ _ _ ⟨⟨_,_,rfl⟩,rfl,?_⟩⟩
   rw[ON,OB (by simp[hz])];simp[pD]
 ·rintro ρ M1 acc ⟨⟨o0,z,rfl⟩,rfl,rfl⟩ p hp;exact q p hp
theorem wV{v:Int}{k:Nat}(j:k<l.length):gz (l.set k v) i=if i=k then v else gz l i:=by
 unfold gz
 by_cases h:i<0
 ·rw[if_pos h,if_pos h,if_neg ∅]
 ·rw[if_neg h,if_neg h,I7,I7]
  by_cases e:i=k
  ·subst e;rw[KO,NI j,if_pos rfl];rfl
  ·rw[P0 ∅,if_neg e]
theorem cU{k:Nat}(j:k<l.length):l[k]?=Z (gz l k):=by unfold gz;rw[if_neg ∅,KO,I7,y3 j];rfl
theorem qF:gz (KD n 0) i=0:=by
 unfold gz
 split
 ·rfl
 ·rw[I7]
  cases e:(KD n (0:Int))[i.toNat]? with
  |none=>rfl
  |some x=>exact List.eq_of_mem_replicate (L5 e)
theorem E7{k:Int}:S1 (nz l) k=gz l k:=by unfold nz;rw[uG,E4]
end
section
open L2.Srt
variable{T:List FD}
noncomputable def iP(s:Stmt):FD:=⟨"single_one",s,["length","at","row"],2,
 (.cons (.asg (.name 2) (.bin .mul (.lst (.cons (.int 0) .nil)) (.var 0)))
 (.cons (.put (.var 2) (.var 1) (.int 1))
 (.cons (.ret (.var 2))
 .nil)))⟩
theorem BX(hf:T[f]?=Z (iP s))(F2:1<=n){i:Nat}(fv:L<=1000)(hi:i<L)(q:∀p M',Ge M M'->M p=Y->M' p=Z (.lst ((one L (i:Nat)).map .int))->Q (.ref p) M'):phi T n f [.int L,.int i] M Q:=by
 refine aA ∅ hf rfl (ρ:=[Z _,Z _,Y]) rfl ?_
 unfold iP;nofun;refine⟨by rw[D0];lia,λG F=>?_⟩
 refine⟨_,ab,∅,∅,by rw[D0];simp;lia,λB z=>?_⟩
 rw[KO,Fp];have J:=Ge.new (o:=.lst [.int 0]) F;have g1:=J.trans (Ge.new (o:=.lst (((KA L).map λ_=>(0:Int)).map D.int)) z);have O:=ab (M:=ag M G (.lst [.int 0])) (a:=B) (o:=.lst (((KA L).map λ_=>(0:Int)).map D.int));have U:M B=Y:=by
  cases hz:M B with
  |none=>rfl
  |some o=>rw[J _ _ hz]at z;cases z
 generalize ag (ag M G (.lst [.int 0])) B _=M1 at g1 O⊢;nofun;refine eJ O (j:=i) (by rw[q7,q7,LO];exact Fq hi) ?_
 nofun;refine q B _ (g1.upd U) U ?_;rw[ab,<-Uk (f:=D.int),zB];unfold one;congr 3;exact Mw λh _=>by simp only[Int.natCast_inj]
end
section
open L2.Srt
variable{T:List FD}
noncomputable def at2(rs:List Tm)(i j:Int):Bool:=rs.any λt=>decide (t.1.2=(i,j))
noncomputable def pq(L0 L1 N:Nat)(rs:List Tm)(i j:Int):Pr:=(one L0 i,one L1 j,(KA N).map λk:Nat=>cf rs (k,i,j))
noncomputable def plJ(L0 L1 N:Nat)(rs:List Tm)(i:Nat)(l:List Nat):List Pr:=(l.filter λj:Nat=>at2 rs i j).map λj:Nat=>pq L0 L1 N rs i j
noncomputable def pl(L0 L1 N:Nat)(rs:List Tm)(l:List Nat):List Pr:=l.flatMap λi=>plJ L0 L1 N rs i (KA L1)
def lx2(a b:K2):Prop:=a.1<b.1∨(a.1=b.1/\a.2<b.2)
theorem Gv{a b:K2}(h:lx2 a b):ltK (kyD (k2D a)) (kyD (k2D b))=N3:=by
 unfold ltK;have e:av (kyD (k2D a)) (kyD (k2D b))=(av (.int a.1) (.int b.1)).then ((av (.int a.2) (.int b.2)).then .eq):=by
  show av (.tup [.int a.1,.int a.2]) (.tup [.int b.1,.int b.2])=_
  conv=>lhs;unfold av
  simp only[cmpKs]
 rw[e];simp only[av]
 rcases h with h|⟨h1,h2⟩
 ·rw[if_pos h];rfl
 ·rw[if_neg ∅,if_pos h1,if_pos h2];rfl
noncomputable def gr(rs:List Tm)(L1:Nat)(l:List Nat):List K2:=l.flatMap λi:Nat=>((KA L1).filter λj:Nat=>at2 rs i j).map λj:Nat=>((i:Int),(j:Int))
theorem kF{rs:List Tm}{l:List Nat}:pl L0 L1 N rs l=(gr rs L1 l).map λk=>pq L0 L1 N rs k.1 k.2:=by unfold pl gr plJ;rw[Qq];simp[Ni,Function.comp_def]
theorem gr_lt{rs:List Tm}:(gr rs L1 (KA L0)).Pairwise lx2:=by
 unfold gr;rw[Qh];refine⟨λi _=>?_,?_⟩
 ·rw[Mg];refine(List.pairwise_lt_range.filter _).imp ?_;intro a b h;exact .inr ⟨rfl,by dsimp only;lia⟩
 ·refine List.pairwise_lt_range.imp ?_;intro a b h x hx y j;obtain⟨_,_,rfl⟩:=KP.mp hx;obtain⟨_,_,rfl⟩:=KP.mp j;exact .inl (by dsimp only;lia)
theorem fP{rs:List Tm}(F:InB rs L0 L1 N){k:K2}:k∈gr rs L1 (KA L0)↔at2 rs k.1 k.2=N3:=by
 unfold gr;constructor
 ·intro h;obtain⟨i,hi,h⟩:=N7.mp h;obtain⟨j,J,rfl⟩:=KP.mp h;exact(NB.mp J).2
 ·intro h;have h':=h;unfold at2 at h';obtain⟨t,G,e⟩:=Mq.mp h';have e:t.1.2=(k.1,k.2):=of_decide_eq_true e;have z:=F.i t G;have B:=F.j t G;rw[e]at z B;refine N7.mpr ⟨k.1.toNat,LC.mpr (by dsimp only at z;lia),KP.mpr ⟨k.2.toNat,NB.mpr ⟨LC.mpr (by dsimp only at B;lia),?_⟩,?_⟩⟩
  ·rw[MR z.1,MR B.1];exact h
  ·rw[MR z.1,MR B.1]
theorem Fr{rs:List Tm}(J:InB rs L0 L1 N){R:List (K2×VQ)}(L:(R.map (·.1)).Nodup)(O:∀i j,(i,j)∈R.map (·.1)↔at2 rs i j=N3){ys:List D}(F:ys.Perm ((R.map raD).map (·.1)))(hs:gp ys):ys=(gr rs L1 (KA L0)).map k2D:=by
 have U:(R.map raD).map (·.1)=(R.map (·.1)).map k2D:=by rw[Ni,Ni];rfl
 rw[U]at F;obtain⟨ks,G,p2⟩:=eW k2D F rfl;have B:ks.Nodup:=G.nodup_iff.mpr L;rw[<-p2];congr 1;unfold gp at hs;rw[<-p2,Mg]at hs;refine sH (lt:=lx2) (λa b h1 h2=>?_) ((hs.and (LM.mp B)).imp ?_) gr_lt λx=>?_
 ·unfold lx2 at h1 h2;lia
 ·rintro a b ⟨h1,h2⟩;unfold lx2
  by_cases h3:lx2 b a
  ·rw[Gv h3]at h1;cases h1
  ·unfold lx2 at h3
   by_cases h4:a.1=b.1
   ·have:a.2≠b.2:=λz=>h2 (V7 h4 z);lia
   ·lia
 ·rw[fP J,G.mem_iff];exact O x.1 x.2
theorem wW{L0 L1 N:Nat}{rs:List Tm}:∀{l:List Nat},(pl L0 L1 N rs l).length<=l.length*L1
 |[]=>by simp[pl]
 |i::l=>by
  have ih:=wW (L0:=L0) (L1:=L1) (N:=N) (rs:=rs) (l:=l);have h1:(plJ L0 L1 N rs i (KA L1)).length<=L1:=by unfold plJ;rw[q7];exact Mu (OY _ _) (by simp)
  unfold pl at ih⊢;rw[Q9,D1,LF,Oc];lia
noncomputable def iQ(s:Stmt)(f1:Nat):FD:=⟨"plain",s,["task","left","right","many","terms","outs","k","i","j","c","products"],1,
 (.cons (.asg (.tup (.cons (.name 1) (.cons (.name 2) (.cons (.name 3) (.cons (.name 4) .nil))))) (.var 0))
 (.cons (.asg (.name 5) (.dnew N3))
 (.cons (.for (.tup (.cons (.name 6) (.cons (.name 7) (.cons (.name 8) (.cons (.name 9) .nil))))) (.seq (.var 4)) (.cons (.ite (.cmp .ninD (.tup (.cons (.var 7) (.cons (.var 8) .nil))) (.var 5)) (.cons (.put (.var 5) (.tup (.cons (.var 7) (.cons (.var 8) .nil))) (.bin .mul (.lst (.cons (.int 0) .nil)) (.var 3)))
 .nil) .nil)
 (.cons (.put (.ix (.var 5) (.tup (.cons (.var 7) (.cons (.var 8) .nil)))) (.var 6) (.var 9))
 .nil)))
 (.cons (.asg (.name 10) (.comp [Y,Y,(Z 1),(Z 2),(Z 5)] ["i","j","left","right","outs"] (.last (.seq (.blt .sorts (.cons (.var 5) .nil))) (.tup (.cons (.name 0) (.cons (.name 1) .nil))) .nil (.tup (.cons (.blt .tuple (.cons (.call f1 (.cons (.var 2) (.cons (.var 0) .nil))) .nil)) (.cons (.blt .tuple (.cons (.call f1 (.cons (.var 3) (.cons (.var 1) .nil))) .nil)) (.cons (.blt .tuple (.cons (.ix (.var 4) (.tup (.cons (.var 0) (.cons (.var 1) .nil)))) .nil)) .nil)))))))
 (.cons (.ret (.tup (.cons (.var 1) (.cons (.var 2) (.cons (.var 3) (.cons (.var 10) .nil))))))
 .nil)))))⟩
theorem BY{i:Nat}(h:i<L):ixN L (i:Nat)=Z i:=by unfold ixN;simp;lia
theorem wX(hf:T[f]?=Z (iP s))(j:1<=n)(z:L<=1000)(h0:0<=i)(h1:i<L)(q:∀p M',Ge M M'->M p=Y->M' p=Z (.lst ((one L i).map .int))->Q (.ref p) M'):phi T n f [.int L,.int i] M Q:=by obtain⟨k,rfl⟩:=NA h0;exact BX hf j z ∅ q
theorem zC{f1:Nat}{s1:Stmt}(hf:T[f]?=Z (iQ s f1))(Ir:T[f1]?=Z (iP s1))(hn:2<=n)(h0:L0<=100)(h1:L1<=100)(hN:N<=100){pt:VQ}{rs:List Tm}(ept:M pt=Z (.lst (rs.map tmD)))(Is:(rs.map (·.1)).Nodup)(hB:InB rs L0 L1 N)(hl:rs.length<=63)(q:∀p M',Ge M M'->M p=Y->M' p=Z (.lst ((pl L0 L1 N rs (KA L0)).map prD))->Q (.tup [.int L0,.int L1,.int N,.ref p]) M'):phi T n f [.tup [.int L0,.int L1,.int N,.ref pt]] M Q:=by
 refine aA ∅ hf rfl (ρ:=[Z _,Y,Y,Y,Y,Y,Y,Y,Y,Y,Y]) rfl ?_
 unfold iQ;nofun;nofun;intro d hd;have g0:=Ge.new (o:=.dct N3 []) hd;have d0:=ab (M:=M) (a:=d) (o:=.dct N3 []);generalize ag M d (.dct N3 [])=M0 at g0 d0⊢;nofun;refine⟨_,af (g0 _ _ ept),?_⟩;have IK:pt≠d:=λz=>by rw[z,hd]at ept;cases ept
 refine bJ (f:=tmD) (ys:=rs) (I:=λl ρ M'=>∃R g o6 o7 o8 o9 L,ρ=[Z (.tup [.int L0,.int L1,.int N,.ref pt]),Z (.int L0),Z (.int L1),Z (.int N),Z (.ref pt),Z (.ref d),o6,o7,o8,o9,L]/\Ge M M'/\RI d N M' R g/\(∀r∈R,M r.2=Y)/\R.length<=l.length/\(∀k i j,gz (g (i,j)) k=cf l (k,i,j))/\∀i j,(i,j)∈R.map (·.1)↔at2 l i j=N3) rfl ⟨[],λ_=>KD N 0,_,_,_,_,_,rfl,g0,⟨d0,by simp,by simp,by simp,by simp,by simp,λ_ _=>rfl⟩,by simp,by simp,λk i j=>by rw[qF,fM],by simp[at2]⟩ (λl ρ M' ⟨_,_,_,_,_,_,_,_,g,_⟩=>af (g _ _ ept)) ?_ ?_
 ·rintro l t r ρ U e ⟨R,g,o6,o7,o8,o9,L,rfl,g1,J,fr,Iz,hg,hk⟩;refine⟨_,rfl,λF hF=>?_⟩;have IA:=ax e;have IB:t∈rs:=by rw[e];simp
  have tB:=hB.k t IB;have IC:cf l t.1=0:=by refine fN λu hu eu=>?_;rw[e,Lf,KY]at Is;exact(Nz.mp Is).2.2 _ (L6 hu) _ (Ln ..) eu
  have ek:D.tup [D.int t.1.2.1,D.int t.1.2.2]=k2D t.1.2:=rfl;refine de (λρ M'=>ρ=[Z (.tup [.int L0,.int L1,.int N,.ref pt]),Z (.int L0),Z (.int L1),Z (.int N),Z (.ref pt),Z (.ref d),Z (.int t.1.1),Z (.int t.1.2.1),Z (.int t.1.2.2),Z (.int t.2),L]/\∃R',RI d N M' R' g/\Run d R U R' M'/\(∀r∈R,r∈R')/\R'.length<=R.length+1/\(∀k,k∈R'.map (·.1)↔k∈R.map (·.1)∨k=t.1.2)) (λRR hR=>?_) ?_
  ·ac_nf;refine⟨by rw[D0];lia,d,N3,_,rfl,.inl J.dct,rfl,?_⟩
   ac_nf;rw[ek]
   by_cases G:t.1.2∈R.map (·.1)
   ·obtain⟨a,ha,e⟩:=lL G;rw[e];ac_nf;exact hR _ _ ⟨rfl,R,J,Run.refl,λr h=>h,∅,λk=>⟨.inl,λz=>z.elim id λz=>by rw[z];exact G⟩⟩
   ·rw[BV G];ac_nf;rw[bI];ac_nf;refine⟨by rw[D0];lia,λp1 ID=>?_⟩
    have Iu:=Ge.new (o:=.lst [.int 0]) ID;refine⟨_,ab,∅,∅,by rw[D0];simp;lia,λp2 F2=>?_⟩
    have g2:=Iu.trans (Ge.new (o:=.lst (KD (N:Int).toNat [D.int 0]).flatten) F2);have Iv:U p2=Y:=by
     cases hq:U p2 with
     |none=>rfl
     |some o=>rw[Iu _ _ hq]at F2;cases F2
    have e2:ag (ag U p1 (.lst [.int 0])) p2 (.lst (KD (N:Int).toNat [D.int 0]).flatten) p2=Z (.lst ((KD N (0:Int)).map .int)):=by rw[ab,Gu];simp
    generalize ag (ag U p1 (.lst [.int 0])) p2 (.lst (KD (N:Int).toNat [D.int 0]).flatten)=M2 at g2 e2;refine⟨by rw[D0];lia,qq (g2 _ _ J.dct) rfl (by rw[q7,D0];lia) ?_⟩
    rw[ek,BW G];obtain⟨B,r2⟩:=J.new G g2 Iv e2;exact hR _ _ ⟨rfl,_,B,r2,λr h=>Lp _ h,by simp,λk=>by simp⟩
  ·rintro ρ M2 ⟨rfl,R',B,r2,sub,IM,Iw⟩;rw[bI];ac_nf;refine⟨by rw[D0];lia,?_⟩
   rw[ek];obtain⟨a,O,ea⟩:=lL ((Iw t.1.2).mpr (.inr rfl));refine wy B.dct rfl ea ?_;obtain⟨kn,ekn⟩:=NA tB.1;have Ix:kn<N:=∅
   rw[ekn];refine eJ (B.row _ O) (j:=kn) (by rw[q7,B.ln];exact BY Ix) ?_
   obtain⟨I3,r3⟩:=B.put O (row:=(g t.1.2).set kn t.2) (by rw[So];exact B.ln _)
   rw[show((g t.1.2).map D.int).set kn (.int t.2)=((g t.1.2).set kn t.2).map D.int from Uk.symm];have rr:=r2.trans (g:=g) r3 B sub;refine hF _ _ ⟨R',_,_,_,_,_,_,rfl,?_,I3,λr hr=>?_,by simp;lia,λk i j=>?_,λi j=>?_⟩
   ·intro b o hb;refine rr.kp b o (λz=>by rw[z,hd]at hb;cases hb) (λz=>?_) (g1 _ _ hb)
    obtain⟨r,hr,rfl⟩:=KP.mp z;rw[fr r hr]at hb;cases hb
   ·rcases rr.ex r hr with h|h
    ·exact fr r h
    ·cases hz:M r.2 with
     |none=>rfl
     |some o=>rw[g1 _ _ hz]at h;cases h
   ·rw[i9,b8,fM]
    by_cases h:(i,j)=t.1.2
    ·rw[if_pos h,wV (by rw[B.ln];exact Ix)]
     by_cases h3:k=kn
     ·have et:t.1=(k,i,j):=V7 (ekn.trans h3.symm) h.symm;rw[if_pos h3,if_pos et,<-et,IC];lia
     ·rw[if_neg h3,if_neg (λz=>h3 ((congrArg (·.1) z).symm.trans ekn)),<-h,hg];lia
    ·rw[if_neg h,if_neg (λz=>h (congrArg (·.2) z).symm),hg];lia
   ·rw[Iw,hk];unfold at2;rw[List.any_append,Oo,List.any_nil,Bool.or_false,QB];exact or_congr U7 ⟨λz=>by simp[z],λz=>(of_decide_eq_true z).symm⟩
 ·rintro ρ U ⟨R,g,o6,o7,o8,o9,L,rfl,g1,J,fr,Iz,hg,hk⟩;dsimp only;rw[bI];ac_nf;refine⟨d,N3,_,.tup [.int,.int],rfl,J.dct,rfl,λkv IE=>?_,by rw[q7];lia,λps ys IF fv Iy=>?_⟩
  ·obtain⟨t,_,rfl⟩:=KP.mp IE;rfl
  have ey:=Fr hB J.keys hk fv Iy;subst ey;have g2:=Ge.new (o:=.lst ((gr rs L1 (KA L0)).map k2D)) IF;have e2:=ab (M:=U) (a:=ps) (o:=.lst ((gr rs L1 (KA L0)).map k2D));have B:=J.ge g2;have g2:=g1.trans g2;generalize ag U ps (.lst ((gr rs L1 (KA L0)).map k2D))=M2 at g2 e2 B⊢;refine⟨_,af e2,?_⟩;refine am (f:=k2D) (ys:=gr rs L1 (KA L0)) (I:=λl ρ M' acc=>(∃o0 o1,ρ=[o0,o1,Z (.int L0),Z (.int L1),Z (.ref d)])/\Ge M2 M'/\acc=(l.map λk=>pq L0 L1 N rs k.1 k.2).map prD) rfl ⟨⟨_,_,rfl⟩,Ge.refl,rfl⟩ (λ_ _ _ _ h=>af (h.2.1 _ _ e2)) ?_ ?_
  ·rintro lk k rk ρ M3 acc ek ⟨⟨o0,o1,rfl⟩,g3,rfl⟩;refine⟨_,rfl,λN' IG=>?_⟩;have IH:k∈gr rs L1 (KA L0):=by rw[ek];simp
   have Iq:=(fP hB).mp IH;have II:=(hk k.1 k.2).mpr Iq;have IA:=ax ek;have IJ:=wW (L0:=L0) (L1:=L1) (N:=N) (rs:=rs) (l:=KA L0);rw[kF,q7,LO]at IJ;have h6:L0*L1<=100*100:=LS h0 h1;unfold at2 at Iq;obtain⟨t,ht,et⟩:=Mq.mp Iq;have et:t.1.2=(k.1,k.2):=of_decide_eq_true et;have b1:=hB.i t ht;have b2:=hB.j t ht;rw[et]at b1 b2;ac_nf;refine wX Ir ∅ ∅ b1.1 b1.2 λp4 M4 g4 _ e4=>⟨_,_,rfl,af e4,?_⟩
   refine wX Ir ∅ ∅ b2.1 b2.2 λp5 M5 g5 _ e5=>⟨_,_,rfl,af e5,?_⟩
   have g5:=(g3.trans g4).trans g5;have I5:=B.ge g5;obtain⟨a,O,ea⟩:=lL II;refine⟨by rw[D0];lia,wy I5.dct rfl ea ⟨_,_,rfl,af (I5.row _ O),?_⟩⟩
   refine⟨by rw[D0];lia,by rw[q7,q7,D0];lia,IG _ _ _ ⟨⟨_,_,rfl⟩,g5,?_⟩⟩
   rw[Lf,Lf];congr 1;have eg:g (k.1,k.2)=(KA N).map λm:Nat=>cf rs (m,k.1,k.2):=by
    apply MA;intro m;rw[KL]
    by_cases hm:m<N
    ·rw[Mm hm,cU (by rw[J.ln];exact hm),hg];rfl
    ·rw[Lx (by rw[J.ln];lia),Lx (by simp;lia)];rfl
   show[D.tup [_,_,D.tup ((g (k.1,k.2)).map D.int)]]=_;rw[eg];rfl
  ·rintro ρ M3 acc ⟨⟨o0,o1,rfl⟩,g3,rfl⟩ p6 hp6;have g6:=Ge.new (o:=.lst (((gr rs L1 (KA L0)).map λk=>pq L0 L1 N rs k.1 k.2).map prD)) hp6;nofun;refine⟨by rw[D0];lia,q p6 _ ((g2.trans g3).trans g6) ?_ (by rw[ab,kF])⟩
   cases hz:M p6 with
   |none=>rfl
   |some o=>rw[(g2.trans g3) _ _ hz]at hp6;cases hp6
theorem wY{a b:K2}(h:lx2 a b):a≠b:=λz=>by subst z;unfold lx2 at h;lia
theorem sL{α:Type}[BEq α][LawfulBEq α]:∀{l m:List α},l.Nodup->(∀x∈l,x∈m)->l.length<=m.length
 |[],_,_,_=>Nv _
 |x::l,m,j,h=>by
  rw[Mn]at j;have ih:=sL (l:=l) (m:=m.erase x) j.2 λy B=>by
   rw[List.mem_erase_of_ne (λz=>j.1 (by rw[<-z];exact B))]
   exact h y (L9 _ B)
  rw[List.length_erase_of_mem (h x Ln)]at ih;have:=List.length_pos_of_mem (h x Ln);rw[LF];lia
theorem Fs{rs:List Tm}(j:InB rs L0 L1 N):(pl L0 L1 N rs (KA L0)).length<=rs.length:=by rw[kF,q7,<-q7 (as:=rs) (f:=λt:Tm=>t.1.2)];refine sL (LM.mpr (gr_lt.imp wY)) λk z=>?_;have h:=(fP j).mp z;unfold at2 at h;obtain⟨t,B,e⟩:=Mq.mp h;exact KP.mpr ⟨t,B,of_decide_eq_true e⟩
theorem nH:dl (one L i):=λx hx=>by
 obtain⟨m,_,rfl⟩:=KP.mp hx
 split<;>lia
theorem Ft{rs:List Tm}(hs:∀k,-1000<=cf rs k/\cf rs k<=1000):∀p∈pl L0 L1 N rs (KA L0),qw L0 L1 N p:=λp j=>by
 rw[kF]at j;obtain⟨k,_,rfl⟩:=KP.mp j;refine⟨sJ,sJ,by simp[pq],nH,nH,λx hx=>?_⟩
 obtain⟨m,_,rfl⟩:=KP.mp hx;exact hs _
theorem Aj{L0 L1 N:Nat}{rs:List Tm}{k i j:Int}:∀{ks:List K2},ks.Nodup->(∀x∈ks,(0<=x.1/\x.1<L0)/\(0<=x.2/\x.2<L1))->Tn (ks.map λx=>pq L0 L1 N rs x.1 x.2) k i j=if(i,j)∈ks then gz ((KA N).map λm:Nat=>cf rs (m,i,j)) k else 0
 |[],_,_=>by simp[Tn]
 |x::ks,B,F=>by
  rw[Mn]at B;have ih:=Aj (N:=N) (rs:=rs) (k:=k) (i:=i) (j:=j) B.2 λy L=>F y (by simp[L])
  obtain⟨G,J⟩:=F x (by simp)
  rw[KY,df,ih];unfold pq;dsimp only;rw[wU G.1 G.2,wU J.1 J.2]
  by_cases e:(i,j)=x
  ·subst e;rw[if_pos rfl,if_pos rfl,if_neg B.1,if_pos (by simp)];simp
  ·have hm:((i,j)∈x::ks)↔(i,j)∈ks:=⟨λz=>by rcases KH.mp z with z|z;exact absurd z e;exact z,λz=>L9 _ z⟩
   have O:(if i=x.1 then(1:Int)else 0)*(if j=x.2 then 1 else 0)=0:=by
    by_cases e1:i=x.1
    ·rw[if_neg (λz=>e (V7 e1 z))];simp
    ·rw[if_neg e1];simp
   rw[O];simp only[hm];simp
theorem Ak{rs:List Tm}(B:InB rs L0 L1 N){k:Int}:Tn (pl L0 L1 N rs (KA L0)) k i j=cf rs (k,i,j):=by
 have G:∀x∈gr rs L1 (KA L0),(0<=x.1/\x.1<L0)/\(0<=x.2/\x.2<L1):=λx hx=>by have h:=(fP B).mp hx;unfold at2 at h;obtain⟨t,F,e⟩:=Mq.mp h;have e:t.1.2=(x.1,x.2):=of_decide_eq_true e;have J:=B.i t F;have L:=B.j t F;rw[e]at J L;exact⟨J,L⟩
 rw[kF,Aj (LM.mpr (gr_lt.imp wY)) G];have out:(¬(0<=k/\k<N)∨at2 rs i j≠N3)->cf rs (k,i,j)=0:=λh=>fN λt F e=>by
  rcases h with h|h
  ·have:=B.k t F;rw[e]at this;exact h this
  ·exact h (Mq.mpr ⟨t,F,by simp[e]⟩)
 by_cases h:at2 rs i j=N3
 ·rw[if_pos ((fP B).mpr h)]
  by_cases hk:0<=k/\k<N
  ·obtain⟨m,rfl⟩:=NA hk.1;have hm:m<N:=by lia
   unfold gz;rw[if_neg ∅,KO,I7,KL,Mm hm];rfl
  ·rw[out (.inl hk)];apply Classical.byContradiction;intro z;have:=eN z;simp at this;exact hk this
 ·rw[if_neg (λz=>h ((fP B).mp z)),out (.inr h)]
end
section
open L2.Srt
noncomputable def ngL(l:List Int):List Int:=l.map λx=>0-x
theorem Fu:gz (ngL l) i = -gz l i:=by
 have e:ngL l=l.map ((-1) * ·):=by unfold ngL;exact Mw λx _=>∅
 rw[e,wQ];lia
theorem zD(h:dl l):dl (ngL l):=λx hx=>by unfold ngL at hx;obtain⟨y,j,rfl⟩:=KP.mp hx;have:=h y j;lia
theorem wZ:(ngL l).length=l.length:=by simp[ngL]
theorem BZ{a b:List Pr}(h:a.Perm b){k:Int}:Tn a k i j=Tn b k i j:=by
 induction h with
 |nil=>rfl
 |cons x _ ih=>rw[df,df,ih]
 |swap x y l=>simp only[df];lia
 |trans _ _ z B=>rw[z,B]
end
section
open L2.Srt
variable{T:List FD}
noncomputable def qG(s:Stmt)(fpl ftt fta fse fpa:Nat):FD:=⟨"_law_table_scheme",s,["_law_box_here","_law_n","_law_scheme","_law_products","_law_l","_law_r","_law_o","_law_at"],2,
 (.cons (.asg (.name 2) (.call fpl (.cons (.call ftt (.cons (.var 1) (.cons (.var 1) (.cons (.var 1) .nil)))) .nil)))
 (.cons (.ite (.and (.cons (.cmp .eq (.var 1) (.int 2)) (.cons (.cmp .gt (.call fta (.cons (.var 0) (.cons (.int 3) .nil))) (.int 0)) .nil))) (.cons (.asg (.name 2) (.call fse .nil))
 .nil) .nil)
 (.cons (.asg (.name 3) (.blt .list (.cons (.ix (.var 2) (.int 3)) .nil)))
 (.cons (.ite (.cmp .eq (.call fta (.cons (.var 0) (.cons (.int 3) .nil))) (.int 0)) (.cons (.asgL (.cons (.name 4) (.cons (.name 5) (.cons (.name 6) .nil))) (.comp [Y,(Z 0),(Z 1)] ["_law_side","_law_box_here","_law_n"] (.last (.rng1 (.int 3)) (.name 0) .nil (.call fpa (.cons (.var 1) (.cons (.bin .mul (.var 2) (.var 2)) .nil))))))
 (.cons (.drop (.ins (.var 3) (.call fta (.cons (.var 0) (.cons (.bin .add (.blt .len (.cons (.var 3) .nil)) (.int 1)) .nil))) (.tup (.cons (.var 4) (.cons (.var 5) (.cons (.var 6) .nil))))))
 (.cons (.drop (.meth .append (.var 3) (.tup (.cons (.var 4) (.cons (.var 5) (.cons (.blt .tuple (.cons (.comp [Y] ["_law_c"] (.last (.seq (.var 6)) (.name 0) .nil (.bin .sub (.int 0) (.var 0)))) .nil)) .nil))))))
 .nil))) .nil)
 (.cons (.asg (.name 7) (.call fta (.cons (.var 0) (.cons (.blt .len (.cons (.var 3) .nil)) .nil))))
 (.cons (.ret (.tup (.cons (.bin .mul (.var 1) (.var 1)) (.cons (.bin .mul (.var 1) (.var 1)) (.cons (.bin .mul (.var 1) (.var 1)) (.cons (.bin .add (.sl (.var 3) (.some (.var 7)) .none) (.sl (.var 3) .none (.some (.var 7)))) .nil))))))
 .nil))))))⟩
noncomputable def jo(s:Stmt):FD:=⟨"seven",s,[],0,
 (.cons (.ret (.tup (.cons (.int 4) (.cons (.int 4) (.cons (.int 4) (.cons (.blt .list (.cons (.glob "SEVEN" (.tup (seven.map prD))) .nil)) .nil))))))
 .nil)⟩
theorem xf(hf:T[f]?=Z (jo s))(z:1<=n)(q:∀p,M p=Y->Q (.tup [.int 4,.int 4,.int 4,.ref p]) (ag M p (.lst (seven.map prD)))):phi T n f [] M Q:=by
 refine aA ∅ hf rfl (ρ:=[]) rfl ?_
 unfold jo;nofun;refine⟨_,_,rfl,rfl,λp j=>?_⟩;exact⟨by rw[D0];lia,q p j⟩
noncomputable def smB(l:List Int):Bool:=l.all λx=>decide (-1<=x/\x<=1)
theorem zE:∀p∈seven,qw 4 4 4 p:=λp j=>by
 have h:(p.1.length==4&&p.2.1.length==4&&p.2.2.length==4&&smB p.1&&smB p.2.1&&smB p.2.2)=N3:=(by decide:∀p∈seven,(p.1.length==4&&p.2.1.length==4&&p.2.2.length==4&&smB p.1&&smB p.2.1&&smB p.2.2)=N3) p j
 simp only[tv,beq_iff_eq,smB,NR,decide_eq_true_eq]at h;obtain⟨⟨⟨⟨⟨a,b⟩,c⟩,d⟩,e⟩,f⟩:=h;exact⟨a,b,c,λx hx=>by have:=d x hx;lia,λx hx=>by have:=e x hx;lia,λx hx=>by have:=f x hx;lia⟩
structure TS(n c:Nat)(ps:List Pr):Prop where
 ne:ps≠[]
 len:ps.length<=c
 pr:∀p∈ps,qw (n*n) (n*n) (n*n) p
 tn:∀k i j,Tn ps k i j=cf (bp n n n) (k,i,j)
theorem E8{ps:List Pr}{a:Nat}{k:Int}:Tn (ps.drop a++ps.take a) k i j=Tn ps k i j:=by rw[BZ (NZ),Mx]
theorem Fv{r o:List Int}{k:Int}:tm (l,r,o) k i j+tm (l,r,ngL o) k i j=0:=by unfold tm;dsimp only;rw[Fu,Int.mul_neg];lia
theorem xg{a:Nat}(h:a<=ds.length):cB ds (Z (a:Int)) Y=ds.drop a:=by unfold cB;rw[HT.sIx_none,HT.sIx_nat,MW h,Nf (by simp)]
theorem xh{a:Nat}(h:a<=ds.length):cB ds Y (Z (a:Int))=ds.take a:=by unfold cB;rw[HT.sIx_none,HT.sIx_nat,MW h,List.drop_zero,Nat.sub_zero]
theorem C3{fpl ftt fta fse fpa f1:Nat}{s1 s2 s3 s4 s5:Stmt}(hf:T[f]?=Z (qG s fpl ftt fta fse fpa))(ID:T[fpl]?=Z (iQ s1 f1))(IE:T[f1]?=Z (iP s2))(IF:T[ftt]?=Z (iN s3 ft))(ht:T[ft]?=Z (ic s4))(IG:T[fse]?=Z (jo s5)){k:Nat}(hk:6<=k)(U:kD T (k-1) fta)(Iw:wG T (k-1) fpa)(hn:n=2∨n=3)(hb:Box b M)(q:∀ps p M',TS n 29 ps->Bx b M M'->M p=Y->M' p=Z (.lst (ps.map prD))->Q (.tup [.int (n*n:Nat),.int (n*n:Nat),.int (n*n:Nat),.ref p]) M'):phi T k f [.ref b,.int n] M Q:=by
 have L:2<=n/\n<=3:=∅
 refine aA ∅ hf rfl (ρ:=[Z _,Z _,Y,Y,Y,Y,Y,Y]) rfl ?_
 unfold qG;refine de (λρ M'=>∃ps p,ρ=[Z (.ref b),Z (.int n),Z (.tup [.int (n*n:Nat),.int (n*n:Nat),.int (n*n:Nat),.ref p]),Y,Y,Y,Y,Y]/\Ge M M'/\M' p=Z (.lst (ps.map prD))/\TS n 27 ps) (λR hR=>?_) ?_
 ·ac_nf;refine zw IF ht ∅ ∅ ∅ ∅ λrs a M1 F2 g1 n1 fv=>?_
  have IA:n*n<=9:=LS L.2 L.2;have IM:n*(n*n)<=27:=LS L.2 IA;have hlen:rs.length<=27:=by have:=F2.len;unfold bp at this;rw[fO,LO]at this;lia
  have Ix:∀k,-27<=cf rs k/\cf rs k<=27:=λk=>by
   rw[F2.cf];have:=qB (ts:=bp n n n) (B:=1) ∅ (λt ht=>by obtain⟨a,b,c,_,_,_,rfl⟩:=iM ht;unfold cT;dsimp only;lia) (k:=k)
   rw[show(bp n n n).length=n*(n*n) by unfold bp;rw[fO,LO]]at this
   lia
  have hI:InB rs (n*n) (n*n) (n*n):=BQ F2 (λt ht=>by obtain⟨a,b,c,ha,hb,hc,rfl⟩:=iM ht;unfold cT;have h1:=qE ha hc;have h2:=qE ha hb;have h3:=qE hb hc;dsimp only;lia) (by unfold bp;rw[fO,LO];lia)
  refine zC ID IE ∅ ∅ ∅ ∅ fv F2.nodup hI ∅ λp M2 g2 n2 e2=>?_
  refine hR _ _ ⟨_,_,rfl,g1.trans g2,e2,?_,?_,?_,?_⟩
  ·intro z;have h:cf (bp n n n) (0,0,0)=0:=by
    rw[<-F2.cf,<-Ak hI,z];rfl
   have h2:cf (bp 2 2 2) (0,0,0)≠0/\cf (bp 3 3 3) (0,0,0)≠0:=by decide +kernel
   rcases hn with rfl|rfl
   ·exact h2.1 h
   ·exact h2.2 h
  ·have:=Fs hI;lia
  ·exact Ft λk=>by have:=Ix k;lia
  ·exactλk i j=>by rw[Ak hI,F2.cf]
 rintro ρ M1 ⟨ps,p,rfl,g1,fv,G⟩;refine de (λρ M'=>∃ps p,ρ=[Z (.ref b),Z (.int n),Z (.tup [.int (n*n:Nat),.int (n*n:Nat),.int (n*n:Nat),.ref p]),Y,Y,Y,Y,Y]/\Bx b M M'/\M' p=Z (.lst (ps.map prD))/\TS n 27 ps) (λR hR=>?_) ?_
 ·ac_nf;have x1:Bx b M M1:=Bx.of hb g1
  rcases hn with rfl|rfl
  ·rw[if_pos (by rfl)]
   refine U x1.box (by decide) (by decide) λv M2 v0 v1 x2=>?_
   have F:p≠b:=λz=>by obtain⟨_,_,_,e⟩:=x1.box;rw[<-z,fv]at e;cases ps with
    |nil=>exact G.ne rfl
    |cons a r=>cases e
   have e2:=x2.keep _ _ F fv;have x2:=x1.trans x2;refine⟨_,rfl,?_⟩
   by_cases J:0<v
   ·rw[if_pos (by simpa using J)]
    nofun;refine xf IG ∅ λp' IH=>?_
    exact hR _ _ ⟨_,_,rfl,x2.ge (.new IH),ab,by decide,by decide,zE,λ_ _ _=>zA⟩
   ·rw[if_neg (by simpa using J)]
    exact hR _ _ ⟨_,_,rfl,x2,e2,G⟩
  ·rw[if_neg (by decide)]
   exact hR _ _ ⟨_,_,rfl,x1,fv,G⟩
 clear G fv p ps g1 M1;rintro ρ M1 ⟨ps,p,rfl,x1,fv,G⟩;nofun;refine⟨_,rfl,_,_,rfl,af fv,λp3 Iq=>?_⟩;have F:p3≠b:=λz=>by obtain⟨_,_,_,e⟩:=x1.box;rw[<-z,Iq]at e;cases e
 have n3:=x1.none Iq F;have x3:=x1.ge (Ge.new (o:=.lst (ps.map prD)) Iq);have e3:=ab (M:=M1) (a:=p3) (o:=.lst (ps.map prD));generalize ag M1 p3 (.lst (ps.map prD))=M3 at x3 e3⊢;generalize D.tup [.int (n*n:Nat),.int (n*n:Nat),.int (n*n:Nat),.ref p]=sch;have IA:n*n<=9:=LS L.2 L.2;refine de (λρ M'=>∃ps o4 o5 o6,ρ=[Z (.ref b),Z (.int n),Z sch,Z (.ref p3),o4,o5,o6,Y]/\Bx b M M'/\M' p3=Z (.lst (ps.map prD))/\TS n 29 ps) (λR hR=>?_) ?_
 ·ac_nf;refine U x3.box (by decide) (by decide) λv M4 v0 v1 x4=>?_
  have e4:=x4.keep _ _ F e3;have x4:=x3.trans x4;ac_nf
  by_cases J:v=0
  ·rw[if_pos (by simp[J])]
   nofun;refine⟨by decide,by decide,?_⟩
   refine am (f:=λi:Nat=>.int (i:Nat)) (ys:=KA 3) (I:=λl ρ M' acc=>(∃o0,ρ=[o0,Z (.ref b),Z (.int n)])/\Bx b M M'/\M' p3=Z (.lst (ps.map prD))/\∃vs:List (List Int),acc=vs.map (λv=>.tup (v.map .int))/\vs.length=l.length/\∀v∈vs,v.length=n*n/\dl v) aF ⟨⟨_,rfl⟩,x4,e4,[],rfl,rfl,by simp⟩ (λ_ _ _ _ _=>trivial) ?_ ?_
   ·rintro l i r ρ M5 acc e ⟨⟨o0,rfl⟩,O,e5,vs,rfl,hl,J⟩;refine⟨_,rfl,λN' Iy=>?_⟩;have IB:=ax e;rw[LO]at IB;ac_nf;refine⟨bx ⟨∅,∅⟩,?_⟩
    rw[show(n:Int)*n=((n*n:Nat):Int) by simp]
    refine Iw ∅ O.box λns M6 II IJ x6=>?_
    refine⟨by rw[q7,D0];lia,Iy _ _ _ ⟨⟨_,rfl⟩,O.trans x6,x6.keep _ _ F e5,vs++[ns],by simp,by simp[hl],λv IK=>?_⟩⟩
    rcases KQ.mp IK with h|h
    ·exact J v h
    ·rw[Mk]at h;subst h;exact⟨II,IJ⟩
   ·rintro ρ M5 acc ⟨⟨o0,rfl⟩,O,e5,vs,rfl,hl,J⟩ pv hpv;obtain⟨l,r,o,rfl⟩:∃l r o,vs=[l,r,o]:=by
     match vs,hl with
     |[l,r,o],_=>exact⟨l,r,o,rfl⟩
    refine⟨_,ab,_,rfl,?_⟩;have gv:=Ge.new (o:=.lst ([l,r,o].map λv=>.tup (v.map .int))) hpv;have e6:=gv _ _ e5;have x6:=O.ge gv;have Ir:=J l (by simp)
    have Is:=J r (by simp)
    have Iu:=J o (by simp)
    generalize ag M5 pv (.lst ([l,r,o].map λv=>.tup (v.map .int)))=M6 at gv e6 x6⊢;clear J e5 O gv hpv x4 e4;nofun;refine⟨⟨_,e6⟩,b7 e6 ?_⟩;ac_nf;rw[q7];refine U x6.box ∅ (by have:=G.len;lia) λw M7 w0 w1 x7=>?_
    have e7:=x7.keep _ _ F e6;have x7:=x6.trans x7;refine⟨by rw[D0];lia,?_⟩
    refine⟨_,_,_,_,rfl,rfl,e7,w0,by rw[q7];lia,by rw[q7,D0];have:=G.len;lia,?_⟩
    have eq:(ps.map prD).take w.toNat++D.tup [D.tup (l.map D.int),D.tup (r.map D.int),D.tup (o.map D.int)]::(ps.map prD).drop w.toNat=(ps.take w.toNat++(l,r,o)::ps.drop w.toNat).map prD:=by rw[Lf,KY,List.map_take,List.map_drop];rfl
    rw[eq];have IC:∀p∈ps.take w.toNat++(l,r,o)::ps.drop w.toNat,qw (n*n) (n*n) (n*n) p:=λy hy=>by
     rcases KQ.mp hy with h|h
     ·exact G.pr y (Of h)
     ·rcases KH.mp h with rfl|h
      ·exact⟨Ir.1,Is.1,Iu.1,Ir.2,Is.2,Iu.2⟩
      ·exact G.pr y (Oe h)
    have F2:∀k i j,Tn (ps.take w.toNat++(l,r,o)::ps.drop w.toNat) k i j=Tn ps k i j+tm (l,r,o) k i j:=λk i j=>E5;have hlen:(ps.take w.toNat++(l,r,o)::ps.drop w.toNat).length<=28:=by have:=G.len;rw[D1,LF,Lk,N5];lia
    generalize ps.take w.toNat++(l,r,o)::ps.drop w.toNat=qs at IC F2 hlen⊢;have e8:=ab (M:=M7) (a:=p3) (o:=.lst (qs.map prD));have x8:=x7.upd (o:=.lst (qs.map prD)) n3 F;generalize ag M7 p3 (.lst (qs.map prD))=M8 at e8 x8⊢;clear e7 x7 e6 x6;nofun;refine⟨⟨_,e8⟩,?_⟩;refine am (f:=.int) (ys:=o) (I:=λl ρ M' acc=>(∃o0,ρ=[o0])/\M'=M8/\acc=(ngL l).map .int) rfl ⟨⟨_,rfl⟩,rfl,rfl⟩ (λ_ _ _ _ _=>trivial) ?_ ?_
    ·rintro l2 y r2 ρ M9 acc e ⟨⟨o0,rfl⟩,rfl,rfl⟩;refine⟨_,rfl,λN' Iy=>?_⟩;have IB:=ax e;ac_nf;exact⟨by rw[q7,wZ,D0];lia,Iy _ _ _ ⟨⟨_,rfl⟩,rfl,by simp[ngL]⟩⟩
    ·rintro ρ M9 acc ⟨_,rfl,rfl⟩ p9 hp9;refine⟨_,_,rfl,af ab,?_⟩;have g9:=Ge.new (o:=.lst ((ngL o).map .int)) hp9;have e9:=g9 _ _ e8;have x9:=x8.ge g9;generalize ag M9 p9 (.lst ((ngL o).map .int))=M10 at g9 e9 x9⊢;refine⟨by rw[D0];decide,p3,_,_,rfl,rfl,e9,by rw[q7,D0];lia,?_⟩
     refine hR _ _ ⟨qs++[(l,r,ngL o)],_,_,_,rfl,x9.upd n3 F,by rw[ab,Lf];rfl,by simp,by rw[D1,MU];lia,λy hy=>?_,λk i j=>?_⟩
     ·rcases KQ.mp hy with h|h
      ·exact IC y h
      ·rw[Mk]at h;subst h;exact⟨Ir.1,Is.1,by rw[wZ];exact Iu.1,Ir.2,Is.2,zD Iu.2⟩
     ·have:=Fv (l:=l) (r:=r) (o:=o) (k:=k) (i:=i) (j:=j);rw[ie,Ai,F2,G.tn,show Tn [] k i j=0 from rfl];lia
  ·rw[if_neg (by simp[J])]
   exact hR _ _ ⟨_,_,_,_,rfl,x4,e4,G.ne,by have:=G.len;lia,G.pr,G.tn⟩
 clear G e3 fv Iq x3 ps x1;rintro ρ M4 ⟨ps,o4,o5,o6,rfl,x4,e4,G⟩;nofun;refine b7 e4 ?_;rw[q7];have IN:=LQ.mpr G.ne;have hlen:=G.len;refine U x4.box ∅ ∅ λv M5 v0 v1 O=>?_
 have e5:=O.keep _ _ F e4;have O:=x4.trans O;obtain⟨a,rfl⟩:=NA v0;have Iv:a<=ps.length:=∅
 nofun;refine⟨bx ⟨∅,∅⟩,bx ⟨∅,∅⟩,bx ⟨∅,∅⟩,?_⟩
 refine⟨_,e5,λpa Iw=>?_⟩;have ga:=Ge.new (o:=.lst (cB (ps.map prD) (Z (a:Int)) Y)) Iw;refine⟨_,ga _ _ e5,λpb F=>?_⟩;have gb:=ga.trans (Ge.new (o:=.lst (cB (ps.map prD) Y (Z (a:Int)))) F);refine⟨_,_,Ge.new F _ _ ab,ab,?_,λpc Iz=>⟨by rw[D0];decide,?_⟩⟩
 ·rw[xh (by simpa using Iv),xg (by simpa using Iv),D0,Lk,N5,q7];lia
 have IO:=O.box;have xb:=O.ge gb;have Ix:pc≠b:=λz=>by obtain⟨_,_,_,e⟩:=xb.box;rw[<-z,Iz]at e;cases e
 rw[show(n:Int)*n=((n*n:Nat):Int) by simp]
 refine q (ps.drop a++ps.take a) pc _ ⟨?_,?_,λy hy=>?_,λk i j=>?_⟩ (xb.ge (.new Iz)) (xb.none Iz Ix) ?_
 ·intro z;have:=congrArg LP z;rw[D1,Lk,N5,Nj]at this;lia
 ·rw[D1,Lk,N5];lia
 ·rcases KQ.mp hy with h|h
  ·exact G.pr y (Oe h)
  ·exact G.pr y (Of h)
 ·rw[E8,G.tn]
 ·rw[ab,xh (by simpa using Iv),xg (by simpa using Iv),<-List.map_take,<-List.map_drop,<-Lf]
end
section
variable{T:List FD}
theorem sM:∀n:Nat,ay tZ (KD n (D.bl N3))=Z (KD n N3)
 |0=>rfl
 |n+1=>by rw[LY];unfold ay;rw[sM n];rfl
theorem qH(e:M p=Z (.lst (KD n (.bl N3))))(q:Q (.bl N3) M):pQ [.ref p] M Q:=by
 refine⟨_,_,_,rfl,af e,sM n,?_⟩;rw[show(KD n N3).all id=N3 by simp]
 exact q
theorem C4{a b c d:D}(q:Q (.tup [a,b,c]) M):fG (.tup [a,b,c,d]) Y (Z 3) M Q:=q
end
section
open L2.Srt
variable{T:List FD}
noncomputable abbrev Bks:=List (VQ×List Int)
structure RwAt(M:Mem)(p:VQ)(R:Bks)(W:Nat):Prop where
 at':M p=Z (.lst (R.map λr=>.ref r.1))
 row:∀r∈R,M r.1=Z (.lst (r.2.map .int))/\r.2.length=W
theorem RwAt.ge{R:Bks}(h:RwAt M p R W)(g:Ge M M'):RwAt M' p R W:=⟨g _ _ h.at',λr j=>⟨g _ _ (h.row r j).1,(h.row r j).2⟩⟩
noncomputable def jq(c:Int)(m b:List Int):List Int:=(m.zip b).map λu=>u.1+c*u.2
noncomputable def aB(B:List (List Int))(W:Nat)(zs:List (Int×Int)):List Int:=zs.foldl (λm z=>jq z.2 m (B.getD z.1.toNat [])) (KD W 0)
theorem fb{z:Int×Int}:aB B W (zs++[z])=jq z.2 (aB B W zs) (B.getD z.1.toNat []):=by unfold aB;rw[Qb];rfl
theorem jr{m b:List Int}(h:m.length=W)(g:b.length=W):(jq c m b).length=W:=by simp[jq,h,g]
theorem fQ{z:Int×Int}(h:z∈nz l):∃i:Nat,z.1=i/\i<l.length/\l[i]?=Z z.2:=by unfold nz idx at h;obtain⟨h,_⟩:=NB.mp h;obtain⟨i,hi,e⟩:=List.mem_mapIdx.mp h;subst e;exact⟨i,rfl,hi,y3 hi⟩
theorem dw{α:Type}{xs:List α}{i:Nat}{x:α}(h:xs[i]?=Z x):atI xs (i:Nat)=Z x:=by
 have:=(KN.mp h).1;unfold atI ixN;rw[if_pos ∅,if_pos ∅,Oy,KO]
 exact h
theorem qI:∀{a b:List Int},Pe gd (a.map .int) (b.map .int)=(a.zip b).map pD
 |[],_=>by simp
 |_::_,[]=>by simp
 |x::a,y::b=>by have:=qI (a:=a) (b:=b);simp only[KY,Qc,NV,this];rfl
noncomputable def ig(s:Stmt)(ff:Nat):FD:=⟨"block_sum",s,["part","blocks","made","at","c"],2,
 (.cons (.asg (.name 2) (.bin .mul (.lst (.cons (.int 0) .nil)) (.blt .len (.cons (.ix (.var 1) (.int 0)) .nil))))
 (.cons (.for (.tup (.cons (.name 3) (.cons (.name 4) .nil))) (.seq (.call ff (.cons (.var 0) .nil))) (.cons (.asg (.name 2) (.comp [Y,Y,(Z 4)] ["x","y","c"] (.last (.zip (.var 2) (.ix (.var 1) (.var 3))) (.tup (.cons (.name 0) (.cons (.name 1) .nil))) .nil (.bin .add (.var 0) (.bin .mul (.var 2) (.var 1))))))
 .nil))
 (.cons (.ret (.var 2))
 .nil)))⟩
theorem sN(hf:T[f]?=Z (ig s ff))(Iq:T[ff]?=Z (dg sf))(hn:2<=n){R:Bks}{pb:VQ}(hR:RwAt M pb R W)(hl:l.length=R.length)(h0:1<=R.length)(hb:R.length<=1000)(hw:W<=100000)(hs:∀x∈l,-(2^64)<x/\x<2^64)(q:∀p M',Ge M M'->M p=Y->M' p=Z (.lst ((aB (R.map (·.2)) W (nz l)).map .int))->Q (.ref p) M'):phi T n f [.tup (l.map .int),.ref pb] M Q:=by
 refine aA ∅ hf rfl (ρ:=[Z _,Z _,Y,Y,Y]) rfl ?_
 unfold ig;nofun;refine⟨by rw[D0];decide,λp1 Ir=>?_⟩
 have g1:Ge M (ag M p1 (.lst [.int 0])):=.new Ir;have G:=hR.ge g1;obtain⟨j,R',rfl⟩:∃j R',R=j::R':=by
  cases R with
  |nil=>simp at h0
  |cons j R'=>exact⟨j,R',rfl⟩
 refine aJ G.at' (d:=.ref j.1) (by simp[atI,ixN]) ?_
 refine b7 (G.row j (Ln ..)).1 ?_;rw[q7,(G.row j (Ln ..)).2];refine wMul_r.mpr ⟨[.int 0],ab,∅,∅,by rw[D0];simp;lia,λp2 J=>?_⟩
 rw[show(KD (W:Int).toNat [D.int 0]).flatten=(KD W (0:Int)).map .int by simp]
 have g2:=g1.trans (.new (o:=.lst ((KD W (0:Int)).map .int)) J);have Iv:=hR.ge g2;nofun;refine nG Iq ∅ (l:=l) ∅ rfl λp3 L=>?_
 refine⟨_,af ab,?_⟩;have g3:=g2.trans (.new (o:=.lst ((nz l).map pD)) L);refine bJ (f:=pD) (ys:=nz l) (I:=λzs ρ M'=>∃pm fv o4,ρ=[Z (.tup (l.map .int)),Z (.ref pb),Z (.ref pm),fv,o4]/\Ge M M'/\M pm=Y/\M' pm=Z (.lst ((aB ((j::R').map (·.2)) W zs).map .int))/\(aB ((j::R').map (·.2)) W zs).length=W/\M' p3=Z (.lst ((nz l).map pD))) rfl ?_ ?_ ?_ ?_
 ·refine⟨p2,Y,Y,rfl,g3,?_,?_,by simp[aB],ab⟩
  ·cases e:M p2 with
   |none=>rfl
   |some o=>rw[g1 _ _ e]at J;cases J
  ·rw[ar (λz=>by subst z;rw[ab]at L;cases L)]
   exact ab
 ·rintro zs ρ M' ⟨pm,fv,o4,rfl,g,n0,em,ln,U⟩;exact af U
 ·rintro zs z r ρ M' e ⟨pm,fv,o4,rfl,g,n0,em,ln,U⟩;refine⟨_,rfl,λF hF=>?_⟩;nofun;obtain⟨i,ei,hi,ez⟩:=fQ (show z∈nz l by rw[e];simp)
  have Iw:=hs _ (L5 ez);obtain⟨b,eb⟩:∃b,(j::R')[i]?=Z b:=⟨_,y3 ∅⟩
  have O:=L5 eb;have B:=hR.ge g;refine aJ B.at' (d:=.ref b.1) ?_ ?_
  ·rw[ei];exact dw (by rw[KL,eb];rfl)
  have hB:((j::R').map (·.2)).getD z.1.toNat []=b.2:=by rw[ei,KO,I7,KL,eb];rfl
  refine⟨_,af em,_,af (B.row b O).1,?_⟩;rw[qI];refine am (f:=pD) (ys:=(aB ((j::R').map (·.2)) W zs).zip b.2) (I:=λt ρ M'' acc=>(∃o0 o1,ρ=[o0,o1,Z (.int z.2)])/\M''=M'/\acc=(t.map λu=>u.1+z.2*u.2).map .int) rfl ⟨⟨_,_,rfl⟩,rfl,rfl⟩ ?_ ?_ ?_
  ·rintro t ρ M1 acc ⟨_,rfl,_⟩;exact⟨af em,af (B.row b O).1⟩
  ·rintro t u r' ρ M1 acc e' ⟨⟨o0,o1,rfl⟩,rfl,rfl⟩;refine⟨_,rfl,λN' Is=>?_⟩;have Iu:=ax e';ac_nf;refine⟨bx ⟨∅,∅⟩,?_⟩
   rw[UZ,ln]at Iu;exact⟨by rw[q7,q7,D0];lia,Is _ _ _ ⟨⟨_,_,rfl⟩,rfl,by simp⟩⟩
  ·rintro ρ M1 acc ⟨⟨o0,o1,rfl⟩,rfl,rfl⟩ p F2;refine hF _ _ ⟨p,_,_,rfl,g.trans (.new F2),?_,?_,?_,?_⟩
   ·cases e9:M p with
    |none=>rfl
    |some o=>rw[g _ _ e9]at F2;cases F2
   ·rw[ab,fb,hB];rfl
   ·rw[fb,hB];exact jr ln (B.row b O).2
   ·rw[ar (λy=>by subst y;rw[U]at F2;cases F2)];exact U
 ·rintro ρ M' ⟨pm,fv,o4,rfl,g,n0,em,ln,U⟩;nofun;exact q _ _ g n0 em
end
section
open L2.Srt
variable{T:List FD}
noncomputable def bM(t:List Int)(us:List (Int×Int))(c:Int):List Int:=us.foldl (λt u=>t.set u.1.toNat (gz t u.1+c*u.2)) t
noncomputable def cq(P:List (List Int))(t:List Int)(zs:List (Int×Int))(b:List Int):List Int:=zs.foldl (λt z=>bM t ((P.getD z.1.toNat []).zip b) z.2) t
noncomputable def bW(mul:List Int->List Int->List Int)(BL BR:List (List Int))(W:Nat)(P:List (List Int))(N:Nat)(ps:List Pr):List Int:=ps.foldl (λt p=>cq P t (nz p.2.2) (mul (aB BL W (nz p.1)) (aB BR W (nz p.2.1)))) (KD N 0)
theorem fe{c:Int}:∀{us:List (Int×Int)} {t:List Int},(bM t us c).length=t.length
 |[],_=>rfl
 |u::us,t=>by show(bM (t.set _ _) us c).length=_;rw[fe (us:=us),So]
theorem kG{us:List (Int×Int)}{u:Int×Int}{t:List Int}:bM t (us++[u]) c=(bM t us c).set u.1.toNat (gz (bM t us c) u.1+c*u.2):=by unfold bM;rw[Qb];rfl
theorem nI{P:List (List Int)}{t:List Int}{z:Int×Int}{b:List Int}:cq P t (zs++[z]) b=bM (cq P t zs b) ((P.getD z.1.toNat []).zip b) z.2:=by unfold cq;rw[Qb];rfl
theorem gG{P:List (List Int)}{b:List Int}:∀{zs:List (Int×Int)} {t:List Int},(cq P t zs b).length=t.length
 |[],_=>rfl
 |z::zs,t=>by show(cq P (bM t _ _) zs b).length=_;rw[gG (zs:=zs),fe]
theorem gH{mul:List Int->List Int->List Int}{BL BR:List (List Int)}{W:Nat}{P:List (List Int)}{N:Nat}{ps:List Pr}{p:Pr}:bW mul BL BR W P N (ps++[p])=cq P (bW mul BL BR W P N ps) (nz p.2.2) (mul (aB BL W (nz p.1)) (aB BR W (nz p.2.1))):=by unfold bW;rw[Qb];rfl
theorem ii{BL BR P:List (List Int)}{ps:List Pr}:(bW mul BL BR W P N ps).length=N:=by
 refine bo (P:=λps=>(bW mul BL BR W P N ps).length=N) (by simp[bW]) (λl x ih=>?_) ps
 rw[gH,gG,ih]
noncomputable def kH(s:Stmt)(fs ff:Nat):FD:=⟨"by_blocks",s,["scheme","lefts","rights","places","multiply","told","times","l","r","o","block","more","k","c","at","x",""],5,
 (.cons (.par 5 6 (.bin .mul (.lst (.cons (.int 0) .nil)) (.bin .add (.ix (.ix (.var 3) (.neg (.int 1))) (.neg (.int 1))) (.int 1))) (.int 0))
 (.cons (.for (.tup (.cons (.name 7) (.cons (.name 8) (.cons (.name 9) .nil)))) (.seq (.ix (.var 0) (.int 3))) (.cons (.asg (.tup (.cons (.name 10) (.cons (.name 11) .nil))) (.callC 4 (.cons (.call fs (.cons (.var 7) (.cons (.var 1) .nil))) (.cons (.call fs (.cons (.var 8) (.cons (.var 2) .nil))) .nil))))
 (.cons (.aug 6 .add (.var 11))
 (.cons (.for (.tup (.cons (.name 12) (.cons (.name 13) .nil))) (.seq (.call ff (.cons (.var 9) .nil))) (.cons (.for (.tup (.cons (.name 14) (.cons (.name 15) .nil))) (.zip (.ix (.var 3) (.var 12)) (.var 10)) (.cons (.augI (.var 5) (.var 14) .add (.bin .mul (.var 13) (.var 15)))
 .nil))
 .nil))
 .nil))))
 (.cons (.ret (.tup (.cons (.var 5) (.cons (.var 6) .nil))))
 .nil)))⟩
theorem xi(s:Stmt)(fs ff:Nat):(kH s fs ff).takes:=by show(Ll "")∈([_,_,_,_,_,_,_,_,_,_,_,_,_,_,_,_,Ll ""]:List Str);simp only[KH,true_or,or_true]
theorem sP{α:Type}{xs:List α}{x:α}(h:xs.getLast?=Z x):atI xs (-1)=Z x:=by
 rw[Rf]at h;have:=(KN.mp h).1;unfold atI ixN;rw[if_neg ∅,if_pos ∅,Oy]
 rw[<-h];congr 1;lia
theorem qJ{M2:Mem}(g:Ge M M2)(h:M p=Y):Ge M (ag M2 p o):=λa o' e=>by rw[ar (λz=>by rw[z,h]at e;cases e)];exact g _ _ e
theorem fR(g:Ge M M')(h:M' p=Y):M p=Y:=by
 cases e:M p with
 |none=>rfl
 |some o=>rw[g _ _ e]at h;cases h
theorem E9 {fs:Nat}(hf:T[f]?=Z (kH s fs ff))(Is:T[fs]?=Z (ig ss ff))(L:T[ff]?=Z (dg sf))(h5:fs<5000/\ff<5000/\f<1000){j:Nat}(hn:4<=n)(hj:j<1000){gs:List D}{pp pL pR pP:VQ}{a0 a1 a2:D}{ps:List Pr}{RL RR RP:Bks}{V tm:Nat}(ep:M pp=Z (.lst (ps.map prD)))(hL:RwAt M pL RL W)(hR:RwAt M pR RR W)(hP:RwAt M pP RP V)(h0:1<=RL.length/\RL.length<=1000/\1<=RR.length/\RR.length<=1000/\1<=RP.length/\RP.length<=1000)(hw:W<=100000)(hv:1<=V/\V<=100000)(hN:N<=1000000)(hl:∀p∈ps,p.1.length=RL.length/\p.2.1.length=RR.length/\p.2.2.length=RP.length)(hs:∀p∈ps,(∀x∈p.1,-(2^64)<x/\x<2^64)/\(∀x∈p.2.1,-(2^64)<x/\x<2^64)/\∀x∈p.2.2,-(2^64)<x/\x<2^64)(Iz:∀r∈RP,∀x∈r.2,0<=x/\x<N)(IA:∃r,RP.getLast?=Z r/\r.2.getLast?=Z ((N:Int)-1))(IB:∀p∈ps,(mul (aB (RL.map (·.2)) W (nz p.1)) (aB (RR.map (·.2)) W (nz p.2.1))).length=V)(hmul:∀{p x y O Q1},p∈ps->Ge M O->O x=Z (.lst ((aB (RL.map (·.2)) W (nz p.1)).map .int))->O y=Z (.lst ((aB (RR.map (·.2)) W (nz p.2.1)).map .int))->
   (∀z M2,Ge O M2->O z=Y->M2 z=Z (.lst ((mul (aB (RL.map (·.2)) W (nz p.1)) (aB (RR.map (·.2)) W (nz p.2.1))).map .int))->Q1 (.tup [.ref z,.int tm]) M2)->rOf (phi T (n-1)) j gs js [.ref x,.ref y] O Q1)(q:∀p M',Ge M M'->M p=Y->M' p=Z (.lst ((bW mul (RL.map (·.2)) (RR.map (·.2)) W (RP.map (·.2)) N ps).map .int))->Q (.tup [.ref p,.int (ps.length*tm:Nat)]) M'):
 phi T n (1000+f) [.tup [a0,a1,a2,.ref pp],.ref pL,.ref pR,.ref pP,.ref a,.int (j:Nat),.tup gs,.tup ((js:List Nat).map λi:Nat=>.int i)] M Q:=by
 refine zo (xs:=[.tup [a0,a1,a2,.ref pp],.ref pL,.ref pR,.ref pP]) ∅ ∅ hj hf (xi s fs ff) rfl (ρ:=[Z _,Z _,Z _,Z _,Z _,Y,Y,Y,Y,Y,Y,Y,Y,Y,Y,Y,Y]) rfl ?_
 unfold kH;nofun;refine⟨by rw[D0];decide,λp1 IC=>?_⟩
 have g1:Ge M (ag M p1 (.lst [.int 0])):=.new IC;obtain⟨rl,el,ID⟩:=IA;have Iu:=hP.ge g1;refine aJ Iu.at' (d:=.ref rl.1) (sP (by rw[Rq,el];rfl)) ?_
 refine aJ (Iu.row rl (List.mem_of_getLast? el)).1 (d:=.int ((N:Int)-1)) (sP (by rw[Rq,ID];rfl)) ?_
 rw[DW,show(N:Int)-1+1=N by lia]
 refine wMul_r.mpr ⟨[.int 0],ab,∅,∅,by rw[D0];simp;lia,λpt Iv=>?_⟩
 rw[show(KD (N:Int).toNat [D.int 0]).flatten=(KD N (0:Int)).map .int by simp]
 have g2:=g1.trans (.new (o:=.lst ((KD N (0:Int)).map .int)) Iv);have npt:=fR g1 Iv;have eps:=g2 _ _ ep;nofun;refine⟨_,rfl,_,af eps,?_⟩;refine bJ (f:=prD) (ys:=ps) (I:=λl ρ M'=>∃o7 o8 o9 IE IF U F2 B G,ρ=[Z (.tup [a0,a1,a2,.ref pp]),Z (.ref pL),Z (.ref pR),Z (.ref pP),Z (.ref a),Z (.ref pt),Z (.int (l.length*tm:Nat)),o7,o8,o9,IE,IF,U,F2,B,G,Y]/\Ge M M'/\M' pt=Z (.lst ((bW mul (RL.map (·.2)) (RR.map (·.2)) W (RP.map (·.2)) N l).map .int))) rfl ?_ ?_ ?_ ?_
 ·exact⟨Y,Y,Y,Y,Y,Y,Y,Y,Y,by simp,g2,ab⟩
 ·rintro l ρ M' ⟨_,_,_,_,_,_,_,_,_,rfl,g,_⟩;exact af (g _ _ ep)
 ·rintro l p r ρ M' e ⟨_,_,_,_,_,_,_,_,_,rfl,g,et⟩;refine⟨_,rfl,λF hF=>?_⟩;have hp:p∈ps:=by rw[e];simp
  obtain⟨l1,l2,l3⟩:=hl p hp;obtain⟨s1,s2,s3⟩:=hs p hp;have lo:p.2.2.length<=1000:=by rw[l3];exact h0.2.2.2.2.2
  nofun;refine⟨a,rfl,?_⟩;ac_nf;refine ls (sN Is L ∅ (hL.ge g) l1 h0.1 h0.2.1 hw s1 λx O gx nx ex=>?_) h5.1
  refine ls (sN Is L ∅ ((hR.ge g).ge gx) l2 h0.2.2.1 h0.2.2.2.1 hw s2 λy M2 gy ny ey=>?_) h5.1
  have gm:=(g.trans gx).trans gy;refine BB (hmul hp gm (gy _ _ ex) ey λz M3 gz' nz' ez=>?_);have g3:=gm.trans gz';refine⟨_,rfl,?_⟩;nofun;have Iw:=(gx.trans gy |>.trans gz') _ _ et
  nofun;refine ls (nG L ∅ (l:=p.2.2) ∅ rfl λpz J=>?_) h5.2.1
  have g4:=g3.trans (.new (o:=.lst ((nz p.2.2).map pD)) J);have fv:ag M3 pz (.lst ((nz p.2.2).map pD)) z=_:=Ge.new (o:=.lst ((nz p.2.2).map pD)) J _ _ ez;have Iq:ag M3 pz (.lst ((nz p.2.2).map pD)) pt=_:=Ge.new (o:=.lst ((nz p.2.2).map pD)) J _ _ Iw;have Ir:ag M3 pz (.lst ((nz p.2.2).map pD)) pz=Z (.lst ((nz p.2.2).map pD)):=ab;have nzp:z≠pt:=λy=>by subst y;rw[(gx.trans gy) _ _ et]at nz';cases nz'
  have npp:pz≠pt:=λy=>by subst y;rw[Iw]at J;cases J
  generalize ag M3 pz (.lst ((nz p.2.2).map pD))=M4 at g4 fv Iq Ir⊢;have Ix:(bW mul (RL.map (·.2)) (RR.map (·.2)) W (RP.map (·.2)) N l).length=N:=ii;have hb:=IB p hp;have fin:=@gH mul (RL.map (·.2)) (RR.map (·.2)) W (RP.map (·.2)) N l p;generalize bW mul (RL.map (·.2)) (RR.map (·.2)) W (RP.map (·.2)) N l=t0 at Iq Ix fin;generalize mul (aB (RL.map (·.2)) W (nz p.1)) (aB (RR.map (·.2)) W (nz p.2.1))=b at fv hb fin;refine⟨_,af Ir,?_⟩;refine bJ (f:=pD) (ys:=nz p.2.2) (I:=λzs ρ M'=>∃U F2 B G,ρ=[Z (.tup [a0,a1,a2,.ref pp]),Z (.ref pL),Z (.ref pR),Z (.ref pP),Z (.ref a),Z (.ref pt),Z (.int ((l.length*tm:Nat)+(tm:Nat))),Z (.tup (p.1.map .int)),Z (.tup (p.2.1.map .int)),Z (.tup (p.2.2.map .int)),Z (.ref z),Z (.int (tm:Nat)),U,F2,B,G,Y]/\M'=ag M4 pt (.lst ((cq (RP.map (·.2)) t0 zs b).map .int))) rfl ?_ ?_ ?_ ?_
  ·exact⟨_,_,_,_,rfl,(wB Iq).symm⟩
  ·rintro zs ρ M' ⟨_,_,_,_,rfl,rfl⟩;exact af (by rw[ar npp];exact Ir)
  ·rintro zs w r' ρ M' e' ⟨_,_,_,_,rfl,rfl⟩;refine⟨_,rfl,λF2 IG=>?_⟩;obtain⟨i,ei,hi,ew⟩:=fQ (show w∈nz p.2.2 by rw[e'];simp)
   have IM:=s3 _ (L5 ew);obtain⟨row,er⟩:∃row,RP[i]?=Z row:=⟨_,y3 ∅⟩
   have Iy:=L5 er;have g5:∀t:List Int,Ge M (ag M4 pt (.lst (t.map .int))):=λt=>qJ g4 npt;have IH:(RP.map (·.2)).getD w.1.toNat []=row.2:=by rw[ei,KO,I7,KL,er];rfl
   have sz:∀t:List Int,aM (ag M4 pt (.lst (t.map .int))) (.ref z)=Z (b.map .int):=λt=>af (by rw[ar nzp];exact fv)
   have sr:∀t:List Int,aM (ag M4 pt (.lst (t.map .int))) (.ref row.1)=Z (row.2.map .int):=λt=>af (g5 t _ _ (hP.row row Iy).1);nofun;refine aJ ((hP.ge (g5 _)).at') (d:=.ref row.1) (by rw[ei];exact dw (by rw[KL,er];rfl)) ?_
   refine⟨_,sr _,_,sz _,?_⟩;rw[qI];have II:(cq (RP.map (·.2)) t0 zs b).length=N:=by rw[gG,Ix]
   refine bJ (f:=pD) (ys:=row.2.zip b) (I:=λus ρ M'=>∃B G,ρ=[Z (.tup [a0,a1,a2,.ref pp]),Z (.ref pL),Z (.ref pR),Z (.ref pP),Z (.ref a),Z (.ref pt),Z (.int ((l.length*tm:Nat)+(tm:Nat))),Z (.tup (p.1.map .int)),Z (.tup (p.2.1.map .int)),Z (.tup (p.2.2.map .int)),Z (.ref z),Z (.int (tm:Nat)),Z (.int w.1),Z (.int w.2),B,G,Y]/\M'=ag M4 pt (.lst ((bM (cq (RP.map (·.2)) t0 zs b) us w.2).map .int))) rfl ?_ ?_ ?_ ?_
   ·exact⟨_,_,rfl,rfl⟩
   ·rintro us ρ M' ⟨_,_,rfl,rfl⟩;exact⟨sr _,sz _⟩
   ·rintro us u r2 ρ M' e2 ⟨_,_,rfl,rfl⟩;refine⟨_,rfl,λF3 IJ=>?_⟩;have hu:=Iz row Iy u.1 (O6 (show(u.1,u.2)∈row.2.zip b by rw[e2];simp)).1
    have lt2:(bM (cq (RP.map (·.2)) t0 zs b) us w.2).length=N:=by rw[fe,II]
    have eu:u.1=((u.1.toNat:Nat):Int):=∅
    have hk:u.1.toNat<N:=∅
    have IK:atI ((bM (cq (RP.map (·.2)) t0 zs b) us w.2).map D.int) u.1=Z (.int (gz (bM (cq (RP.map (·.2)) t0 zs b) us w.2) u.1)):=by rw[eu];exact dw (by rw[KL,cU (by rw[lt2];exact hk)];rfl)
    nofun;refine⟨pt,_,u.1,_,rfl,rfl,ab,IK,bx ⟨∅,∅⟩,?_⟩
    rw[BA];refine eJ ab (j:=u.1.toNat) (by rw[eu,q7,lt2];unfold ixN;rw[if_pos ∅,if_pos ∅]) ?_
    rw[wz,<-Uk];exact IJ _ _ ⟨_,_,rfl,by rw[kG]⟩
   ·rintro ρ M' ⟨_,_,rfl,rfl⟩;ac_nf;exact IG _ _ ⟨_,_,_,_,rfl,by rw[nI,IH]⟩
  ·rintro ρ M' ⟨_,_,_,_,rfl,rfl⟩;ac_nf;have e6:((l.length*tm:Nat):Int)+(tm:Nat)=((l++[p]).length*tm:Nat):=by rw[D1,MU,US,Nat.one_mul,Sw]
   rw[e6];exact hF _ _ ⟨_,_,_,_,_,_,_,_,_,rfl,qJ g4 npt,by rw[ab,fin]⟩
 ·rintro ρ M' ⟨_,_,_,_,_,_,_,_,_,rfl,g,et⟩;nofun;exact⟨by rw[D0];decide,q _ _ g npt et⟩
end
section
open L2.Srt
theorem zF{t:List Int}:∀us:List (Int×Int),(∀u∈us,0<=u.1/\u.1<t.length)->gz (bM t us c) z=gz t z+c*S1 us z:=by
 refine bo (P:=λus:List (Int×Int)=>(∀u∈us,0<=u.1/\u.1<(t.length:Int))->gz (bM t us c) z=gz t z+c*S1 us z) (λ_=>by simp[bM,S1]) λl x ih h=>?_
 have hx:=h x (by simp)
 have e:=ih λu j=>h u (Lp _ j);rw[kG,wV (by rw[fe];lia),nF,dR,show S1 [] z=0 by rfl]
 by_cases y:z=x.1
 ·subst y;rw[if_pos ∅,if_pos rfl,e];grind
 ·rw[if_neg ∅,if_neg ∅,e];grind
theorem qK{k v:Int}:∀{zs:List (Int×Int)},(zs.map λw=>w.2*if w.1=k then v else 0).sum=S1 zs k*v
 |[]=>by simp[S1]
 |w::zs=>by
  rw[KY,Tu,qK (zs:=zs),dR]
  split<;>grind
theorem C5{P:List (List Int)}{b t:List Int}:∀zs:List (Int×Int),(∀w∈zs,∀u∈(P.getD w.1.toNat []).zip b,0<=u.1/\u.1<t.length)->gz (cq P t zs b) z=gz t z+(zs.map λw=>w.2*S1 ((P.getD w.1.toNat []).zip b) z).sum:=by
 refine bo (P:=λzs=>(∀w∈zs,∀u∈(P.getD w.1.toNat []).zip b,0<=u.1/\u.1<t.length)->gz (cq P t zs b) z=gz t z+(zs.map λw=>w.2*S1 ((P.getD w.1.toNat []).zip b) z).sum) (λ_=>by simp[cq]) λl x ih h=>?_
 have e:=ih λu j=>h u (Lp _ j);rw[nI,zF _ (by rw[gG];exact h x (by simp)),e,Lf,QF]
 simp;lia
theorem Ea{x:Int}:nz (l++[x])=nz l++(if x=0 then[]else[(((l.length:Nat):Int),x)]):=by
 unfold nz idx;rw[TR,ON];congr 1
 by_cases h:x=0<;>simp[h]
theorem xj{x:Int}{i:Nat}:gz (l++[x]) (i:Nat)=if i=l.length then x else gz l (i:Nat):=by
 rw[eZ,dS,kE]
 by_cases h:i=l.length
 ·subst h;simp
 ·rw[if_neg h]
  by_cases y:i<l.length
  ·rw[if_pos ∅]
  ·rw[if_neg ∅,if_neg ∅]
   by_cases w:gz l (i:Nat)=0
   ·rw[w]
   ·have:=eN w;lia
theorem Eb:∀l:List Int,((nz l).map λw=>w.2*G w.1.toNat).sum=ao l.length λi=>gz l (i:Nat)*G i:=by
 refine bo (P:=λl=>((nz l).map λw=>w.2*G w.1.toNat).sum=ao l.length λi=>gz l (i:Nat)*G i) (by rfl) λl x ih=>?_
 rw[Ea,Lf,QF,ih,D1,MU,rsum_succ,xj,if_pos rfl];congr 1
 ·exact au λi hi=>by rw[xj,if_neg ∅]
 ·by_cases h:x=0
  ·subst h;simp
  ·rw[if_neg h];simp
theorem C6{m b:List Int}(hm:m.length=W)(j:b.length=W)(z:q<W):gz (jq c m b) (q:Nat)=gz m (q:Nat)+c*gz b (q:Nat):=by
 have h1:q<m.length:=∅
 have h2:q<b.length:=∅
 have e:(jq c m b)[q]?=Z (m[q]+c*b[q]):=by unfold jq;rw[KL,show(m.zip b)[q]?=Z (m[q],b[q])from List.getElem?_zip_eq_some.mpr ⟨y3 h1,y3 h2⟩];rfl
 unfold gz;rw[if_neg ∅,if_neg ∅,if_neg ∅,KO,I7,I7,I7,e,y3 h1,y3 h2]
 rfl
theorem C7(z:q<W):∀zs:List (Int×Int),(∀w∈zs,(B.getD w.1.toNat []).length=W)->(aB B W zs).length=W/\gz (aB B W zs) (q:Nat)=(zs.map λw=>w.2*gz (B.getD w.1.toNat []) (q:Nat)).sum:=by
 refine bo (P:=λzs=>(∀w∈zs,(B.getD w.1.toNat []).length=W)->(aB B W zs).length=W/\gz (aB B W zs) (q:Nat)=(zs.map λw=>w.2*gz (B.getD w.1.toNat []) (q:Nat)).sum) (λ_=>⟨by simp[aB],by simp[aB];exact qF⟩) λl x ih h=>?_
 obtain⟨j,F⟩:=ih λu G=>h u (Lp _ G);have hx:=h x (by simp)
 rw[fb];refine⟨jr j hx,?_⟩;rw[C6 j hx z,F,Lf,QF];simp
theorem lM(j:q<W)(F:l.length=B.length)(z:∀b∈B,b.length=W):gz (aB B W (nz l)) (q:Nat)=ao l.length λi=>gz l (i:Nat)*gz (B.getD i []) (q:Nat):=by
 rw[(C7 j (nz l) λw hw=>?_).2,Eb (G:=λi=>gz (B.getD i []) (q:Nat))];obtain⟨i,ei,hi,_⟩:=fQ hw;rw[ei,KO,I7,y3 ∅]
 exact z _ (Oz _)
theorem jt(F:l.length=B.length)(j:∀b∈B,b.length=W):(aB B W (nz l)).length=W:=by
 have g:∀zs:List (Int×Int),(∀w∈zs,(B.getD w.1.toNat []).length=W)->(aB B W zs).length=W:=bo (P:=λzs=>(∀w∈zs,(B.getD w.1.toNat []).length=W)->(aB B W zs).length=W) (λ_=>by simp[aB]) λl x ih h=>by rw[fb];exact jr (ih λu z=>h u (Lp _ z)) (h x (by simp))
 refine g _ λw hw=>?_;obtain⟨i,ei,hi,_⟩:=fQ hw;rw[ei,KO,I7,y3 ∅]
 exact j _ (Oz _)
theorem C8{BL BR P:List (List Int)}{V k0 q0:Nat}:∀ps:List Pr,(∀p∈ps,p.2.2.length=P.length/\(mul (aB BL W (nz p.1)) (aB BR W (nz p.2.1))).length=V)->(∀r∈P,∀x∈r,0<=x/\x<N)->
 (∀(b:List Int) (i:Nat),b.length=V->i<P.length->S1 ((P.getD i []).zip b) z=if(i:Int)=(k0:Nat)then gz b (q0:Nat)else 0)->
 gz (bW mul BL BR W P N ps) z=(ps.map λp=>gz p.2.2 (k0:Nat)*gz (mul (aB BL W (nz p.1)) (aB BR W (nz p.2.1))) (q0:Nat)).sum:=by
 intro ps h B F
 revert ps
 refine bo (P:=λps=>(∀p∈ps,p.2.2.length=P.length/\(mul (aB BL W (nz p.1)) (aB BR W (nz p.2.1))).length=V)->gz (bW mul BL BR W P N ps) z=(ps.map λp=>gz p.2.2 (k0:Nat)*gz (mul (aB BL W (nz p.1)) (aB BR W (nz p.2.1))) (q0:Nat)).sum) (λ_=>by simp[bW];exact qF) λl p ih h=>?_
 have e:=ih λu j=>h u (Lp _ j);obtain⟨h1,h2⟩:=h p (by simp)
 rw[gH,C5,e,Lf,QF]
 ·congr 1;have G:(nz p.2.2).map (fun w=>w.2*S1 ((P.getD w.1.toNat []).zip (mul (aB BL W (nz p.1)) (aB BR W (nz p.2.1)))) z)=(nz p.2.2).map fun w=>w.2*if w.1=((k0:Nat):Int)then gz (mul (aB BL W (nz p.1)) (aB BR W (nz p.2.1))) (q0:Nat)else 0:=Mw fun w hw=>by
   obtain⟨i,ei,hi,_⟩:=fQ hw;rw[ei,KO,F _ i h2 ∅]
  rw[G,qK,E7];simp
 ·intro w hw u j;obtain⟨i,ei,hi,_⟩:=fQ hw;rw[ii];rw[ei,KO,I7,y3 ∅]at j
  exact B _ (Oz _) _ (O6 j).1
end
section
open L2.Srt
noncomputable def grd{α:Type}(n:Nat)(F:Nat->Nat->α):List α:=(KA n).flatMap λa=>(KA n).map λb=>F a b
theorem fS{α:Type}{G:Nat->List α}{n:Nat}(h:∀a,(G a).length=n):∀m:Nat,((KA m).flatMap G).length=m*n
 |0=>by simp
 |m+1=>by rw[Sx,Tg,D1,fS h m];simp[h];lia
theorem xk{α:Type}{G:Nat->List α}{n:Nat}(h:∀a,(G a).length=n){a b:Nat}(j:b<n):∀{m:Nat},a<m->((KA m).flatMap G)[a*n+b]?=(G a)[b]?
 |m+1,z=>by
  rw[Sx,Tg]
  by_cases e:a<m
  ·rw[KS (by rw[fS h];exact Lh (by lia:a*n+b<(a+1)*n) (N8 n e)),xk h j e]
  ·have:a=m:=by lia
   subst this;rw[z0 (by rw[fS h];lia),fS h]
   simp
theorem bD{α:Type}{F:Nat->Nat->α}:(grd n F).length=n*n:=fS (λ_=>by simp) n
theorem kI{α:Type}{F:Nat->Nat->α}{a b:Nat}(z:a<n)(j:b<n):(grd n F)[a*n+b]?=Z (F a b):=by unfold grd;rw[xk (λ_=>by simp) j z,KL,Mm j];rfl
theorem cut(h:q<n*n):q / n<n/\q%n<n/\q=q / n*n+q%n:=by
 have j:0<n:=by
  cases n with
  |zero=>simp at h
  |succ n=>lia
 exact⟨Og h,Sk _ j,by rw[Nt];exact(Py q n).symm⟩
theorem dW{α:Type}{F:Nat->Nat->α}(h:q<n*n):(grd n F)[q]?=Z (F (q / n) (q%n)):=by obtain⟨h1,h2,j⟩:=cut h;have:=kI (F:=F) h1 h2;rw[<-j]at this;exact this
theorem lN{i:Nat}{x:Int}(h:l[i]?=Z x):gz l (i:Nat)=x:=by unfold gz;rw[if_neg ∅,KO,I7,h];rfl
theorem ij{F:Nat->Nat->Int}{a b:Nat}(j:a<n)(z:b<n):gz (grd n F) (a*n+b:Nat)=F a b:=lN (kI j z)
theorem xm{α:Type}{F G:Nat->Nat->α}(h:∀a b,a<n->b<n->F a b=G a b):grd n F=grd n G:=by
 refine MA λq=>?_
 by_cases j:q<n*n
 ·obtain⟨h1,h2,_⟩:=cut j;rw[dW j,dW j,h _ _ h1 h2]
 ·rw[Lx (by rw[bD];lia),Lx (by rw[bD];lia)]
theorem sQ{α β:Type}{F:Nat->Nat->α}{f:α->β}:(grd n F).map f=grd n λa b=>f (F a b):=by
 refine MA λq=>?_;rw[KL]
 by_cases j:q<n*n
 ·rw[dW j,dW j];rfl
 ·rw[Lx (by rw[bD];lia),Lx (by rw[bD];lia)];rfl
noncomputable def mm(s:Nat)(A B:List Int):List Int:=grd s λa c=>ao s λb=>gz A (a*s+b:Nat)*gz B (b*s+c:Nat)
noncomputable def aN(A:List Int)(s t:Nat):List Int:=grd t λa b=>if a<s/\b<s then gz A (a*s+b:Nat)else 0
noncomputable def bX(w W top first:Nat):List Int:=grd w λx y=>(((top+x)*W+first+y:Nat):Int)
noncomputable def fC(n w:Nat):List (List Int):=grd n λa b=>bX w (n*w) (a*w) (b*w)
noncomputable def bR(n w:Nat)(L:List Int):List (List Int):=(fC n w).map λsp=>sp.map λz=>gz L z
theorem sR{L:List Int}{a b x y:Nat}(j:a<n)(B:b<n)(hx:x<w)(F:y<w):gz ((bR n w L).getD (a*n+b) []) (x*w+y:Nat)=gz L ((a*w+x)*(n*w)+(b*w+y):Nat):=by unfold bR fC;rw[I7,sQ,kI j B];show gz ((bX w (n*w) (a*w) (b*w)).map λz=>gz L z) _=_;unfold bX;rw[sQ,ij hx F,Ou]
theorem gI{m:Nat}{F:Nat->Int}:∀n:Nat,ao (n*m) F=ao n λa=>ao m λb=>F (a*m+b)
 |0=>by rw[Nat.zero_mul];rfl
 |n+1=>by
  rw[rsum_succ,<-gI n];have g:∀k:Nat,ao (n*m+k) F=ao (n*m) F+ao k λb=>F (n*m+b):=λk=>by
   induction k with
   |zero=>show _=_+0;simp
   |succ k ih=>rw[<-Ou,rsum_succ,ih,rsum_succ];lia
  rw[Oc,g m]
theorem zG{s:Nat}(h:s<=W)(z:∀i,s<=i->F i=0):ao W F=ao s F:=by
 obtain⟨k,rfl⟩:=Nat.exists_eq_add_of_le h;clear h
 induction k with
 |zero=>rfl
 |succ k ih=>rw[<-Ou,rsum_succ,ih,z _ ∅];simp
theorem Al{z:Int}:∀{r b:List Int},r.length=b.length->S1 (r.zip b) z=ao b.length λq=>if gz r (q:Nat)=z then gz b (q:Nat)else 0
 |[],[],_=>rfl
 |x::r,y::b,h=>by
  rw[NV,dR,Al (r:=r) (b:=b) (by simpa using h),LF,wK]
  congr 1
theorem sU{w m:Nat}{k:Int}{GL GR:Nat->Nat->Int}:∀ps:List Pr,(ps.map λp=>gz p.2.2 k*ao w λb=>(ao m λi=>gz p.1 (i:Nat)*GL i b)*(ao m λj=>gz p.2.1 (j:Nat)*GR j b)).sum=ao w λb=>ao m λi=>ao m λj=>Tn ps k (i:Nat) (j:Nat)*(GL i b*GR j b)
 |[]=>by
  rw[bu]
  ·rfl
  ·exactλb _=>bu λi _=>bu λj _=>by simp[Tn]
 |p::ps=>by
  rw[KY,Tu,sU ps,<-eK,<-gF];refine au λb _=>?_;rw[<-wM,<-eK,<-gF];refine au λi _=>?_;rw[<-eK,<-eK,<-gF];refine au λj _=>?_;rw[df]
  grind
theorem iR{α:Type}{F:Nat->Nat->α}{r:α}(h:r∈grd n F):∃a b,a<n/\b<n/\r=F a b:=by unfold grd at h;obtain⟨a,j,h⟩:=N7.mp h;obtain⟨b,z,e⟩:=KP.mp h;exact⟨a,b,LC.mp j,LC.mp z,e.symm⟩
theorem qL{A A' C C':Nat}(h:C<W)(h':C'<W)(e:A*W+C=A'*W+C'):A=A'/\C=C':=by
 have h1:(A*W+C) / W=A:=by rw[Nt,Px ∅,Ph h];simp
 have h2:(A'*W+C') / W=A':=by rw[Nt,Px ∅,Ph h'];simp
 rw[e,h2]at h1;subst h1;exact⟨rfl,∅⟩
theorem lt2{A C U:Nat}(h:C<W)(g:A<U):A*W+C<U*W:=Lh (by lia:A*W+C<(A+1)*W) (N8 W g)
theorem ik{t:Nat}:(bX w W t f).length=w*w:=bD
theorem ju:(fC n w).length=n*n:=bD
theorem zH:∀r∈fC n w,r.length=w*w:=λr h=>by obtain⟨a,b,_,_,rfl⟩:=iR h;exact ik
theorem lP:∀r∈fC n w,∀x∈r,0<=x/\x<((n*w)*(n*w):Nat):=λr h z j=>by obtain⟨a,b,B,F,rfl⟩:=iR h;obtain⟨x,y,hx,G,rfl⟩:=iR j;have h1:a*w+x<n*w:=lt2 hx B;have h2:b*w+y<n*w:=lt2 G F;have J:=lt2 h2 h1;exact⟨∅,by rw[Ou];exact_mod_cast J⟩
theorem dh{L:List Int}:∀b∈bR n w L,b.length=w*w:=λb j=>by obtain⟨r,z,rfl⟩:=KP.mp j;rw[q7,zH r z]
theorem bS{L:List Int}:(bR n w L).length=n*n:=by unfold bR;rw[q7,ju]
theorem Fw{a c x y:Nat}(hx:x<w)(z:y<w)(ha:a<n)(J:c<n){b:List Int}{i:Nat}(L:b.length=w*w)(hi:i<n*n):
 S1 (((fC n w).getD i []).zip b) (((a*w+x)*(n*w)+(c*w+y):Nat):Int)=if(i:Int)=((a*n+c:Nat):Int)then gz b (x*w+y:Nat)else 0:=by
 obtain⟨i1,O,U⟩:=cut hi;have er:(fC n w).getD i []=bX w (n*w) (i / n*w) (i%n*w):=by rw[I7];unfold fC;rw[dW hi];rfl
 rw[er,Al (by rw[ik,L]),L]
 have ev:∀q,q<w*w->gz (bX w (n*w) (i / n*w) (i%n*w)) (q:Nat)=(((i / n*w+q / w)*(n*w)+(i%n*w+q%w):Nat):Int):=λq j=>by unfold bX;rw[lN (dW j),Ou]
 have key:∀q,q<w*w->(gz (bX w (n*w) (i / n*w) (i%n*w)) (q:Nat)=(((a*w+x)*(n*w)+(c*w+y):Nat):Int))->i / n=a/\i%n=c/\q=x*w+y:=λq j e=>by
  obtain⟨F2,B,G⟩:=cut j;rw[ev q j]at e;obtain⟨u1,u2⟩:=qL (lt2 B O) (lt2 z J) (by exact_mod_cast e)
  obtain⟨v1,v2⟩:=qL F2 hx u1;obtain⟨fv,w2⟩:=qL B z u2;exact⟨v1,fv,by rw[G,v2,w2]⟩
 by_cases h:i=a*n+c
 ·rw[if_pos (by exact_mod_cast h)]
  obtain⟨e1,e2⟩:=qL O J (U.symm.trans h);rw[<-eY (n:=w*w) (k:=x*w+y) (F:=λq=>gz b (q:Nat)) (lt2 z hx)];refine au λq j=>?_
  by_cases g:x*w+y=q
  ·rw[if_pos g,if_pos];subst g;obtain⟨g1,g2⟩:(x*w+y) / w=x/\(x*w+y)%w=y:=by
    obtain⟨_,B,G⟩:=cut j;obtain⟨z1,z2⟩:=qL z B G;exact⟨z1.symm,z2.symm⟩
   rw[ev _ j,g1,g2,e1,e2]
  ·rw[if_neg g,if_neg λe=>g (key q j e).2.2.symm]
 ·rw[if_neg (by exact_mod_cast h)]
  exact bu λq j=>if_neg λe=>h (by obtain⟨k1,k2,_⟩:=key q j e;rw[U,k1,k2])
theorem xo{a c:Nat}(J:a<n)(L:c<n){G:Nat->Nat->Nat->Nat->Int}:(ao n λa'=>ao n λb'=>ao n λj=>ao n λc'=>(if a=a'/\b'=j/\c=c' then 1 else 0)*G a' b' j c')=ao n λb'=>G a b' b' c:=by
 rw[<-eY (F:=λa'=>ao n λb'=>G a' b' b' c) J];refine au λa' _=>?_
 by_cases h:a=a'
 ·rw[if_pos h];refine au λb' O=>?_;rw[<-eY (F:=λj=>G a' b' j c) O];refine au λj _=>?_
  by_cases h2:b'=j
  ·rw[if_pos h2,<-eY (F:=λc'=>G a' b' j c') L];refine au λc' _=>?_
   by_cases B:c=c'
   ·rw[if_pos ⟨h,h2,B⟩,if_pos B,Int.one_mul]
   ·rw[if_neg (λz=>B z.2.2),if_neg B,Sl]
  ·rw[if_neg h2];exact bu λc' _=>by rw[if_neg (λz=>h2 z.2.1),Sl]
 ·rw[if_neg h];exact bu λb' _=>bu λj _=>bu λc' _=>by rw[if_neg (λz=>h z.1),Sl]
theorem C9{s:Nat}{ps:List Pr}{B:List Int}(hs:s<=n*w)(hT:∀k i j,Tn ps k i j=cf (bp n n n) (k,i,j))(hl:∀p∈ps,p.1.length=n*n/\p.2.1.length=n*n/\p.2.2.length=n*n):
 aN (bW (mm w) (bR n w (aN A s (n*w))) (bR n w (aN B s (n*w))) (w*w) (fC n w) ((n*w)*(n*w)) ps) (n*w) s=mm s A B:=by
 refine xm λA0 C0 hA hC=>?_;rw[if_pos ⟨∅,∅⟩]
 have hw:0<w:=by
  cases w with
  |zero=>simp at hs;lia
  |succ w=>lia
 obtain⟨a,x,hx,ha,eA⟩:∃a x,x<w/\a<n/\A0=a*w+x:=⟨A0 / w,A0%w,Sk _ hw,Og (by rw[Nt];lia),by rw[Nt];exact(Py A0 w).symm⟩
 obtain⟨c,y,L,hc,eC⟩:∃c y,y<w/\c<n/\C0=c*w+y:=⟨C0 / w,C0%w,Sk _ hw,Og (by rw[Nt];lia),by rw[Nt];exact(Py C0 w).symm⟩
 subst eA eC;rw[C8 (V:=w*w) (k0:=a*n+c) (q0:=x*w+y) ps (λp hp=>⟨by rw[(hl p hp).2.2,ju],bD⟩) lP λb i J hi=>Fw hx L ha hc J (by rwa[ju]at hi)]
 have e1:ps.map (λp=>gz p.2.2 (a*n+c:Nat)*gz (mm w (aB (bR n w (aN A s (n*w))) (w*w) (nz p.1)) (aB (bR n w (aN B s (n*w))) (w*w) (nz p.2.1))) (x*w+y:Nat))
  = ps.map λp=>gz p.2.2 (a*n+c:Nat)*ao w λb=>(ao (n*n) λi=>gz p.1 (i:Nat)*gz ((bR n w (aN A s (n*w))).getD i []) (x*w+b:Nat))*(ao (n*n) λj=>gz p.2.1 (j:Nat)*gz ((bR n w (aN B s (n*w))).getD j []) (b*w+y:Nat)):=Mw λp hp=>by
  obtain⟨l1,l2,l3⟩:=hl p hp;congr 1;unfold mm;rw[ij hx L];exact au λb J=>by rw[lM (lt2 J hx) (by rw[l1,bS]) dh,lM (lt2 L J) (by rw[l2,bS]) dh,l1,l2]
 rw[e1,sU];have e2:∀b,b<w->(ao (n*n) λi=>ao (n*n) λj=>Tn ps (a*n+c:Nat) (i:Nat) (j:Nat)*(gz ((bR n w (aN A s (n*w))).getD i []) (x*w+b:Nat)*gz ((bR n w (aN B s (n*w))).getD j []) (b*w+y:Nat)))
  = ao n λb'=>gz (aN A s (n*w)) ((a*w+x)*(n*w)+(b'*w+b):Nat)*gz (aN B s (n*w)) ((b'*w+b)*(n*w)+(c*w+y):Nat):=λb J=>by
  rw[gI];rw[<-xo ha hc (G:=λa' b' b2 c'=>gz (aN A s (n*w)) ((a'*w+x)*(n*w)+(b'*w+b):Nat)*gz (aN B s (n*w)) ((b2*w+b)*(n*w)+(c'*w+y):Nat))];refine au λa' O=>au λb' U=>?_;rw[gI];refine au λb2 F2=>au λc' fv=>?_;rw[hT,E6 ha O U F2 hc fv,sR O U hx J,sR F2 fv J L]
 rw[au e2,wL,<-gI (F:=λq=>gz (aN A s (n*w)) ((a*w+x)*(n*w)+q:Nat)*gz (aN B s (n*w)) (q*(n*w)+(c*w+y):Nat))];have h1:a*w+x<n*w:=lt2 hx ha;have h2:c*w+y<n*w:=lt2 L hc;have e3:∀q,q<n*w->gz (aN A s (n*w)) ((a*w+x)*(n*w)+q:Nat)*gz (aN B s (n*w)) (q*(n*w)+(c*w+y):Nat)=if q<s then gz A ((a*w+x)*s+q:Nat)*gz B (q*s+(c*w+y):Nat)else 0:=λq hq=>by
  unfold aN;rw[ij h1 hq,ij hq h2]
  by_cases z:q<s
  ·rw[if_pos ⟨hA,z⟩,if_pos ⟨z,hC⟩,if_pos z]
  ·rw[if_neg (λu=>z u.2),if_neg z,Sl]
 rw[au e3,zG hs λi hi=>if_neg ∅]
 exact au λi hi=>if_pos hi
end
section
open L2.Srt
variable{T:List FD}
noncomputable def kJ(s:Stmt):FD:=⟨"block_length",s,["length","n"],2,
 (.cons (.ret (.bin .fdiv (.bin .sub (.bin .add (.var 0) (.var 1)) (.int 1)) (.var 1)))
 .nil)⟩
theorem Ca(hf:T[f]?=Z (kJ s)){k:Nat}(z:1<=k){l:Nat}(B:1<=n)(j:n<=1000)(q:Q (.int ((l+n-1) / n:Nat)) M):phi T k f [.int l,.int n] M Q:=by
 refine aA ∅ hf rfl (ρ:=[Z _,Z _]) rfl ?_
 unfold kJ;nofun;refine⟨∅,∅,?_⟩
 rw[show((l:Int)+n-1) / n=(((l+n-1) / n:Nat):Int) by rw[Int.natCast_ediv];congr 1;lia]
 exact q
theorem iS{α:Type}{G:Nat->List α}{n:Nat}(h:∀a,(G a).length=n):∀{l:List Nat},(l.flatMap G).length=l.length*n
 |[]=>by simp
 |x::l=>by rw[Q9,D1,iS h,h,LF];lia
theorem bF{l r:List Nat}{x:Nat}(e:KA n=l++x::r):x=l.length/\x<n/\l=KA x:=by
 have h1:x<n:=LC.mp (by rw[e];simp)
 have h2:(KA n)[l.length]?=Z x:=by rw[e];simp
 have j:l.length<n:=by have:=congrArg LP e;simp at this;lia
 rw[Mm j]at h2
 cases h2
 refine⟨rfl,h1,?_⟩;have z:(KA n).take l.length=l:=by rw[e];simp
 rw[<-z,List.take_range,MW ∅]
 simp
noncomputable def fh(s:Stmt):FD:=⟨"table_places",s,["rows","columns","top","first","width"],5,
 (.cons (.ret (.comp [Y,Y,(Z 2),(Z 4),(Z 3),(Z 1)] ["a","b","top","width","first","columns"] (.more (.rng1 (.var 0)) (.name 0) .nil (.last (.rng1 (.var 5)) (.name 1) .nil (.bin .add (.bin .add (.bin .mul (.bin .add (.var 2) (.var 0)) (.var 3)) (.var 4)) (.var 1))))))
 .nil)⟩
theorem uH(hf:T[f]?=Z (fh s)){k:Nat}(G:1<=k){t r:Nat}(hw:w<=100)(J:t<=100000)(q:∀p,M p=Y->Q (.ref p) (ag M p (.lst ((bX w W t r).map .int)))):phi T k f [.int w,.int w,.int t,.int r,.int W] M Q:=by
 refine aA ∅ hf rfl (ρ:=[Z _,Z _,Z _,Z _,Z _]) rfl ?_
 unfold fh;nofun;refine⟨∅,∅,?_⟩
 rw[KO];refine am (f:=λi:Nat=>.int (i:Nat)) (ys:=KA w) (I:=λl ρ M' acc=>(∃o0 j,ρ=[o0,j,Z (.int t),Z (.int W),Z (.int r),Z (.int w)])/\M'=M/\acc=(l.flatMap λx=>(KA w).map λy=>(((t+x)*W+r+y:Nat):Int)).map .int) aF ⟨⟨_,_,rfl⟩,rfl,rfl⟩ (λ_ _ _ _ _=>trivial) ?_ ?_
 ·rintro l x r' ρ M1 acc e ⟨⟨o0,j,rfl⟩,rfl,rfl⟩;refine⟨_,rfl,λN' z=>?_⟩;obtain⟨ex,hx,el⟩:=bF e;ac_nf;refine⟨∅,∅,?_⟩
  rw[KO];refine am (f:=λi:Nat=>.int (i:Nat)) (ys:=KA w) (I:=λl2 ρ M' acc=>(∃j,ρ=[Z (.int x),j,Z (.int t),Z (.int W),Z (.int r),Z (.int w)])/\M'=M1/\acc=(l.flatMap λx=>(KA w).map λy=>(((t+x)*W+r+y:Nat):Int)).map .int++(l2.map λy=>(((t+x)*W+r+y:Nat):Int)).map .int) aF ⟨⟨_,rfl⟩,rfl,by simp⟩ (λ_ _ _ _ _=>trivial) ?_ ?_
  ·rintro l2 y L ρ M2 acc e2 ⟨⟨j,rfl⟩,rfl,rfl⟩;refine⟨_,rfl,λO B=>?_⟩;obtain⟨ey,U,F⟩:=bF e2;ac_nf;refine⟨bx ⟨∅,∅⟩,?_,B _ _ _ ⟨⟨_,rfl⟩,rfl,?_⟩⟩
   ·have h1:x*w<=100*100:=LS ∅ hw
    rw[D1,q7,iS (n:=w) (λ_=>by simp),q7,q7,<-ex,<-ey,D0]
    lia
   ·rw[Lf,Lf,L7];simp
  ·rintro ρ M2 acc ⟨⟨j,rfl⟩,rfl,rfl⟩;exact z _ _ _ ⟨⟨_,_,rfl⟩,rfl,by simp⟩
 ·rintro ρ M1 acc ⟨⟨o0,j,rfl⟩,rfl,rfl⟩ p hp;exact q p hp
noncomputable def kK(s:Stmt):FD:=⟨"resized",s,["table","side","new"],3,
 (.cons (.ret (.comp [Y,Y,(Z 1),(Z 0),(Z 2)] ["a","b","side","table","new"] (.more (.rng1 (.var 2)) (.name 0) .nil (.last (.rng1 (.var 4)) (.name 1) .nil (.ite (.and (.cons (.cmp .lt (.var 0) (.var 2)) (.cons (.cmp .lt (.var 1) (.var 2)) .nil))) (.ix (.var 3) (.bin .add (.bin .mul (.var 0) (.var 2)) (.var 1))) (.int 0))))))
 .nil)⟩
theorem lQ(hf:T[f]?=Z (kK s)){k:Nat}(F2:1<=k){s0 t:Nat}(hs:s0<=100)(G:t<=100)(J:A.length=s0*s0){pA:VQ}(eA:M pA=Z (.lst (A.map .int)))(q:∀p,M p=Y->Q (.ref p) (ag M p (.lst ((aN A s0 t).map .int)))):phi T k f [.ref pA,.int s0,.int t] M Q:=by
 refine aA ∅ hf rfl (ρ:=[Z _,Z _,Z _]) rfl ?_
 unfold kK;nofun;refine⟨∅,∅,?_⟩
 rw[KO];refine am (f:=λi:Nat=>.int (i:Nat)) (ys:=KA t) (I:=λl ρ M' acc=>(∃o0 j,ρ=[o0,j,Z (.int s0),Z (.ref pA),Z (.int t)])/\M'=M/\acc=(l.flatMap λa=>(KA t).map λb=>if a<s0/\b<s0 then gz A (a*s0+b:Nat)else 0).map .int) aF ⟨⟨_,_,rfl⟩,rfl,rfl⟩ (λ_ _ _ _ _=>trivial) ?_ ?_
 ·rintro l x r' ρ M1 acc e ⟨⟨o0,j,rfl⟩,rfl,rfl⟩;refine⟨_,rfl,λN' B=>?_⟩;obtain⟨ex,hx,el⟩:=bF e;ac_nf;refine⟨∅,∅,?_⟩
  rw[KO];refine am (f:=λi:Nat=>.int (i:Nat)) (ys:=KA t) (I:=λl2 ρ M' acc=>(∃j,ρ=[Z (.int x),j,Z (.int s0),Z (.ref pA),Z (.int t)])/\M'=M1/\acc=(l.flatMap λa=>(KA t).map λb=>if a<s0/\b<s0 then gz A (a*s0+b:Nat)else 0).map .int++(l2.map λb=>if x<s0/\b<s0 then gz A (x*s0+b:Nat)else 0).map .int) aF ⟨⟨_,rfl⟩,rfl,by simp⟩ (λ_ _ _ _ _=>trivial) ?_ ?_
  ·rintro l2 y fv ρ M2 acc e2 ⟨⟨j,rfl⟩,rfl,rfl⟩;refine⟨_,rfl,fun L F=>?_⟩;obtain⟨ey,hy,O⟩:=bF e2;have hlen:((l.flatMap fun a=>(KA t).map fun b=>if a<s0/\b<s0 then gz A (a*s0+b:Nat)else 0).map D.int++(l2.map fun b=>if x<s0/\b<s0 then gz A (x*s0+b:Nat)else 0).map D.int).length<KJ:=by
    have h1:x*t<=100*100:=LS ∅ G
    rw[D1,q7,iS (n:=t) (λ_=>by simp),q7,q7,<-ex,<-ey,D0]
    lia
   have fin:∀{v:Int},v=(if x<s0/\y<s0 then gz A (x*s0+y:Nat)else 0)->L [Z (.int (x:Nat)),Z (.int (y:Nat)),Z (.int s0),Z (.ref pA),Z (.int t)] M2 ((l.flatMap λa=>(KA t).map λb=>if a<s0/\b<s0 then gz A (a*s0+b:Nat)else 0).map D.int++(l2.map λb=>if x<s0/\b<s0 then gz A (x*s0+b:Nat)else 0).map D.int++[.int v]):=λ{v} ev=>F _ _ _ ⟨⟨_,rfl⟩,rfl,by rw[Lf,Lf,L7,ev];simp⟩
   ac_nf
   by_cases h1:x<s0
   ·rw[if_pos ∅]
    by_cases h2:y<s0
    ·rw[if_pos ∅]
     refine⟨bx ⟨∅,∅⟩,?_⟩
     have U:x*s0+y<A.length:=by rw[J];exact lt2 h2 h1
     rw[show(x:Int)*s0+y=((x*s0+y:Nat):Int) by simp]
     exact aJ eA (dw (by rw[KL,cU U];rfl)) ⟨hlen,fin (by rw[if_pos ⟨h1,h2⟩])⟩
    ·rw[if_neg ∅]
     exact⟨hlen,fin (by rw[if_neg (λz=>h2 z.2)])⟩
   ·rw[if_neg ∅]
    exact⟨hlen,fin (by rw[if_neg (λz=>h1 z.1)])⟩
  ·rintro ρ M2 acc ⟨⟨j,rfl⟩,rfl,rfl⟩;exact B _ _ _ ⟨⟨_,_,rfl⟩,rfl,by simp⟩
 ·rintro ρ M1 acc ⟨⟨o0,j,rfl⟩,rfl,rfl⟩ p hp;exact q p hp
end
section
open L2.Srt
variable{T:List FD}
noncomputable def tms(m n:Nat):Nat->Nat->Nat
 |0,_=>1
 |d+1,s=>if s=1 then 1 else m*tms m n d ((s+n-1) / n)
def Lim(m:Nat)(l:List Int):Prop:=∀x∈l,x.natAbs<2^m
theorem Lim.gz(h:Lim m l)(i:Int):(gz l i).natAbs<2^m:=by
 by_cases z:Mi.gz l i=0
 ·rw[z];exact Sy m
 ·obtain⟨h0,h1⟩:=eN z;have:l[i.toNat]?=Z (Mi.gz l i):=by
   have:=cU (l:=l) (k:=i.toNat) ∅
   rwa[show((i.toNat:Nat):Int)=i by lia]at this
  exact h _ (L5 this)
theorem Ec(h:∀q:Nat,q<l.length->(gz l (q:Nat)).natAbs<2^m):Lim m l:=λx hx=>by
 obtain⟨q,j,e⟩:=List.getElem_of_mem hx;have:=h q j
 rwa[lN (by rw[y3 j,e])]at this
theorem qM(h:Lim m A){s t:Nat}:Lim m (aN A s t):=λx hx=>by
 obtain⟨a,b,_,_,rfl⟩:=iR hx
 split
 ·exact h.gz _
 ·exact Sy m
theorem qN{L:List Int}(G:n*n*1000<=2^20)(h:Lim m L)(j:l.length=n*n)(hs:∀x∈l,x.natAbs<=1000):Lim (m+20) (aB (bR n w L) (w*w) (nz l)):=by
 refine Ec λq B=>?_;rw[jt (by rw[j,bS]) dh]at B
 rw[lM B (by rw[j,bS]) dh,j]
 have O:0<2^m:=Sy m;have g:=zx (n:=n*n) (C:=1000*(2^m-1)) (F:=λi=>gz l (i:Nat)*gz ((bR n w L).getD i []) (q:Nat)) λi hi=>by
  rw[Int.natAbs_mul];refine LS ?_ ?_
  ·by_cases z:gz l (i:Nat)=0
   ·rw[z];decide
   ·exact hs _ (L5 (cU ∅))
  ·have e:∀r∈bR n w L,Lim m r:=fun r J x hx=>by
    obtain⟨sp,_,rfl⟩:=KP.mp J;obtain⟨z,_,rfl⟩:=KP.mp hx;exact h.gz z
   have:=(e _ (by rw[I7,y3 (by rw[bS];exact hi)];exact Oz _):Lim m ((bR n w L).getD i [])).gz (q:Nat)
   lia
 refine TU g ?_;rw[Nat.pow_add,<-Nat.mul_assoc,Nt (2^m)];refine TU (N8 _ G) (Nat.mul_lt_mul_of_pos_left ∅ (by decide))
theorem sV(hm:m<=1000){x:Int}(h:x.natAbs<2^m):QH x<=2^20:=Mu (intBits_le_iff.mpr h) ∅
noncomputable def qO(s:Stmt)(fbl ftp fr fby fsl:Nat)(P:VQ)(pos:Pos)(q:Str):FD:=⟨"side_times",s,["scheme","n","one","other","side","wide","whole","places","left","right","told","times"],5,
 (.cons (.ite (.cmp .eq (.var 4) (.int 1)) (.cons (.ret (.tup (.cons (.lst (.cons (.bin .mul (.ix (.var 2) (.int 0)) (.ix (.var 3) (.int 0))) .nil)) (.cons (.int 1) .nil))))
 .nil) .nil)
 (.cons (.asg (.name 5) (.call fbl (.cons (.var 4) (.cons (.var 1) .nil))))
 (.cons (.asg (.name 6) (.bin .mul (.var 1) (.var 5)))
 (.cons (.asg (.name 7) (.comp [Y,Y,(Z 5),(Z 6),(Z 1)] ["a","b","wide","whole","n"] (.more (.rng1 (.var 1)) (.name 0) .nil (.last (.rng1 (.var 4)) (.name 1) .nil (.call ftp (.cons (.var 2) (.cons (.var 2) (.cons (.bin .mul (.var 0) (.var 2)) (.cons (.bin .mul (.var 1) (.var 2)) (.cons (.var 3) .nil))))))))))
 (.cons (.asg (.tup (.cons (.name 8) (.cons (.name 9) .nil))) (.tup (.cons (.call fr (.cons (.var 2) (.cons (.var 4) (.cons (.var 6) .nil)))) (.cons (.call fr (.cons (.var 3) (.cons (.var 4) (.cons (.var 6) .nil)))) .nil))))
 (.cons (.asg (.tup (.cons (.name 10) (.cons (.name 11) .nil))) (.callL fby (.cons (.var 0) (.cons (.comp [Y,(Z 8)] ["spots","left"] (.last (.seq (.var 7)) (.name 0) .nil (.comp [Y,(Z 1)] ["at","left"] (.last (.seq (.var 0)) (.name 0) .nil (.ix (.var 1) (.var 0)))))) (.cons (.comp [Y,(Z 9)] ["spots","right"] (.last (.seq (.var 7)) (.name 0) .nil (.comp [Y,(Z 1)] ["at","right"] (.last (.seq (.var 0)) (.name 0) .nil (.ix (.var 1) (.var 0)))))) (.cons (.var 7) .nil)))) fsl [0,1,5] [0,1,3,4,2] P pos q))
 (.cons (.ret (.tup (.cons (.call fr (.cons (.var 10) (.cons (.var 6) (.cons (.var 4) .nil)))) (.cons (.var 11) .nil))))
 .nil)))))))⟩
end
section
open L2.Srt
variable{T:List FD}
theorem qP{i:Nat}{z:Str}{R:Bks}{V:Nat}{L:List Int}{pP pL:VQ}(fv:ρ[7]?=Z (Z (.ref pP)))(ei:ρ[i]?=Z (Z (.ref pL)))(G:RwAt M pP R V)(hR:R.length<=1000)(hV:V<=100000)(hL:M pL=Z (.lst (L.map .int)))(J:∀r∈R,∀z∈r.2,0<=z/\z<L.length)(q:∀p R' M',Ge M M'->RwAt M' p R' V->R'.map (·.2)=(R.map (·.2)).map (λsp=>sp.map λz=>gz L z)->Q (.ref p) M'):
 wE Φ (.comp [Y,(Z i)] [x,y] (.last (.seq (.var 7)) (.name 0) .nil (.comp [Y,Z 1] [z,y] (.last (.seq (.var 0)) (.name 0) .nil (.ix (.var 1) (.var 0)))))) ρ M Q:=by
 ac_nf;refine⟨_,fv,_,af G.at',?_⟩;rw[ei];refine am (f:=λr:VQ×List Int=>.ref r.1) (ys:=R) (I:=λl ρ M' acc=>(∃o0,ρ=[o0,Z (.ref pL)])/\Ge M M'/\∃R':Bks,acc=R'.map (λr=>.ref r.1)/\R'.map (·.2)=(l.map (·.2)).map (λsp=>sp.map λz=>gz L z)/\∀r∈R',M' r.1=Z (.lst (r.2.map .int))/\r.2.length=V) rfl ⟨⟨_,rfl⟩,.refl,[],rfl,rfl,by simp⟩ ?_ ?_ ?_
 ·rintro l ρ' M1 acc ⟨_,g,_⟩;exact af (g _ _ G.at')
 ·rintro l r rr ρ' M1 acc e ⟨⟨o0,rfl⟩,g,R',rfl,eR,j⟩;refine⟨_,rfl,λN' O=>?_⟩;have hm:r∈R:=by rw[e];simp
  obtain⟨er,el⟩:=G.row r hm;have Iq:=ax e;have Ir:R'.length=l.length:=by have:=congrArg LP eR;simpa using this
  ac_nf;refine⟨_,af (g _ _ er),?_⟩;refine am (f:=.int) (ys:=r.2) (I:=λl2 ρ M' acc=>(∃o0,ρ=[o0,Z (.ref pL)])/\M'=M1/\acc=(l2.map λz=>gz L z).map .int) rfl ⟨⟨_,rfl⟩,rfl,rfl⟩ ?_ ?_ ?_
  ·rintro l2 ρ' M2 acc ⟨_,rfl,_⟩;exact af (g _ _ er)
  ·rintro l2 v r2 ρ' M2 acc e2 ⟨⟨o1,rfl⟩,rfl,rfl⟩;refine⟨_,rfl,λN2 U=>?_⟩;have F2:=ax e2;obtain⟨v0,v1⟩:=J r hm v (by rw[e2];simp)
   ac_nf;have ev:v=((v.toNat:Nat):Int):=∅
   refine aJ (g _ _ hL) (d:=.int (gz L v)) (by rw[ev];exact dw (by rw[KL,cU ∅];rfl)) ?_
   exact⟨by rw[q7,q7,D0];lia,U _ _ _ ⟨⟨_,rfl⟩,rfl,by simp⟩⟩
  ·rintro ρ' M2 acc ⟨⟨o1,rfl⟩,rfl,rfl⟩ p B;refine⟨by rw[q7,D0];lia,O _ _ _ ⟨⟨_,rfl⟩,g.trans (.new B),R'++[(p,r.2.map λz=>gz L z)],by simp,by simp[eR],λu F=>?_⟩⟩
   rcases KQ.mp F with h|h
   ·exact⟨Ge.new B _ _ (j u h).1,(j u h).2⟩
   ·rw[Mk]at h;subst h;exact⟨ab,by simp[el]⟩
 ·rintro ρ' M1 acc ⟨⟨o0,rfl⟩,g,R',rfl,eR,j⟩ p B;exact q p R' _ (g.trans (.new B)) ⟨ab,λu F=>⟨Ge.new B _ _ (j u F).1,(j u F).2⟩⟩ eR
theorem zI{ftp:Nat}{x1 x2 x3 x4 x5:Str}(e5:ρ[5]?=Z (Z (.int (w:Nat))))(e6:ρ[6]?=Z (Z (.int (W:Nat))))(e1:ρ[1]?=Z (Z (.int (n:Nat))))(hn:n<=10)(hw:w<=100)(L:∀{t r:Nat} {M:Mem} {Q:QD},t<=100000->(∀p,M p=Y->Q (.ref p) (ag M p (.lst ((bX w W t r).map .int))))->Φ ftp [.int (w:Nat),.int (w:Nat),.int (t:Nat),.int (r:Nat),.int (W:Nat)] M Q)(q:∀p R M',Ge M M'->RwAt M' p R (w*w)->R.map (·.2)=(grd n λa b=>bX w W (a*w) (b*w))->Q (.ref p) M'):
 wE Φ (.comp [Y,Y,(Z 5),(Z 6),(Z 1)] [x1,x2,x3,x4,x5] (.more (.rng1 (.var 1)) (.name 0) .nil (.last (.rng1 (.var 4)) (.name 1) .nil (.call ftp (.cons (.var 2) (.cons (.var 2) (.cons (.bin .mul (.var 0) (.var 2)) (.cons (.bin .mul (.var 1) (.var 2)) (.cons (.var 3) .nil))))))))) ρ M Q:=by
 ac_nf;rw[e5,e6,e1];refine⟨_,rfl,_,rfl,∅,∅,?_⟩
 rw[KO];simp only[Pg];refine am (f:=λi:Nat=>.int (i:Nat)) (ys:=KA n) (I:=λl ρ M' acc=>(∃o0 B,ρ=[o0,B,Z (.int w),Z (.int W),Z (.int n)])/\Ge M M'/\∃R:Bks,acc=R.map (λr=>.ref r.1)/\R.map (·.2)=(l.flatMap λa=>(KA n).map λb=>bX w W (a*w) (b*w))/\∀r∈R,M' r.1=Z (.lst (r.2.map .int))/\r.2.length=w*w) aF ⟨⟨_,_,rfl⟩,.refl,[],rfl,rfl,by simp⟩ (λ_ _ _ _ _=>trivial) ?_ ?_
 ·rintro l x r' ρ' M1 acc e ⟨⟨o0,B,rfl⟩,g,R,rfl,eR,J⟩;refine⟨_,rfl,fun N' O=>?_⟩;obtain⟨ex,hx,el⟩:=bF e;have U:R.length=x*n:=by
   have:=congrArg LP eR
   rwa[q7,iS (n:=n) (λ_=>by simp),<-ex]at this
  ac_nf;refine⟨∅,∅,?_⟩
  rw[KO];refine am (f:=λi:Nat=>.int (i:Nat)) (ys:=KA n) (I:=λl2 ρ M' acc=>(∃B,ρ=[Z (.int x),B,Z (.int w),Z (.int W),Z (.int n)])/\Ge M M'/\∃R2:Bks,acc=(R++R2).map (λr=>.ref r.1)/\R2.map (·.2)=(l2.map λb=>bX w W (x*w) (b*w))/\∀r∈R++R2,M' r.1=Z (.lst (r.2.map .int))/\r.2.length=w*w) aF ⟨⟨_,rfl⟩,g,[],by simp,rfl,by simpa using J⟩ (λ_ _ _ _ _=>trivial) ?_ ?_
  ·rintro l2 y r2 ρ' M2 acc e2 ⟨⟨B,rfl⟩,g2,R2,rfl,j,z⟩;refine⟨_,rfl,fun N2 F2=>?_⟩;obtain⟨ey,hy,Iq⟩:=bF e2;have fv:R2.length=y:=by
    have:=congrArg LP j
    rwa[q7,q7,<-ey]at this
   ac_nf;refine⟨bx ⟨∅,∅⟩,bx ⟨∅,∅⟩,?_⟩
   have Ir:x*w<=10*100:=LS ∅ hw
   rw[show(x:Int)*w=((x*w:Nat):Int) by simp,show(y:Int)*w=((y*w:Nat):Int) by simp]
   refine L ∅ λp F=>?_
   have Is:x*n<=10*10:=LS ∅ hn
   refine⟨by rw[q7,D1,U,fv,D0];lia,F2 _ _ _ ⟨⟨_,rfl⟩,g2.trans (.new F),R2++[(p,bX w W (x*w) (y*w))],by simp,by simp[j],λu G=>?_⟩⟩
   rw[<-L7]at G
   rcases KQ.mp G with h|h
   ·exact⟨Ge.new F _ _ (z u h).1,(z u h).2⟩
   ·rw[Mk]at h;subst h;exact⟨ab,ik⟩
  ·rintro ρ' M2 acc ⟨⟨B,rfl⟩,g2,R2,rfl,j,z⟩;exact O _ _ _ ⟨⟨_,_,rfl⟩,g2,R++R2,rfl,by rw[Lf,eR,j];simp,z⟩
 ·rintro ρ' M1 acc ⟨⟨o0,B,rfl⟩,g,R,rfl,eR,J⟩ p F;exact q p R _ (g.trans (.new F)) ⟨ab,λu G=>⟨Ge.new F _ _ (J u G).1,(J u G).2⟩⟩ eR
end
section
open L2.Srt
variable{T:List FD}
theorem iT{g:MG}{e:ME}{r:MSs}(h:wE Φ e ρ M λx j=>∃ρ',bG g x ρ=Z ρ'/\wSs Φ r E ρ' j):wSs Φ (.cons (.asg g e) r) E ρ M:=by rw[bI];exact h
theorem qQ{α:Type}{F:Nat->Nat->α}(h:1<=n):(grd n F).getLast?=Z (F (n-1) (n-1)):=by
 rw[Rf,bD];rw[show n*n-1=(n-1)*n+(n-1) by
  obtain⟨m,rfl⟩:∃m,n=m+1:=⟨n-1,∅⟩
  simp only[R5];grind]
 exact kI ∅ ∅
theorem sW{s d:Nat}(j:2<=n)(hs:2<=s)(h:s<=2^(d+1)):(s+n-1) / n<=2^d/\1<=(s+n-1) / n/\s<=n*((s+n-1) / n)/\(s+n-1) / n<=s/\n*((s+n-1) / n)<=s+n:=by
 have e:=Py (s+n-1) n;have r:=Sk (s+n-1) (show n > 0 by lia)
 have h1:(s+n-1) / n<2^d+1:=Og (by rw[Nat.mul_add,T5];have:2*2^d<=n*2^d:=N8 _ j;rw[Nat.pow_succ]at h;lia)
 have h2:(s+n-1) / n<s+1:=Og (by rw[Nat.mul_add,T5];have:2*s<=n*s:=N8 _ j;lia)
 refine⟨∅,?_,∅,∅,∅⟩
 exact Nat.div_pos ∅ ∅
theorem Cb{fbl ftp fr fby fs:Nat}{sbl stp sr sby:Stmt}{qn:Str}(hf:T[f]?=Z (qO s fbl ftp fr fby f P pos qn))(Iy:T[fbl]?=Z (kJ sbl))(Iz:T[ftp]?=Z (fh stp))(F2:T[fr]?=Z (kK sr))(IA:T[fby]?=Z (kH sby fs ff))(IB:T[fs]?=Z (ig ss ff))(IC:T[ff]?=Z (dg sf))(h5:fs<5000/\ff<5000/\fby<1000)(h6:f<1000)(hn:2<=n/\n<=10){ps:List Pr}(IG:ps.length<=1000)(hT:∀k i j,Tn ps k i j=cf (bp n n n) (k,i,j))(G:∀p∈ps,qw (n*n) (n*n) (n*n) p){pp:VQ}{a0 a1 a2:D}:
 ∀{d s k m:Nat} {A B:List Int} {pA pB:VQ} {M:Mem} {Q:QD},1<=s->s<=2^d->s<=20->3*d+6<=k->m+20*d<=1000->A.length=s*s->B.length=s*s->Lim m A->Lim m B->M P=Z (.tab pos qn)->M pp=Z (.lst (ps.map prD))->M pA=Z (.lst (A.map .int))->M pB=Z (.lst (B.map .int))->
  (∀p M',Ge M M'->M p=Y->M' p=Z (.lst ((mm s A B).map .int))->Q (.tup [.ref p,.int (tms ps.length n d s:Nat)]) M')->phi T k f [.tup [a0,a1,a2,.ref pp],.int n,.ref pA,.ref pB,.int s] M Q:=by
 intro d;have base:∀{d k m:Nat} {A B:List Int} {pA pB:VQ} {M:Mem} {Q:QD},1<=k->m<=1000->A.length=1*1->B.length=1*1->Lim m A->Lim m B->M pA=Z (.lst (A.map .int))->M pB=Z (.lst (B.map .int))->
  (∀p M',Ge M M'->M p=Y->M' p=Z (.lst ((mm 1 A B).map .int))->Q (.tup [.ref p,.int (tms ps.length n d 1:Nat)]) M')->phi T k f [.tup [a0,a1,a2,.ref pp],.int n,.ref pA,.ref pB,.int (1:Nat)] M Q:=by
  intro d k m A B pA pB M Q hk hm lA lB bA bB eA eB q;refine aA ∅ hf rfl (ρ:=[Z _,Z _,Z _,Z _,Z _,Y,Y,Y,Y,Y,Y,Y]) rfl ?_
  unfold qO;nofun;rw[if_pos (by rfl)]
  obtain⟨x,rfl⟩:=Q7.mp (show A.length=1 from lA);obtain⟨y,rfl⟩:=Q7.mp (show B.length=1 from lB);nofun;refine aJ eA (d:=.int x) rfl ?_;refine aJ eB (d:=.int y) rfl ?_;refine wMul_i.mpr ⟨.inr (.inr ⟨sV hm (bA x (by simp)),sV hm (bB y (by simp))⟩),?_⟩
  refine⟨by rw[D0];decide,λp F=>⟨by rw[D0];decide,?_⟩⟩
  have e1:mm 1 [x] [y]=[x*y]:=by show[ao 1 _]=_;simp[ao,gz]
  have e2:tms ps.length n d 1=1:=by cases d<;>rfl
  rw[e1,e2]at q;exact q p _ (.new F) F ab
 induction d with
 |zero=>
  intro s k m A B pA pB M Q h1 h2 ID hk hm lA lB bA bB eP ep eA eB q;obtain rfl:s=1:=by simp at h2;lia
  exact base ∅ ∅ lA lB bA bB eA eB q
 |succ d ih=>
  intro s k m A B pA pB M Q h1 h2 ID hk hm lA lB bA bB eP ep eA eB q
  by_cases Iq:s=1
  ·subst Iq;exact base ∅ ∅ lA lB bA bB eA eB q
  refine aA ∅ hf rfl (ρ:=[Z _,Z _,Z _,Z _,Z _,Y,Y,Y,Y,Y,Y,Y]) rfl ?_
  unfold qO;nofun;rw[if_neg (by simp;lia)]
  nofun;refine Ca Iy ∅ ∅ ∅ ?_
  have O:(s+n-1) / n<=2^d/\1<=(s+n-1) / n/\s<=n*((s+n-1) / n)/\(s+n-1) / n<=s/\n*((s+n-1) / n)<=s+n:=sW hn.1 ∅ h2
  have etm:tms ps.length n (d+1) s=ps.length*tms ps.length n d ((s+n-1) / n):=by show(if s=1 then 1 else _)=_;rw[if_neg Iq]
  generalize (s+n-1) / n=w at O etm⊢;obtain⟨O,Ir,IE,IH,II⟩:=O;nofun;refine⟨bx ⟨∅,∅⟩,?_⟩
  rw[show(n:Int)*w=((n*w:Nat):Int) by simp]
  refine iT ?_;refine zI (n:=n) (w:=w) (W:=n*w) rfl rfl rfl hn.2 ∅ (λht q=>uH Iz ∅ ∅ ht q) λpP RP M1 g1 hP eRP=>?_
  refine⟨_,rfl,?_⟩;nofun;refine lQ F2 ∅ ∅ ∅ lA (g1 _ _ eA) λpl Is=>?_
  have g2:=g1.trans (.new (o:=.lst ((aN A s (n*w)).map .int)) Is);refine lQ F2 ∅ ∅ ∅ lB (g2 _ _ eB) λpr fv=>?_
  have el:ag (ag M1 pl (.lst ((aN A s (n*w)).map .int))) pr (.lst ((aN B s (n*w)).map .int)) pl=Z (.lst ((aN A s (n*w)).map .int)):=Ge.new fv _ _ ab;have er:ag (ag M1 pl (.lst ((aN A s (n*w)).map .int))) pr (.lst ((aN B s (n*w)).map .int)) pr=Z (.lst ((aN B s (n*w)).map .int)):=ab;have U:=(hP.ge (.new (o:=.lst ((aN A s (n*w)).map .int)) Is)).ge (.new (o:=.lst ((aN B s (n*w)).map .int)) fv);have g3:=g2.trans (.new (o:=.lst ((aN B s (n*w)).map .int)) fv);generalize ag (ag M1 pl (.lst ((aN A s (n*w)).map .int))) pr (.lst ((aN B s (n*w)).map .int))=M3 at el er U g3⊢;refine⟨by rw[D0];decide,?_⟩
  refine iT ?_;refine⟨[.tup [a0,a1,a2,.ref pp],.int n,.int w],rfl,?_⟩;dsimp only[wA,aE,br];refine⟨_,rfl,?_⟩;dsimp only;have Iu:RP.length=n*n:=by
   have:=congrArg LP eRP
   rwa[q7,bD]at this
  have IJ:n*n<=10*10:=LS hn.2 hn.2;have IK:w*w<=20*20:=LS ∅ ∅
  have Iv:∀{L:List Int},∀r∈RP,∀z∈r.2,0<=z/\z<(aN L s (n*w)).length:=λ{L} r F2 z hz=>by
   have:=lP (n:=n) (w:=w) r.2 (by show r.2∈grd n _;rw[<-eRP];exact L6 F2) z hz
   unfold aN;rw[bD];exact_mod_cast this
  refine qP (L:=aN A s (n*w)) rfl rfl U ∅ ∅ el Iv λpBL RL M4 g4 hL eRL=>?_
  refine qP (L:=aN B s (n*w)) rfl rfl (U.ge g4) ∅ ∅ (g4 _ _ er) Iv λpBR RR M5 g5 hR eRR=>?_
  have Iw:=g4.trans g5;have J:=g3.trans Iw;have eRL':RL.map (·.2)=bR n w (aN A s (n*w)):=by rw[eRL,eRP];rfl
  have eRR':RR.map (·.2)=bR n w (aN B s (n*w)):=by rw[eRR,eRP];rfl
  have lRL:RL.length=n*n:=by have:=congrArg LP eRL';rwa[q7,bS]at this
  have lRR:RR.length=n*n:=by have:=congrArg LP eRR';rwa[q7,bS]at this
  refine⟨_,rfl,?_⟩;refine⟨J _ _ eP,λa ha=>?_⟩;have IM:1<=n*n:=Nat.mul_pos ∅ ∅
  have IF:1<=w*w:=Nat.mul_pos ∅ ∅
  refine E9 (f:=fby) (W:=w*w) (V:=w*w) (N:=(n*w)*(n*w)) (mul:=mm w) (tm:=tms ps.length n d w) IA IB IC h5 ∅ h6 (J _ _ ep) (hL.ge g5) hR (U.ge Iw) ⟨∅,∅,∅,∅,∅,∅⟩ ∅ ⟨IF,∅⟩ ?_ ?_ ?_ ?_ ?_ ?_ ?_ ?_
  ·exact Mu (LS (by lia:n*w<=30) (by lia:n*w<=30)) (by decide)
  ·exactλp F=>⟨by rw[lRL];exact(G p F).l0,by rw[lRR];exact(G p F).l1,by rw[Iu];exact(G p F).l2⟩
  ·exactλp F=>⟨λx hx=>by have:=(G p F).s0 x hx;lia,λx hx=>by have:=(G p F).s1 x hx;lia,λx hx=>by have:=(G p F).s2 x hx;lia⟩
  ·exactλr F2 z hz=>lP (n:=n) (w:=w) r.2 (by show r.2∈grd n _;rw[<-eRP];exact L6 F2) z hz
  ·have h1:(RP.map (·.2)).getLast?=_:=(congrArg List.getLast? eRP).trans (qQ ∅)
   rw[Rq]at h1
   cases h2:RP.getLast? with
   |none=>rw[h2]at h1;cases h1
   |some r=>
    rw[h2]at h1;have h3:r.2=_:=N1.inj h1;refine⟨r,rfl,?_⟩;rw[h3];refine(qQ Ir).trans ?_;congr 1;obtain⟨n',rfl⟩:∃n',n=n'+1:=⟨n-1,∅⟩
    obtain⟨w',rfl⟩:∃w',w=w'+1:=⟨w-1,∅⟩
    simp only[R5]
    push_cast
    grind
  ·exactλp F=>bD
  ·intro p x y M6 Q6 F g6 ex ey q6;refine⟨rfl,BC ∅ ∅ ?_⟩
   have bnd:n*n*1000<=2^20:=∅
   rw[eRL']at ex q6;rw[eRR']at ey q6;refine ih (s:=w) (m:=m+20) Ir O ∅ ∅ ∅ (jt (by rw[bS];exact(G p F).l0) dh) (jt (by rw[bS];exact(G p F).l1) dh) (qN bnd (qM bA) (G p F).l0 λx hx=>by have:=(G p F).s0 x hx;lia) (qN bnd (qM bB) (G p F).l1 λx hx=>by have:=(G p F).s1 x hx;lia) (g6 _ _ (J _ _ eP)) (g6 _ _ (J _ _ ep)) ex ey q6
  ·intro p M6 g6 n6 e6;refine⟨_,rfl,?_⟩;rw[eRL',eRR',show RP.map (·.2)=fC n w from eRP]at e6;nofun;refine lQ F2 ∅ ∅ ∅ (by rw[ii]) e6 λp7 Ix=>?_
   rw[C9 IE hT λp F=>⟨(G p F).l0,(G p F).l1,(G p F).l2⟩];refine⟨by rw[D0];decide,?_⟩
   rw[<-etm];have gE:=(J.trans g6);exact q p7 _ (gE.trans (.new Ix)) (fR gE Ix) ab
end
section
open L2.Srt
variable{T:List FD}
noncomputable def jv(s:Stmt)(fsl:Nat):FD:=⟨"table_times",s,["scheme","n","one","other","side","told","times"],4,
 (.cons (.asg (.name 4) (.blt .len (.cons (.var 2) .nil)))
 (.cons (.asg (.tup (.cons (.name 5) (.cons (.name 6) .nil))) (.call fsl (.cons (.var 0) (.cons (.var 1) (.cons (.comp [Y,Y] ["row","x"] (.more (.seq (.var 2)) (.name 0) .nil (.last (.seq (.var 0)) (.name 1) .nil (.var 1)))) (.cons (.comp [Y,Y] ["row","x"] (.more (.seq (.var 3)) (.name 0) .nil (.last (.seq (.var 0)) (.name 1) .nil (.var 1)))) (.cons (.var 4) .nil)))))))
 (.cons (.ret (.tup (.cons (.comp [Y,(Z 5),(Z 4)] ["a","told","side"] (.last (.rng1 (.var 4)) (.name 0) .nil (.sl (.var 1) (.some (.bin .mul (.var 0) (.var 2))) (.some (.bin .mul (.bin .add (.var 0) (.int 1)) (.var 2)))))) (.cons (.var 6) .nil))))
 .nil)))⟩
theorem xp{i:Nat}{R:Bks}{V:Nat}(ei:ρ[i]?=Z (Z (.ref p)))(z:RwAt M p R V)(O:R.length<=100)(J:V<=100)(q:∀p',M p'=Y->Q (.ref p') (ag M p' (.lst ((R.map (·.2)).flatten.map .int)))):
 wE Φ (.comp [Y,Y] [x,y] (.more (.seq (.var i)) (.name 0) .nil (.last (.seq (.var 0)) (.name 1) .nil (.var 1)))) ρ M Q:=by
 ac_nf;refine⟨_,ei,_,af z.at',?_⟩;refine am (f:=λr:VQ×List Int=>.ref r.1) (ys:=R) (I:=λl ρ M' acc=>(∃o0 j,ρ=[o0,j])/\M'=M/\acc=(l.map (·.2)).flatten.map .int/\(l.map (·.2)).flatten.length=l.length*V) rfl ⟨⟨_,_,rfl⟩,rfl,rfl,by simp⟩ ?_ ?_ ?_
 ·rintro l ρ' M1 acc ⟨_,rfl,_⟩;exact af z.at'
 ·rintro l r rr ρ' M1 acc e ⟨⟨o0,j,rfl⟩,rfl,rfl,ln⟩;refine⟨_,rfl,λN' B=>?_⟩;obtain⟨er,el⟩:=z.row r (by rw[e];simp)
  have L:=ax e;have U:l.length*V<=100*100:=LS ∅ J
  ac_nf;refine⟨_,af er,?_⟩;refine am (f:=.int) (ys:=r.2) (I:=λl2 ρ M' acc=>(∃j,ρ=[Z (.ref r.1),j])/\M'=M1/\acc=((l.map (·.2)).flatten++l2).map .int) rfl ⟨⟨_,rfl⟩,rfl,by simp⟩ ?_ ?_ ?_
  ·rintro l2 ρ' M2 acc ⟨_,rfl,_⟩;exact af er
  ·rintro l2 v F2 ρ' M2 acc e2 ⟨⟨j,rfl⟩,rfl,rfl⟩;refine⟨_,rfl,λfv F=>?_⟩;have G:=ax e2;ac_nf;exact⟨by rw[q7,D1,ln,D0];lia,F _ _ _ ⟨⟨_,rfl⟩,rfl,by simp⟩⟩
  ·rintro ρ' M2 acc ⟨⟨j,rfl⟩,rfl,rfl⟩;exact B _ _ _ ⟨⟨_,_,rfl⟩,rfl,by simp,by simp[ln,el];lia⟩
 ·rintro ρ' M1 acc ⟨⟨o0,j,rfl⟩,rfl,rfl,_⟩ p' hp;exact q p' hp
theorem xq{fsl:Nat}(hf:T[f]?=Z (jv s fsl)){k:Nat}(hk:1<=k){F R2:Bks}{p1:VQ}{sz tm:Nat}{sch:D}(h1:RwAt M p1 F sz)(h2:RwAt M p2 R2 sz)(l1:F.length=sz)(l2:R2.length=sz)(hz:sz<=20)(j:∀{pA pB:VQ} {G:Mem} {Q1:QD},Ge M G->G pA=Z (.lst ((F.map (·.2)).flatten.map .int))->G pB=Z (.lst ((R2.map (·.2)).flatten.map .int))->(∀p M',Ge G M'->G p=Y->M' p=Z (.lst ((mm sz (F.map (·.2)).flatten (R2.map (·.2)).flatten).map .int))->Q1 (.tup [.ref p,.int tm]) M')->phi T (k-1) fsl [sch,.int n,.ref pA,.ref pB,.int sz] G Q1)(q:∀p R' M',Ge M M'->M p=Y->(∀r∈R',M r.1=Y/\r.1≠p)->(R'.map (·.1)).Nodup->RwAt M' p R' sz->R'.map (·.2)=(KA sz).map (λa=>fB (mm sz (F.map (·.2)).flatten (R2.map (·.2)).flatten) sz a)->Q (.tup [.ref p,.int tm]) M'):phi T k f [sch,.int n,.ref p1,.ref p2] M Q:=by
 refine aA ∅ hf rfl (ρ:=[Z _,Z _,Z _,Z _,Y,Y,Y]) rfl ?_
 unfold jv;nofun;refine b7 h1.at' ?_;rw[q7,l1];refine iT ?_;show wAr (phi T (k-1) fsl) (wA (phi T (k-1)) _) _ _ _;unfold wAr;dsimp only[wA,aE,br];refine⟨_,rfl,?_⟩;dsimp only;refine⟨_,rfl,?_⟩;dsimp only;refine xp rfl h1 ∅ ∅ λpA O=>?_
 refine xp rfl (h2.ge (.new O)) ∅ ∅ λpB U=>?_
 have gB:=(Ge.new (o:=.lst ((F.map (·.2)).flatten.map .int)) O).trans (.new (o:=.lst ((R2.map (·.2)).flatten.map .int)) U);refine⟨_,rfl,?_⟩;refine j gB (Ge.new U _ _ ab) ab λpt M3 g3 n3 e3=>?_;refine⟨_,rfl,?_⟩;have gM:=gB.trans g3;clear j;have lmm:(mm sz (F.map (·.2)).flatten (R2.map (·.2)).flatten).length=sz*sz:=bD;generalize mm sz (F.map (·.2)).flatten (R2.map (·.2)).flatten=MMl at e3 lmm q;generalize ag (ag M pA _) pB _=M0 at g3 n3 gB;have nt:=fR gB n3;nofun;refine⟨∅,∅,?_⟩
 rw[KO];refine am (f:=λi:Nat=>.int (i:Nat)) (ys:=KA sz) (I:=λl ρ M' acc=>(∃o0,ρ=[o0,Z (.ref pt),Z (.int sz)])/\Ge M3 M'/\∃R':Bks,acc=R'.map (λr=>.ref r.1)/\R'.map (·.2)=l.map (λa=>fB MMl sz a)/\(R'.map (·.1)).Nodup/\∀r∈R',M' r.1=Z (.lst (r.2.map .int))/\r.2.length=sz/\M r.1=Y) aF ⟨⟨_,rfl⟩,.refl,[],rfl,rfl,by simp,by simp⟩ (λ_ _ _ _ _=>trivial) ?_ ?_
 ·rintro l x r' ρ G acc e ⟨⟨o0,rfl⟩,g,R',rfl,eR,nd,J⟩;refine⟨_,rfl,λN' fv=>?_⟩;obtain⟨ex,hx,el⟩:=bF e;have Iq:R'.length=l.length:=by have:=congrArg LP eR;simpa using this
  ac_nf;refine⟨bx ⟨∅,∅⟩,bx ⟨∅,∅⟩,?_⟩
  rw[show(x:Int)*sz=((x*sz:Nat):Int) by simp,show((x:Int)+1)*sz=((x*sz+sz:Nat):Int) by rw[Sw,Pw];grind]
  refine⟨_,g _ _ e3,λpr B=>?_⟩;rw[BS lmm hx];refine⟨by rw[q7,Iq,<-ex,D0];lia,fv _ _ _ ⟨⟨_,rfl⟩,g.trans (.new B),R'++[(pr,fB MMl sz x)],by simp,by simp[eR],?_,λu hu=>?_⟩⟩
  ·rw[Lf];refine Nz.mpr ⟨nd,by simp,λa ha b hb=>?_⟩
   simp only[KY,Od,Mk]at hb;subst hb;intro z;subst z;obtain⟨r,L,er⟩:=KP.mp ha;have:=(J r L).1;rw[er,B]at this
   cases this
  ·rcases KQ.mp hu with h|h
   ·exact⟨Ge.new B _ _ (J u h).1,(J u h).2⟩
   ·rw[Mk]at h;subst h;exact⟨ab,by simp[fB],fR (gM.trans g) B⟩
 ·rintro ρ G acc ⟨⟨o0,rfl⟩,g,R',rfl,eR,nd,J⟩ p F2;refine⟨by rw[D0];decide,q p R' _ ((gM.trans g).trans (.new F2)) (fR (gM.trans g) F2) (λr L=>⟨(J r L).2.2,λz=>by have:=(J r L).1;rw[z,F2]at this;cases this⟩) nd ⟨ab,λr L=>⟨Ge.new F2 _ _ (J r L).1,(J r L).2.1⟩⟩ eR⟩
end
section
open L2.Srt
variable{T:List FD}
noncomputable def jw(s:Stmt):FD:=⟨"_law_times",s,["_law_many","_law_n","_law_length","_law_total"],3,
 (.cons (.asg (.name 3) (.int 1))
 (.cons (.while (.cmp .gt (.var 2) (.int 1)) (.cons (.asg (.name 3) (.bin .mul (.var 3) (.var 0)))
 (.cons (.asg (.name 2) (.bin .add (.bin .fdiv (.var 2) (.var 1)) (.blt .int (.cons (.cmp .gt (.bin .mod (.var 2) (.var 1)) (.int 0)) .nil))))
 .nil)))
 (.cons (.ret (.var 3))
 .nil)))⟩
theorem Cc{s:Nat}(z:1<=n):(s+n-1) / n=s / n+if 0<s%n then 1 else 0:=by
 have e:=Py s n;have r:=Sk s (show n > 0 by lia)
 have h0:0<n:=∅
 by_cases h:0<s%n
 ·rw[if_pos h];have j:(s%n-1) / n=0:=Ph ∅
  rw[show s+n-1=n*(s / n)+(s%n-1+n) by lia,Px h0,Nat.add_div_right _ h0,j]
 ·rw[if_neg h];have j:(n-1) / n=0:=Ph ∅
  rw[show s+n-1=n*(s / n)+(n-1) by lia,Px h0,j]
theorem xr(hf:T[f]?=Z (jw s)){k:Nat}(J:1<=k){many d sz:Nat}(hm:many<=1000)(B:2<=n)(F:n<=1000)(h1:1<=sz)(h2:sz<=2^d)(q:Q (.int (tms many n d sz:Nat)) M):phi T k f [.int many,.int n,.int sz] M Q:=by
 refine aA ∅ hf rfl (ρ:=[Z _,Z _,Z _,Y]) rfl ?_
 unfold jw;nofun;nofun;refine⟨d+1,?_⟩;have g:∀(d sz tot:Nat),1<=sz->sz<=2^d->Q (.int (tot*tms many n d sz:Nat)) M->
  aS (gR (wOp wGt (fu 2) (wC (.int 1)))) (wSs (phi T (k-1)) (.cons (.asg (.name 3) (.bin .mul (.var 3) (.var 0))) (.cons (.asg (.name 2) (.bin .add (.bin .fdiv (.var 2) (.var 1)) (.blt .int (.cons (.cmp .gt (.bin .mod (.var 2) (.var 1)) (.int 0)) .nil)))) .nil)))
   {nx:=wSs (phi T (k-1)) (.cons (.ret (.var 3)) .nil) {nx:=λ_ M'=>Q .non M',rt:=Q},rt:=Q} (d+1) [Z (.int many),Z (.int n),Z (.int sz),Z (.int tot)] M:=by
  intro d
  induction d with
  |zero=>
   intro sz tot h1 h2 q;obtain rfl:sz=1:=by simp at h2;lia
   rw[aS];ac_nf;rw[if_neg (by simp)]
   nofun;have e:tms many n 0 1=1:=rfl;rw[e,T5]at q;exact q
  |succ d ih=>
   intro sz tot h1 h2 q;rw[aS]
   by_cases hs:sz=1
   ·subst hs;ac_nf;rw[if_neg (by simp)]
    nofun;have e:tms many n (d+1) 1=1:=rfl;rw[e,T5]at q;exact q
   ·have ew:=sW B ∅ h2
    have ec:=Cc (s:=sz) (n:=n) ∅
    have e:tms many n (d+1) sz=many*tms many n d ((sz+n-1) / n):=by show(if sz=1 then 1 else _)=_;rw[if_neg hs]
    have j:=ih ((sz+n-1) / n) (tot*many) ew.2.1 ew.1 (by rw[Nat.mul_assoc,<-e];exact q)
    ac_nf;rw[if_pos ∅]
    nofun;refine⟨lu ⟨∅,∅⟩,?_⟩
    nofun;refine⟨∅,∅,∅,?_⟩
    have G:(sz:Int) / n+(if 0<(sz:Int)%n then 1 else 0)=(((sz+n-1) / n:Nat):Int):=by
     rw[ec]
     by_cases z:0<sz%n
     ·rw[if_pos z,if_pos (by exact_mod_cast z)];simp
     ·rw[if_neg z,if_neg (by intro y;exact z (by exact_mod_cast y))];simp
    ac_nf;rw[G,show(tot:Int)*many=((tot*many:Nat):Int) by simp]
    exact j
 exact g d sz 1 h1 h2 (by rw[Nat.one_mul];exact q)
end
section
open L2.Srt
variable{T:List FD}
noncomputable def gJ(sz:Nat)(a:List Int)(B:List (List Int)):List Int:=(KA sz).map λc=>ao sz λb=>gz a (b:Nat)*gz (B.getD b []) (c:Nat)
theorem Ed{G J L y1 y2 O U:Str}{ra:VQ}{a:List Int}{R2:Bks}{sz:Nat}(F:ρ[3]?=Z (Z (.ref ra)))(F2:ρ[1]?=Z (Z (.ref p2)))(er:M ra=Z (.lst (a.map .int)))(lr:a.length=sz)(h2:RwAt M p2 R2 sz)(l2:R2.length=sz)(hz:sz<=20)(ba:∀x∈a,-(2^64)<x/\x<2^64)(q:∀p M',Ge M M'->M p=Y->M' p=Z (.lst ((gJ sz a (R2.map (·.2))).map .int))->Q (.ref p) M'):
 wE Φ (.comp [Y,(Z 3),(Z 1)] [G,J,L] (.last (.rng1 (.blt .len (.cons (.var 3) .nil))) (.name 0) .nil (.blt .sum (.cons (.comp [Y,(Z 1),(Z 2),(Z 0)] [y1,y2,O,U] (.last (.rng1 (.blt .len (.cons (.var 1) .nil))) (.name 0) .nil (.bin .mul (.ix (.var 1) (.var 0)) (.ix (.ix (.var 2) (.var 0)) (.var 3))))) .nil)))) ρ M Q:=by
 ac_nf;refine⟨_,F,b7 er ⟨_,rfl,∅,by rw[q7];lia,?_⟩⟩
 rw[q7,KO,lr,F,F2];simp only[Pg];refine am (f:=λi:Nat=>.int (i:Nat)) (ys:=KA sz) (I:=λl ρ M' acc=>(∃o0,ρ=[o0,Z (.ref ra),Z (.ref p2)])/\Ge M M'/\acc=(l.map λc:Nat=>ao sz λb=>gz a (b:Nat)*gz ((R2.map (·.2)).getD b []) (c:Nat)).map .int) aF ⟨⟨_,rfl⟩,.refl,rfl⟩ (λ_ _ _ _ _=>trivial) ?_ ?_
 ·rintro l c r' ρ' M1 acc e ⟨⟨o0,rfl⟩,g,rfl⟩;refine⟨_,rfl,λN' z=>?_⟩;obtain⟨ec,hc,el⟩:=bF e;ac_nf;refine b7 (g _ _ er) ⟨_,rfl,by rw[q7];lia,by rw[q7];lia,?_⟩
  rw[KO,show(List.map D.int a).length=sz by rw[q7,lr]]
  refine am (f:=λi:Nat=>.int (i:Nat)) (ys:=KA sz) (I:=λl2 ρ M' acc=>(∃o0,ρ=[o0,Z (.ref ra),Z (.ref p2),Z (.int c)])/\M'=M1/\acc=(l2.map λb:Nat=>gz a (b:Nat)*gz ((R2.map (·.2)).getD b []) (c:Nat)).map .int) aF ⟨⟨_,rfl⟩,rfl,rfl⟩ (λ_ _ _ _ _=>trivial) ?_ ?_
  ·rintro l2 b r2 ρ' M2 acc e2 ⟨⟨o0,rfl⟩,rfl,rfl⟩;refine⟨_,rfl,λN2 B=>?_⟩;obtain⟨eb,hb,fv⟩:=bF e2;obtain⟨row,erow⟩:∃row,R2[b]?=Z row:=⟨_,y3 ∅⟩
   obtain⟨m1,m2⟩:=(h2.ge g).row row (L5 erow);have hB:(R2.map (·.2)).getD b []=row.2:=by rw[I7,KL,erow];rfl
   have Iq:=ba _ (L5 (cU (l:=a) (k:=b) ∅))
   ac_nf;refine aJ (g _ _ er) (d:=.int (gz a (b:Nat))) (dw (by rw[KL,cU ∅];rfl)) ?_
   refine aJ (h2.ge g).at' (d:=.ref row.1) (dw (by rw[KL,erow];rfl)) ?_
   refine aJ m1 (d:=.int (gz row.2 (c:Nat))) (dw (by rw[KL,cU ∅];rfl)) ?_
   refine wMul_i.mpr ⟨bx ⟨∅,∅⟩,?_⟩
   exact⟨by rw[q7,q7,<-eb,D0];lia,B _ _ _ ⟨⟨_,rfl⟩,rfl,by rw[Lf,Lf,PM,PM,hB]⟩⟩
  ·rintro ρ' M2 acc ⟨⟨o0,rfl⟩,rfl,rfl⟩ p j;refine⟨_,_,rfl,af ab,?_⟩;exact⟨by rw[q7,q7,<-ec,D0];lia,z _ _ _ ⟨⟨_,rfl⟩,g.trans (.new j),by rw[Lf,Lf,PM,PM];rfl⟩⟩
 ·rintro ρ' M1 acc ⟨⟨o0,rfl⟩,g,rfl⟩ p j;exact q p _ (g.trans (.new j)) (fR g j) ab
noncomputable def lU(s:Stmt):FD:=⟨"_law_product",s,["_law_one","_law_other","_law_found","_law_row_here"],2,
 (.cons (.asg (.name 2) (.lst .nil))
 (.cons (.for (.name 3) (.seq (.var 0)) (.cons (.drop (.meth .append (.var 2) (.comp [Y,(Z 3),(Z 1)] ["_law_c","_law_row_here","_law_other"] (.last (.rng1 (.blt .len (.cons (.var 3) .nil))) (.name 0) .nil (.blt .sum (.cons (.comp [Y,(Z 1),(Z 2),(Z 0)] ["_law_b","_law_row_here","_law_other","_law_c"] (.last (.rng1 (.blt .len (.cons (.var 1) .nil))) (.name 0) .nil (.bin .mul (.ix (.var 1) (.var 0)) (.ix (.ix (.var 2) (.var 0)) (.var 3))))) .nil))))))
 .nil))
 (.cons (.ret (.var 2))
 .nil)))⟩
theorem zJ(hf:T[f]?=Z (lU s)){k:Nat}(hk:1<=k){B R2:Bks}{L:VQ}{sz:Nat}(h1:RwAt M L B sz)(h2:RwAt M p2 R2 sz)(l1:B.length=sz)(l2:R2.length=sz)(hz:sz<=20)(ba:∀r∈B,∀x∈r.2,-(2^64)<x/\x<2^64)(q:∀p R' M',Ge M M'->M p=Y->RwAt M' p R' sz->R'.map (·.2)=B.map (λr=>gJ sz r.2 (R2.map (·.2)))->Q (.ref p) M'):phi T k f [.ref L,.ref p2] M Q:=by
 refine aA ∅ hf rfl (ρ:=[Z _,Z _,Y,Y]) rfl ?_
 unfold lU;nofun;refine⟨by rw[D0];decide,λpf j=>?_⟩
 nofun;refine⟨_,af ((Ge.new j) _ _ h1.at'),?_⟩;refine bJ (f:=λr:VQ×List Int=>.ref r.1) (ys:=B) (I:=λl ρ M'=>∃F2 R',ρ=[Z (.ref L),Z (.ref p2),Z (.ref pf),F2]/\Ge M M'/\M' pf=Z (.lst ((R':Bks).map λr=>.ref r.1))/\R'.map (·.2)=l.map (λr=>gJ sz r.2 (R2.map (·.2)))/\∀r∈R',M' r.1=Z (.lst (r.2.map .int))/\r.2.length=sz/\r.1≠pf) rfl ⟨Y,[],rfl,.new j,ab,rfl,by simp⟩ ?_ ?_ ?_
 ·rintro l ρ M' ⟨_,_,_,g,_⟩;exact af (g _ _ h1.at')
 ·rintro l r rr ρ M' e ⟨F2,R',rfl,g,ef,eR,J⟩;refine⟨_,rfl,λF hF=>?_⟩;obtain⟨er,el⟩:=h1.row r (by rw[e];simp)
  have O:R'.length=l.length:=by have:=congrArg LP eR;simpa using this
  have Iq:=ax e;rw[bI];refine⟨_,rfl,?_⟩;refine⟨⟨pf,_,rfl,ef⟩,?_⟩;refine Ed rfl rfl (g _ _ er) el (h2.ge g) l2 hz (ba r (by rw[e];simp)) λp M2 g2 fv e2=>?_
  have G:p≠pf:=λz=>by rw[z,ef]at fv;cases fv
  have U:=g2 _ _ ef;refine⟨pf,_,_,rfl,rfl,U,by rw[q7,O,D0];lia,?_⟩
  show wSs (phi T (k-1)) .nil _ _ _;ac_nf;refine hF _ _ ⟨_,R'++[(p,gJ sz r.2 (R2.map (·.2)))],rfl,qJ (g.trans g2) j,?_,by simp[eR],λu hu=>?_⟩
  ·rw[ab];simp
  ·rcases KQ.mp hu with h|h
   ·obtain⟨u1,u2,u3⟩:=J u h;exact⟨by rw[ar u3];exact g2 _ _ u1,u2,u3⟩
   ·rw[Mk]at h;subst h;exact⟨by rw[ar G];exact e2,by simp[gJ],G⟩
 ·rintro ρ M' ⟨_,R',rfl,g,ef,eR,J⟩;nofun;exact q _ R' _ g j ⟨ef,λr hr=>⟨(J r hr).1,(J r hr).2.1⟩⟩ eR
end
section
open L2.Srt
theorem qR{sz b:Nat}(z:b<sz):∀{R:List (List Int)} {a:Nat},(∀r∈R,r.length=sz)->a<R.length->gz R.flatten (a*sz+b:Nat)=gz (R.getD a []) (b:Nat)
 |r::R,0,h,_=>by
  have:=h r (by simp)
  rw[LI,eZ,if_pos ∅]
  simp
 |r::R,a+1,h,B=>by
  have j:=h r (by simp)
  rw[LI,eZ,if_neg (by rw[j,US];lia),j,show(((a+1)*sz+b:Nat):Int)-(sz:Nat)=((a*sz+b:Nat):Int) by rw[US];lia,qR z (λx hx=>h x (L9 _ hx)) (by simpa using B)]
  rfl
theorem Fx{i:Nat}:gi l (i:Nat)=gz l (i:Nat):=by unfold gi gz;rw[if_neg ∅]
theorem Ee{j R2:List (List Int)}{sz x:Nat}(l1:j.length=sz)(l2:R2.length=sz)(h1:∀r∈j,r.length=sz)(h2:∀r∈R2,r.length=sz)(hx:x<sz):fB (mm sz j.flatten R2.flatten) sz x=gJ sz (j.getD x []) R2:=by unfold fB gJ;refine Mw λc z=>?_;have z:=LC.mp z;rw[Fx];unfold mm;rw[ij hx z];exact au λb B=>by rw[qR B h1 ∅,qR z h2 ∅]
end
section
open L2.Srt
variable{T:List FD}
noncomputable def iU(s:Stmt):FD:=⟨"_law_same_row",s,["_law_found","_law_due"],2,
 (.cons (.ite (.or (.cons (.not (.tru (.isin (.var 0) "list"))) (.cons (.cmp .ne (.blt .len (.cons (.var 0) .nil)) (.blt .len (.cons (.var 1) .nil))) .nil))) (.cons (.ret (.bl VP))
 .nil) .nil)
 (.cons (.ret (.blt .all (.cons (.comp [Y,Y] ["_law_a","_law_b"] (.last (.zip (.var 0) (.var 1)) (.tup (.cons (.name 0) (.cons (.name 1) .nil))) .nil (.and (.cons (.isin (.var 0) "int") (.cons (.not (.isin (.var 0) "bool")) (.cons (.cmp .eq (.var 0) (.var 1)) .nil)))))) .nil)))
 .nil))⟩
noncomputable def lV(s:Stmt)(fs:Nat):FD:=⟨"_law_right",s,["_law_found","_law_due","_law_times_here","_law_row_here"],3,
 (.cons (.ite (.or (.cons (.not (.tru (.isin (.var 0) "tuple"))) (.cons (.cmp .ne (.blt .len (.cons (.var 0) .nil)) (.int 2)) (.cons (.not (.tru (.isin (.ix (.var 0) (.int 0)) "list"))) .nil)))) (.cons (.ret (.bl VP))
 .nil) .nil)
 (.cons (.ite (.or (.cons (.cmp .ne (.blt .len (.cons (.ix (.var 0) (.int 0)) .nil)) (.blt .len (.cons (.var 1) .nil))) (.cons (.not (.tru (.call fs (.cons (.lst (.cons (.ix (.var 0) (.int 1)) .nil)) (.cons (.lst (.cons (.var 2) .nil)) .nil))))) .nil))) (.cons (.ret (.bl VP))
 .nil) .nil)
 (.cons (.ite (.not (.tru (.blt .all (.cons (.comp [Y,Y] ["_law_row_here","_law_other"] (.last (.zip (.ix (.var 0) (.int 0)) (.var 1)) (.tup (.cons (.name 0) (.cons (.name 1) .nil))) .nil (.call fs (.cons (.var 0) (.cons (.var 1) .nil))))) .nil)))) (.cons (.ret (.bl VP))
 .nil) .nil)
 (.cons (.for (.name 3) (.seq (.ix (.var 0) (.int 0))) (.cons (.drop (.meth .append (.var 3) (.int 7)))
 .nil))
 (.cons (.ret (.blt .all (.cons (.comp [Y,(Z 1)] ["_law_row_here","_law_due"] (.last (.seq (.ix (.var 0) (.int 0))) (.name 0) .nil (.cmp .eq (.blt .len (.cons (.var 0) .nil)) (.bin .add (.blt .len (.cons (.var 1) .nil)) (.int 1))))) .nil)))
 .nil)))))⟩
theorem lW{α:Type}{l:List α}:KD l.length (D.bl N3)=l.map λ_=>D.bl N3:=by
 induction l with
 |nil=>rfl
 |cons a l ih=>rw[LF,LY,ih];rfl
theorem qS:∀A:List Int,Pe gd (A.map D.int) (A.map D.int)=A.map λx=>D.tup [.int x,.int x]
 |[]=>rfl
 |a::A=>by rw[KY,Qc,qS A,KY];rfl
theorem qT(hf:T[f]?=Z (iU s)){k:Nat}(F:1<=k){p':VQ}(ep:M p=Z (.lst (A.map .int)))(ep':M p'=Z (.lst (A.map .int)))(G:A.length<=1000)(q:∀M',Ge M M'->Q (.bl N3) M'):phi T k f [.ref p,.ref p'] M Q:=by
 refine aA ∅ hf rfl (ρ:=[Z _,Z _]) rfl ?_
 unfold iU;nofun;refine⟨"list",by simp[tyN,ep],N3,rfl,?_⟩
 rw[if_neg (by decide)]
 refine b7 ep (b7 ep' ?_);ac_nf;rw[if_neg (by simp)]
 nofun;refine⟨_,af ep,_,af ep',?_⟩;refine am (f:=λx:Int=>D.tup [.int x,.int x]) (ys:=A) (I:=λl ρ M' acc=>(∃o0 z,ρ=[o0,z])/\M'=M/\acc=l.map λ_=>D.bl N3) (qS A) ⟨⟨_,_,rfl⟩,rfl,rfl⟩ (λ_ _ _ _ h=>by rw[h.2.1];exact⟨af ep,af ep'⟩) ?_ ?_
 ·rintro l x r ρ M1 acc e ⟨⟨o0,z,rfl⟩,rfl,rfl⟩;refine⟨_,rfl,λN' j=>?_⟩;have B:=ax e;ac_nf;refine⟨"int",rfl,?_⟩;rw[if_pos (by rfl)]
  refine⟨"int",rfl,?_⟩;rw[if_pos (by rfl)]
  exact⟨by rw[q7,D0];lia,j _ _ _ ⟨⟨_,_,rfl⟩,rfl,by simp⟩⟩
 ·rintro ρ M1 acc ⟨_,rfl,rfl⟩ pa hpa;exact qH (n:=A.length) (by rw[ab,lW]) (q _ (.new hpa))
theorem qU:∀R Du:Bks,Pe gd (R.map λr=>Mi.D.ref r.1) (Du.map λr=>Mi.D.ref r.1)=(R.zip Du).map λz=>Mi.D.tup [.ref z.1.1,.ref z.2.1]
 |[],_=>by simp
 |_::_,[]=>by simp
 |a::A,b::B=>by rw[KY,KY,Qc,qU A B,NV,KY];rfl
theorem qV:∀{R Du:Bks},R.map (·.2)=Du.map (·.2)->∀z∈R.zip Du,z.1.2=z.2.2
 |[],_,_,z,h=>by simp at h
 |_::_,[],_,z,h=>by simp at h
 |a::A,b::B,e,z,h=>by
  rw[KY,KY]at e;rw[NV]at h
  rcases KH.mp h with rfl|h
  ·exact(Vs.inj e).1
  ·exact qV (Vs.inj e).2 z h
theorem zK{fs:Nat}(hf:T[f]?=Z (lV s fs))(L:T[fs]?=Z (iU ss)){k:Nat}(G:2<=k){pt pd:VQ}{R Du:Bks}{sz:Nat}{tm:Int}(j:RwAt M pt R sz)(B:RwAt M pd Du sz)(e:R.map (·.2)=Du.map (·.2))(nd:(R.map (·.1)).Nodup)(hl:R.length=sz)(hz:sz<=100)(nt:pt∉R.map (·.1))(nd':pd∉R.map (·.1))(q:∀M',(∀a o,a∉R.map (·.1)->M a=Z o->M' a=Z o)->Q (.bl N3) M'):phi T k f [.tup [.ref pt,.int tm],.ref pd,.int tm] M Q:=by
 refine aA ∅ hf rfl (ρ:=[Z _,Z _,Z _,Y]) rfl ?_
 unfold lV;nofun;refine⟨"tuple",rfl,N3,rfl,?_⟩;rw[if_neg (by decide),if_neg (by decide)]
 refine⟨_,rfl,"list",by simp[tyN,j.at'],N3,rfl,?_⟩
 rw[if_neg (by decide)]
 nofun;have lD:Du.length=sz:=by have:=congrArg LP e;rw[q7,q7]at this;lia
 refine⟨_,rfl,b7 j.at' (b7 B.at' ?_)⟩;ac_nf;rw[q7,q7,hl,lD,if_neg (by simp)]
 refine⟨_,rfl,by rw[D0];decide,λp1 Iq=>⟨by rw[D0];decide,λp2 Ir=>?_⟩⟩
 have g1:=Ge.new (o:=.lst ([tm].map .int)) Iq;have g2:=Ge.new (o:=.lst ([tm].map .int)) Ir;refine qT L ∅ (A:=[tm]) (g2 _ _ ab) ab (by simp) λM1 g3=>?_
 have g:=(g1.trans g2).trans g3;refine⟨N3,rfl,?_⟩;rw[if_neg (by decide)]
 have j:=j.ge g;have B:=B.ge g;nofun;refine⟨_,rfl,_,af j.at',_,af B.at',?_⟩;refine am (f:=λz:(VQ×List Int)×(VQ×List Int)=>Mi.D.tup [.ref z.1.1,.ref z.2.1]) (ys:=R.zip Du) (I:=λl ρ M' acc=>(∃o0 o1,ρ=[o0,o1])/\Ge M1 M'/\acc=l.map λ_=>Mi.D.bl N3) (qU R Du) ⟨⟨_,_,rfl⟩,.refl,rfl⟩ (λ_ _ _ _ h=>⟨af (h.2.1 _ _ j.at'),af (h.2.1 _ _ B.at')⟩) ?_ ?_
 ·rintro l z r ρ M2 acc ez ⟨⟨o0,o1,rfl⟩,O,rfl⟩;refine⟨_,rfl,λN' J=>?_⟩;have U:=ax ez;rw[UZ]at U;have hm:z∈R.zip Du:=by rw[ez];simp
  have Is:=qV e z hm;obtain⟨z1,z2⟩:=O6 (a:=z.1) (b:=z.2) hm;have r1:=j.row z.1 z1;have r2:=B.row z.2 z2;ac_nf;refine qT L ∅ (A:=z.1.2) (O _ _ r1.1) (by rw[Is];exact O _ _ r2.1) ∅ λM3 g5=>?_
  exact⟨by rw[q7,D0];lia,J _ _ _ ⟨⟨_,_,rfl⟩,O.trans g5,by simp⟩⟩
 ·rintro ρ M2 acc ⟨_,O,rfl⟩ pa hpa;refine qH (n:=(R.zip Du).length) (by rw[ab,lW]) ?_
  refine⟨N3,rfl,?_⟩;rw[if_neg (by decide)]
  have fv:=O.trans (.new (o:=.lst ((R.zip Du).map λ_=>Mi.D.bl N3)) hpa);generalize ag M2 pa (.lst ((R.zip Du).map λ_=>Mi.D.bl N3))=M3 at fv⊢;have j:=j.ge fv;have B:=B.ge fv;have gM:=g.trans fv;nofun;refine⟨_,rfl,_,af j.at',?_⟩;refine bJ (f:=λr:VQ×List Int=>.ref r.1) (ys:=R) (I:=λl ρ M'=>(∃o3,ρ=[Z (Mi.D.tup [Mi.D.ref pt,Mi.D.int tm]),Z (Mi.D.ref pd),Z (Mi.D.int tm),o3])/\(∀a o,a∉R.map (·.1)->M3 a=Z o->M' a=Z o)/\(∀r∈l,M' r.1=Z (.lst ((r.2++[7]).map .int)))/\∀l',R=l++l'->∀r∈l',M' r.1=Z (.lst (r.2.map .int))) rfl ⟨⟨_,rfl⟩,λ_ _ _ h=>h,by simp,λl' e' r hr=>(j.row r (by rw[e'];exact hr)).1⟩ ?_ ?_ ?_
  ·rintro l ρ M' ⟨_,G,_⟩;exact af (G _ _ nt j.at')
  ·rintro l r rr ρ M' er ⟨⟨o3,rfl⟩,G,h1,h2⟩;refine⟨_,rfl,λF hF=>?_⟩;have hr:=h2 _ er r (by simp)
   have Iu:=(j.row r (by rw[er];simp)).2
   rw[bI];ac_nf;refine⟨⟨_,hr⟩,?_⟩;refine⟨r.1,_,_,rfl,rfl,hr,by rw[q7,D0];lia,?_⟩
   have F2:r.1∉l.map (·.1)/\r.1∉rr.map (·.1):=by rw[er,Lf,KY,Nz]at nd;exact⟨λz=>nd.2.2 _ z _ Ln rfl,(Mn.mp nd.2.1).1⟩
   refine hF _ _ ⟨⟨_,rfl⟩,λa o ha hm=>?_,λu hu=>?_,λl' e' u hu=>?_⟩
   ·rw[ar (λz=>ha (by rw[z,er];simp))];exact G a o ha hm
   ·rcases KQ.mp hu with h|h
    ·rw[ar (λz=>F2.1 (by rw[<-z];exact L6 h))];exact h1 u h
    ·rw[Mk]at h;subst h;rw[ab,Lf];rfl
   ·have e2:rr=l':=by
     rw[er,L7]at e';exact Vs.inj (List.append_cancel_left e') |>.2
    subst e2;rw[ar (λz=>F2.2 (by rw[<-z];exact L6 hu))]
    exact h2 _ er u (L9 _ hu)
  ·rintro ρ M' ⟨⟨o3,rfl⟩,G,h1,h2⟩;nofun;have ept:=G _ _ nt j.at';have epd:=G _ _ nd' B.at';refine⟨_,rfl,_,af ept,?_⟩;refine am (f:=λr:VQ×List Int=>.ref r.1) (ys:=R) (I:=λl ρ M2 acc=>(∃o0,ρ=[o0,Z (Mi.D.ref pd)])/\M2=M'/\acc=l.map λ_=>Mi.D.bl N3) rfl ⟨⟨_,rfl⟩,rfl,rfl⟩ (λ_ _ _ _ h=>by rw[h.2.1];exact af ept) ?_ ?_
   ·rintro l r rr ρ M2 acc er ⟨⟨o0,rfl⟩,rfl,rfl⟩;refine⟨_,rfl,λN' J=>?_⟩;have U:=ax er;have hm:r∈R:=by rw[er];simp
    ac_nf;refine b7 (h1 r hm) (b7 epd ?_);ac_nf;refine⟨by rw[q7,D0];lia,J _ _ _ ⟨⟨_,rfl⟩,rfl,?_⟩⟩
    simp[(j.row r hm).2,lD]
   ·rintro ρ M2 acc ⟨_,rfl,rfl⟩ pz hpz;refine qH (n:=R.length) (by rw[ab,lW]) (q _ λa o ha hm=>?_)
    exact Ge.new hpz _ _ (G a o ha (gM _ _ hm))
theorem fi{n:Nat}{M:Mem}(ih:∀d p,rb n M d=Z p->LV p p=N3):∀{ds:List D} {ps:List Mr},ay (rb n M) ds=Z ps->Qs ps ps=N3
 |[],ps,h=>by simp[ay]at h;subst h;rfl
 |d::ds,ps,h=>by
  simp only[ay]at h
  cases j:rb n M d with
  |none=>rw[j]at h;cases h
  |some p=>
   cases z:ay (rb n M) ds with
   |none=>rw[j,z]at h;cases h
   |some r=>rw[j,z]at h;cases h;simp[Qs,ih d p j,fi ih z]
theorem Cd:∀(n:Nat) (d:D) (p:Mr),rb n M d=Z p->LV p p=N3:=by
 intro n
 induction n with
 |zero=>
  intro d p h
  cases d<;>simp[rb]at h<;>first
   |(subst h;simp[LV])
   |(obtain⟨_,rfl⟩:=h;simp[LV])
 |succ n ih=>
  intro d p h
  cases d<;>simp only[rb]at h<;>first
   |(cases h;simp[LV];done)
   |skip
  case fn=>cases h
  case str x=>split at h<;>cases h;simp[LV]
  case tup ds=>
   cases e:ay (rb n M) ds with
   |none=>rw[e]at h;cases h
   |some r=>rw[e]at h;cases h;simp[LV,fi ih e]
  case con ds=>
   cases e:ay (rb n M) ds with
   |none=>rw[e]at h;cases h
   |some r=>rw[e]at h;cases h;simp[LV,fi ih e]
  case ref a=>
   split at h
   ·next ds _=>
    cases e:ay (rb n M) ds with
    |none=>rw[e]at h;cases h
    |some r=>rw[e]at h;cases h;simp[LV,fi ih e]
   ·cases h
theorem Am{k:Nat}{M:Mem}:∀{R:Bks},(∀r∈R,M r.1=Z (.lst (r.2.map .int)))->ay (rb (k+1) M) (R.map λr=>D.ref r.1)=Z ((R.map (·.2)).map λl=>PR (l.map .int))
 |[],_=>rfl
 |r::R,h=>by rw[KY,ay,qz (h r (by simp)),lH,Am λu j=>h u (L9 _ j)];rfl
theorem xt{k:Nat}{R:Bks}(h:RwAt M p R W):rb (k+2) M (.ref p)=Z (.list ((R.map (·.2)).map λl=>PR (l.map .int))):=by rw[qz h.at',Am λr j=>(h.row r j).1];rfl
theorem Ef{k:Nat}{x y:Int}{ps:List Pr}(h:M a=Z (.lst (ps.map prD))):rb (k+4) M (.tup [.int x,.int y,.int z,.ref a])=Z (.tuple [.int x,.int y,.int z,.list (ps.map lF)]):=by
 have e:rb (k+3) M (.ref a)=Z (.list (ps.map lF)):=by rw[qz h,wF];rfl
 show(ay (rb (k+3) M) [.int x,.int y,.int z,.ref a]).map U8=_;simp only[ay,e];simp[rb]
theorem Ce{j R2:Bks}{sz:Nat}(l1:j.length=sz)(l2:R2.length=sz)(h1:∀r∈j,r.2.length=sz)(h2:∀r∈R2,r.2.length=sz):(KA sz).map (λa=>fB (mm sz (j.map (·.2)).flatten (R2.map (·.2)).flatten) sz a)=j.map λr=>gJ sz r.2 (R2.map (·.2)):=by
 apply MA;intro x
 by_cases hx:x<sz
 ·rw[KL,Mm hx,KL,y3 ∅]
  have z:∀{R:Bks},(∀r∈R,r.2.length=sz)->∀l∈R.map (·.2),l.length=sz:=λh l B=>by obtain⟨r,F,rfl⟩:=KP.mp B;exact h r F
  simp only[O8];rw[Ee (by rw[q7];exact l1) (by rw[q7];exact l2) (z h1) (z h2) hx]
  rw[I7,KL,y3 ∅];rfl
 ·rw[Lx (by simp;lia),Lx (by simp;lia)]
theorem Fy{sz:Nat}{x y:Int}{ps:List Pr}{a' t1 j L:VQ}{B F O R2:Bks}(ea:M a=Z (.lst (ps.map prD)))(ea':M a'=Z (.lst (ps.map prD)))(G:RwAt M t1 B sz)(J:RwAt M j F sz)(U:RwAt M L O sz)(F2:RwAt M p2 R2 sz)(fv:B.map (·.2)=O.map (·.2))(e2:F.map (·.2)=R2.map (·.2))(q:Q (.bl VP) M):
 wNe (.tup [.tup [.int x,.int y,.int z,.ref a],.ref t1,.ref j]) (.tup [.tup [.int x,.int y,.int z,.ref a'],.ref L,.ref p2]) M Q:=by
 have h:∀{a t1 j:VQ} {B F:Bks},M a=Z (.lst (ps.map prD))->RwAt M t1 B sz->RwAt M j F sz->rb 16 M (.tup [.tup [.int x,.int y,.int z,.ref a],.ref t1,.ref j])=Z (.tuple [.tuple [.int x,.int y,.int z,.list (ps.map lF)],.list ((B.map (·.2)).map λl=>PR (l.map .int)),.list ((F.map (·.2)).map λl=>PR (l.map .int))]):=λea G J=>by show(ay (rb 15 M) [.tup [.int x,.int y,.int z,.ref _],.ref _,.ref _]).map U8=_;simp only[ay,Ef (k:=11) ea,xt (k:=13) G,xt (k:=13) J];simp
 have h2:=h ea' U F2;rw[<-fv,<-e2]at h2;refine⟨_,_,h ea G J,h2,?_⟩;rw[Cd _ _ _ h2];exact q
end
section
namespace K49
noncomputable def ai(i:Nat):Stmt:=PySem.Challenge.pw_fewtimes_k49_great_tables.main.body.getD i (.Pass ⟨0,0,0,0⟩)
noncomputable def d0:FD:=ic (ai 1)
noncomputable def d1:FD:=iN (ai 2) 0
noncomputable def d2:FD:=dg (ai 4)
noncomputable def d3:FD:=iP (ai 5)
noncomputable def d4:FD:=fh (ai 7)
noncomputable def d5:FD:=kJ (ai 9)
noncomputable def d6:FD:=ig (ai 10) 2
noncomputable def d7:FD:=kH (ai 11) 6 2
noncomputable def d8:FD:=kK (ai 12)
noncomputable def b9:MSs:=
 (.cons (.ite (.cmp .eq (.var 4) (.int 1)) (.cons (.ret (.tup (.cons (.lst (.cons (.bin .mul (.ix (.var 2) (.int 0)) (.ix (.var 3) (.int 0))) .nil)) (.cons (.int 1) .nil))))
 .nil) .nil)
 (.cons (.asg (.name 5) (.call 5 (.cons (.var 4) (.cons (.var 1) .nil))))
 (.cons (.asg (.name 6) (.bin .mul (.var 1) (.var 5)))
 (.cons (.asg (.name 7) (.comp [Y,Y,(Z 5),(Z 6),(Z 1)] ["a","b","wide","whole","n"] (.more (.rng1 (.var 1)) (.name 0) .nil (.last (.rng1 (.var 4)) (.name 1) .nil (.call 4 (.cons (.var 2) (.cons (.var 2) (.cons (.bin .mul (.var 0) (.var 2)) (.cons (.bin .mul (.var 1) (.var 2)) (.cons (.var 3) .nil))))))))))
 (.cons (.asg (.tup (.cons (.name 8) (.cons (.name 9) .nil))) (.tup (.cons (.call 8 (.cons (.var 2) (.cons (.var 4) (.cons (.var 6) .nil)))) (.cons (.call 8 (.cons (.var 3) (.cons (.var 4) (.cons (.var 6) .nil)))) .nil))))
 (.cons (.asg (.tup (.cons (.name 10) (.cons (.name 11) .nil))) (.callL 7 (.cons (.var 0) (.cons (.comp [Y,(Z 8)] ["spots","left"] (.last (.seq (.var 7)) (.name 0) .nil (.comp [Y,(Z 1)] ["at","left"] (.last (.seq (.var 0)) (.name 0) .nil (.ix (.var 1) (.var 0)))))) (.cons (.comp [Y,(Z 9)] ["spots","right"] (.last (.seq (.var 7)) (.name 0) .nil (.comp [Y,(Z 1)] ["at","right"] (.last (.seq (.var 0)) (.name 0) .nil (.ix (.var 1) (.var 0)))))) (.cons (.var 7) .nil)))) 9 [0,1,5] [0,1,3,4,2] 67 ⟨46,145,46,191⟩ (Ll "side_times.<locals>.<lambda>")))
 (.cons (.ret (.tup (.cons (.call 8 (.cons (.var 10) (.cons (.var 6) (.cons (.var 4) .nil)))) (.cons (.var 11) .nil))))
 .nil)))))))
noncomputable def d9:FD:=⟨"side_times",ai 13,["scheme","n","one","other","side","wide","whole","places","left","right","told","times"],5,b9⟩
noncomputable def d10:FD:=jv (ai 14) 9
noncomputable def d11:FD:=iQ (ai 17) 3
noncomputable def b12:MSs:=
 (.cons (.ret (.tup (.cons (.int 4) (.cons (.int 4) (.cons (.int 4) (.cons (.blt .list (.cons (.glob "SEVEN" (.tup [(.tup [(.tup [(.int 1),(.int 0),(.int 0),(.int 1)]),(.tup [(.int 1),(.int 0),(.int 0),(.int 1)]),(.tup [(.int 1),(.int 0),(.int 0),(.int 1)])]),(.tup [(.tup [(.int 0),(.int 0),(.int 1),(.int 1)]),(.tup [(.int 1),(.int 0),(.int 0),(.int 0)]),(.tup [(.int 0),(.int 0),(.int 1),(.int (-1))])]),(.tup [(.tup [(.int 1),(.int 0),(.int 0),(.int 0)]),(.tup [(.int 0),(.int 1),(.int 0),(.int (-1))]),(.tup [(.int 0),(.int 1),(.int 0),(.int 1)])]),(.tup [(.tup [(.int 0),(.int 0),(.int 0),(.int 1)]),(.tup [(.int (-1)),(.int 0),(.int 1),(.int 0)]),(.tup [(.int 1),(.int 0),(.int 1),(.int 0)])]),(.tup [(.tup [(.int 1),(.int 1),(.int 0),(.int 0)]),(.tup [(.int 0),(.int 0),(.int 0),(.int 1)]),(.tup [(.int (-1)),(.int 1),(.int 0),(.int 0)])]),(.tup [(.tup [(.int (-1)),(.int 0),(.int 1),(.int 0)]),(.tup [(.int 1),(.int 1),(.int 0),(.int 0)]),(.tup [(.int 0),(.int 0),(.int 0),(.int 1)])]),(.tup [(.tup [(.int 0),(.int 1),(.int 0),(.int (-1))]),(.tup [(.int 0),(.int 0),(.int 1),(.int 1)]),(.tup [(.int 1),(.int 0),(.int 0),(.int 0)])])])) .nil)) .nil))))))
 .nil)
noncomputable def d12:FD:=⟨"seven",ai 18,[],0,b12⟩
noncomputable def d13:FD:=kC (ai 20)
noncomputable def d14:FD:=lw (ai 21)
noncomputable def d15:FD:=uC (ai 22) 13 14
noncomputable def d16:FD:=qr (ai 23) 14
noncomputable def d17:FD:=jn (ai 24) 16
noncomputable def d18:FD:=qv (ai 25) 17
noncomputable def d19:FD:=uE (ai 26) 16
noncomputable def d20:FD:=qG (ai 27) 11 1 16 12 18
noncomputable def d21:FD:=jw (ai 28)
noncomputable def d22:FD:=lU (ai 29)
noncomputable def d23:FD:=iU (ai 30)
noncomputable def d24:FD:=lV (ai 31) 23
noncomputable def b25:MSs:=
 (.cons (.for (.name 1) (.rng1 (.blt .max2 (.cons (.int 3) (.cons (.blt .min2 (.cons (.blt .len (.cons (.var 0) .nil)) (.cons (.int 6) .nil))) .nil)))) (.cons (.asg (.name 2) (.call 15 (.cons (.var 0) (.cons (.var 1) .nil))))
 (.cons (.asg (.name 3) (.bin .add (.int 2) (.call 16 (.cons (.var 2) (.cons (.int 2) .nil)))))
 (.cons (.asg (.name 4) (.call 20 (.cons (.var 2) (.cons (.var 3) .nil))))
 (.cons (.asg (.name 5) (.ix (.lst (.cons (.bin .add (.int 1) (.call 16 (.cons (.var 2) (.cons (.int 16) .nil)))) (.cons (.var 3) (.cons (.bin .add (.var 3) (.int 1)) (.cons (.int 1) .nil))))) (.blt .min2 (.cons (.int 3) (.cons (.bin .fdiv (.call 16 (.cons (.var 2) (.cons (.int 8) .nil))) (.int 2)) .nil)))))
 (.cons (.while (.cmp .gt (.call 21 (.cons (.blt .len (.cons (.ix (.var 4) (.int 3)) .nil)) (.cons (.var 3) (.cons (.var 5) .nil)))) (.int 600)) (.cons (.asg (.name 5) (.bin .fdiv (.var 5) (.int 2)))
 .nil))
 (.cons (.asg (.name 6) (.comp [Y,(Z 2),(Z 5)] ["_law_turn","_law_box_here","_law_size"] (.last (.rng1 (.var 5)) (.name 0) .nil (.call 19 (.cons (.var 1) (.cons (.var 2) .nil))))))
 (.cons (.asg (.name 7) (.comp [Y,(Z 2),(Z 5)] ["_law_turn","_law_box_here","_law_size"] (.last (.rng1 (.var 5)) (.name 0) .nil (.call 19 (.cons (.var 1) (.cons (.var 2) .nil))))))
 (.cons (.asg (.name 8) (.comp [Y] ["_law_table"] (.last (.seq (.tup (.cons (.var 6) (.cons (.var 7) .nil)))) (.name 0) .nil (.comp [Y] ["_law_row_here"] (.last (.seq (.var 0)) (.name 0) .nil (.blt .list (.cons (.var 0) .nil)))))))
 (.cons (.asg (.name 9) (.tup (.cons (.bin .add (.sl (.var 4) .none (.some (.int 3))) (.tup (.cons (.blt .list (.cons (.ix (.var 4) (.int 3)) .nil)) .nil))) (.cons (.ix (.var 8) (.int 0)) (.cons (.ix (.var 8) (.int 1)) .nil)))))
 (.cons (.asg (.name 10) (.call 21 (.cons (.blt .len (.cons (.ix (.var 4) (.int 3)) .nil)) (.cons (.var 3) (.cons (.var 5) .nil)))))
 (.cons (.for (.name 11) (.rng1 (.int 2)) (.cons (.asg (.name 12) (.call 10 (.cons (.ix (.var 9) (.int 0)) (.cons (.var 3) (.cons (.ix (.var 9) (.int 1)) (.cons (.ix (.var 9) (.int 2)) .nil))))))
 (.cons (.ite (.or (.cons (.not (.tru (.call 24 (.cons (.var 12) (.cons (.call 22 (.cons (.var 6) (.cons (.var 7) .nil))) (.cons (.var 10) .nil)))))) (.cons (.cmp .ne (.var 9) (.tup (.cons (.var 4) (.cons (.var 6) (.cons (.var 7) .nil))))) .nil))) (.cons (.ret (.bl VP))
 .nil) .nil)
 .nil)))
 .nil))))))))))))
 (.cons (.ret (.bl N3))
 .nil))
noncomputable def d25:FD:=⟨"law",ai 32,["_law_script","_law_k","_law_box_here","_law_n","_law_scheme","_law_size","_law_one","_law_other","_law_tables","_law_handed","_law_times_here","_law_turn","_law_found"],1,b25⟩
noncomputable def tab:List FD:=[d0,d1,d2,d3,d4,d5,d6,d7,d8,d9,d10,d11,d12,d13,d14,d15,d16,d17,d18,d19,d20,d21,d22,d23,d24,d25]
noncomputable def qW:List (Str×D):=[("SEVEN",(.tup [(.tup [(.tup [(.int 1),(.int 0),(.int 0),(.int 1)]),(.tup [(.int 1),(.int 0),(.int 0),(.int 1)]),(.tup [(.int 1),(.int 0),(.int 0),(.int 1)])]),(.tup [(.tup [(.int 0),(.int 0),(.int 1),(.int 1)]),(.tup [(.int 1),(.int 0),(.int 0),(.int 0)]),(.tup [(.int 0),(.int 0),(.int 1),(.int (-1))])]),(.tup [(.tup [(.int 1),(.int 0),(.int 0),(.int 0)]),(.tup [(.int 0),(.int 1),(.int 0),(.int (-1))]),(.tup [(.int 0),(.int 1),(.int 0),(.int 1)])]),(.tup [(.tup [(.int 0),(.int 0),(.int 0),(.int 1)]),(.tup [(.int (-1)),(.int 0),(.int 1),(.int 0)]),(.tup [(.int 1),(.int 0),(.int 1),(.int 0)])]),(.tup [(.tup [(.int 1),(.int 1),(.int 0),(.int 0)]),(.tup [(.int 0),(.int 0),(.int 0),(.int 1)]),(.tup [(.int (-1)),(.int 1),(.int 0),(.int 0)])]),(.tup [(.tup [(.int (-1)),(.int 0),(.int 1),(.int 0)]),(.tup [(.int 1),(.int 1),(.int 0),(.int 0)]),(.tup [(.int 0),(.int 0),(.int 0),(.int 1)])]),(.tup [(.tup [(.int 0),(.int 1),(.int 0),(.int (-1))]),(.tup [(.int 0),(.int 0),(.int 1),(.int 1)]),(.tup [(.int 1),(.int 0),(.int 0),(.int 0)])])]))]
noncomputable def lms:List (Str×VQ):=[("side_times",67)]
noncomputable def lmM:List (VQ×Pos×Str):=[(67,⟨46,145,46,191⟩,Ll "side_times.<locals>.<lambda>")]
theorem uI(us:List i3)(h:us.length=5):∃a b c d e,us=[a,b,c,d,e]:=by
 cases us with
 |nil=>cases h
 |cons a us=>obtain⟨b,c,d,e,rfl⟩:=uB us (Vk.inj h);exact⟨a,b,c,d,e,rfl⟩
end K49
end
section
namespace K49
theorem Eg:∀d∈tab,uw (tab.map (·.name)) qW lms d=N3:=by decide +kernel
noncomputable abbrev PA(K:Frag)(x:Str)(f:VQ):Prop:=PY K Me x=Z (Z (.ref f))
noncomputable abbrev PL(K:Frag)(f:VQ)(x:Str)(s:Stmt)(oc:i3)(od:Option VQ)(kV dc pm:i3)(an:Option VQ)(cd ct:i3)(sl:Array (Option i3)):Prop:=K.lookup f=Z ⟨oc,od,.func (Nr x x (cV s) (bv s) (al s) .none kV dc pm an cd ct),sl⟩
noncomputable abbrev PC(K:Frag)(c:i3)(x:Str):Prop:=P4 K c x=N3
noncomputable abbrev PK(K:Frag)(f:VQ):Prop:=NT K (.ref f)=N3
theorem all_mk{l:Su}{w:Ly}{K:Frag}{h:Heap}{mg:Str->Option i3}{fa:VQ}(X:K.In h)(G:h.Ns Me mg)(hfa:mg "law"=Z (.ref fa))(z:∀x∈bltNames,PY K Me x=Z Y)(a0:PA K "task_of" f0)(l0:PL K f0 "task_of" (ai 1) oc0 od0 kV0 dc0 pm0 an0 cd0 ct0 sl0)(c0:PC K cd0 "task_of")(k0:PK K f0)(a1:PA K "table_task" f1)(l1:PL K f1 "table_task" (ai 2) oc1 od1 kV1 dc1 pm1 an1 cd1 ct1 sl1)(c1:PC K cd1 "table_task")(k1:PK K f1)(a2:PA K "filled" f2)(l2:PL K f2 "filled" (ai 4) oc2 od2 kV2 dc2 pm2 an2 cd2 ct2 sl2)(c2:PC K cd2 "filled")(k2:PK K f2)(a3:PA K "single_one" f3)(l3:PL K f3 "single_one" (ai 5) oc3 od3 kV3 dc3 pm3 an3 cd3 ct3 sl3)(c3:PC K cd3 "single_one")(k3:PK K f3)(a4:PA K "table_places" f4)(l4:PL K f4 "table_places" (ai 7) oc4 od4 kV4 dc4 pm4 an4 cd4 ct4 sl4)(c4:PC K cd4 "table_places")(k4:PK K f4)(a5:PA K "block_length" f5)(l5:PL K f5 "block_length" (ai 9) oc5 od5 kV5 dc5 pm5 an5 cd5 ct5 sl5)(c5:PC K cd5 "block_length")(k5:PK K f5)(a6:PA K "block_sum" f6)(l6:PL K f6 "block_sum" (ai 10) oc6 od6 kV6 dc6 pm6 an6 cd6 ct6 sl6)(c6:PC K cd6 "block_sum")(k6:PK K f6)(a7:PA K "by_blocks" f7)(l7:PL K f7 "by_blocks" (ai 11) oc7 od7 kV7 dc7 pm7 an7 cd7 ct7 sl7)(c7:PC K cd7 "by_blocks")(k7:PK K f7)(a8:PA K "resized" f8)(l8:PL K f8 "resized" (ai 12) oc8 od8 kV8 dc8 pm8 an8 cd8 ct8 sl8)(c8:PC K cd8 "resized")(k8:PK K f8)(a9:PA K "side_times" f9)(l9:PL K f9 "side_times" (ai 13) oc9 od9 kV9 dc9 pm9 an9 (.ref cl9) ct9 sl9)(c9:PC K (.ref cl9) "side_times")(k9:PK K f9)(a10:PA K "table_times" f10)(l10:PL K f10 "table_times" (ai 14) oc10 od10 kV10 dc10 pm10 an10 cd10 ct10 sl10)(c10:PC K cd10 "table_times")(k10:PK K f10)(a11:PA K "plain" f11)(l11:PL K f11 "plain" (ai 17) oc11 od11 kV11 dc11 pm11 an11 cd11 ct11 sl11)(c11:PC K cd11 "plain")(k11:PK K f11)(a12:PA K "seven" f12)(l12:PL K f12 "seven" (ai 18) oc12 od12 kV12 dc12 pm12 an12 cd12 ct12 sl12)(c12:PC K cd12 "seven")(k12:PK K f12)(a13:PA K "_law_cell_at" f13)(l13:PL K f13 "_law_cell_at" (ai 20) oc13 od13 kV13 dc13 pm13 an13 cd13 ct13 sl13)(c13:PC K cd13 "_law_cell_at")(k13:PK K f13)(a14:PA K "_law_mixed" f14)(l14:PL K f14 "_law_mixed" (ai 21) oc14 od14 kV14 dc14 pm14 an14 cd14 ct14 sl14)(c14:PC K cd14 "_law_mixed")(k14:PK K f14)(a15:PA K "_law_box" f15)(l15:PL K f15 "_law_box" (ai 22) oc15 od15 kV15 dc15 pm15 an15 cd15 ct15 sl15)(c15:PC K cd15 "_law_box")(k15:PK K f15)(a16:PA K "_law_take" f16)(l16:PL K f16 "_law_take" (ai 23) oc16 od16 kV16 dc16 pm16 an16 cd16 ct16 sl16)(c16:PC K cd16 "_law_take")(k16:PK K f16)(a17:PA K "_law_number" f17)(l17:PL K f17 "_law_number" (ai 24) oc17 od17 kV17 dc17 pm17 an17 cd17 ct17 sl17)(c17:PC K cd17 "_law_number")(k17:PK K f17)(a18:PA K "_law_part" f18)(l18:PL K f18 "_law_part" (ai 25) oc18 od18 kV18 dc18 pm18 an18 cd18 ct18 sl18)(c18:PC K cd18 "_law_part")(k18:PK K f18)(a19:PA K "_law_row" f19)(l19:PL K f19 "_law_row" (ai 26) oc19 od19 kV19 dc19 pm19 an19 cd19 ct19 sl19)(c19:PC K cd19 "_law_row")(k19:PK K f19)(a20:PA K "_law_table_scheme" f20)(l20:PL K f20 "_law_table_scheme" (ai 27) oc20 od20 kV20 dc20 pm20 an20 cd20 ct20 sl20)(c20:PC K cd20 "_law_table_scheme")(k20:PK K f20)(a21:PA K "_law_times" f21)(l21:PL K f21 "_law_times" (ai 28) oc21 od21 kV21 dc21 pm21 an21 cd21 ct21 sl21)(c21:PC K cd21 "_law_times")(k21:PK K f21)(a22:PA K "_law_product" f22)(l22:PL K f22 "_law_product" (ai 29) oc22 od22 kV22 dc22 pm22 an22 cd22 ct22 sl22)(c22:PC K cd22 "_law_product")(k22:PK K f22)(a23:PA K "_law_same_row" f23)(l23:PL K f23 "_law_same_row" (ai 30) oc23 od23 kV23 dc23 pm23 an23 cd23 ct23 sl23)(c23:PC K cd23 "_law_same_row")(k23:PK K f23)(a24:PA K "_law_right" f24)(l24:PL K f24 "_law_right" (ai 31) oc24 od24 kV24 dc24 pm24 an24 cd24 ct24 sl24)(c24:PC K cd24 "_law_right")(k24:PK K f24)(a25:PA K "law" f25)(l25:PL K f25 "law" (ai 32) oc25 od25 kV25 dc25 pm25 an25 cd25 ct25 sl25)(c25:PC K cd25 "law")(k25:PK K f25)(gcst0:PY K Me "SEVEN"=Z (Z (.ref ua0)))(gu0:K.lookup ua0=Z ⟨.type "tuple",uo0,.seq #[(.ref ua1),(.ref ua17),(.ref ua33),(.ref ua49),(.ref ua65),(.ref ua81),(.ref ua97)] un0,us0⟩)(gu1:K.lookup ua1=Z ⟨.type "tuple",uo1,.seq #[(.ref ua2),(.ref ua7),(.ref ua12)] un1,us1⟩)(gu2:K.lookup ua2=Z ⟨.type "tuple",uo2,.seq #[(.int 1 ut3),(.int 0 ut4),(.int 0 ut5),(.int 1 ut6)] un2,us2⟩)(gu7:K.lookup ua7=Z ⟨.type "tuple",uo7,.seq #[(.int 1 ut8),(.int 0 ut9),(.int 0 ut10),(.int 1 ut11)] un7,us7⟩)(gu12:K.lookup ua12=Z ⟨.type "tuple",uo12,.seq #[(.int 1 ut13),(.int 0 ut14),(.int 0 ut15),(.int 1 ut16)] un12,us12⟩)(gu17:K.lookup ua17=Z ⟨.type "tuple",uo17,.seq #[(.ref ua18),(.ref ua23),(.ref ua28)] un17,us17⟩)(gu18:K.lookup ua18=Z ⟨.type "tuple",uo18,.seq #[(.int 0 ut19),(.int 0 ut20),(.int 1 ut21),(.int 1 ut22)] un18,us18⟩)(gu23:K.lookup ua23=Z ⟨.type "tuple",uo23,.seq #[(.int 1 ut24),(.int 0 ut25),(.int 0 ut26),(.int 0 ut27)] un23,us23⟩)(gu28:K.lookup ua28=Z ⟨.type "tuple",uo28,.seq #[(.int 0 ut29),(.int 0 ut30),(.int 1 ut31),(.int (-1) ut32)] un28,us28⟩)(gu33:K.lookup ua33=Z ⟨.type "tuple",uo33,.seq #[(.ref ua34),(.ref ua39),(.ref ua44)] un33,us33⟩)(gu34:K.lookup ua34=Z ⟨.type "tuple",uo34,.seq #[(.int 1 ut35),(.int 0 ut36),(.int 0 ut37),(.int 0 ut38)] un34,us34⟩)(gu39:K.lookup ua39=Z ⟨.type "tuple",uo39,.seq #[(.int 0 ut40),(.int 1 ut41),(.int 0 ut42),(.int (-1) ut43)] un39,us39⟩)(gu44:K.lookup ua44=Z ⟨.type "tuple",uo44,.seq #[(.int 0 ut45),(.int 1 ut46),(.int 0 ut47),(.int 1 ut48)] un44,us44⟩)(gu49:K.lookup ua49=Z ⟨.type "tuple",uo49,.seq #[(.ref ua50),(.ref ua55),(.ref ua60)] un49,us49⟩)(gu50:K.lookup ua50=Z ⟨.type "tuple",uo50,.seq #[(.int 0 ut51),(.int 0 ut52),(.int 0 ut53),(.int 1 ut54)] un50,us50⟩)(gu55:K.lookup ua55=Z ⟨.type "tuple",uo55,.seq #[(.int (-1) ut56),(.int 0 ut57),(.int 1 ut58),(.int 0 ut59)] un55,us55⟩)(gu60:K.lookup ua60=Z ⟨.type "tuple",uo60,.seq #[(.int 1 ut61),(.int 0 ut62),(.int 1 ut63),(.int 0 ut64)] un60,us60⟩)(gu65:K.lookup ua65=Z ⟨.type "tuple",uo65,.seq #[(.ref ua66),(.ref ua71),(.ref ua76)] un65,us65⟩)(gu66:K.lookup ua66=Z ⟨.type "tuple",uo66,.seq #[(.int 1 ut67),(.int 1 ut68),(.int 0 ut69),(.int 0 ut70)] un66,us66⟩)(gu71:K.lookup ua71=Z ⟨.type "tuple",uo71,.seq #[(.int 0 ut72),(.int 0 ut73),(.int 0 ut74),(.int 1 ut75)] un71,us71⟩)(gu76:K.lookup ua76=Z ⟨.type "tuple",uo76,.seq #[(.int (-1) ut77),(.int 1 ut78),(.int 0 ut79),(.int 0 ut80)] un76,us76⟩)(gu81:K.lookup ua81=Z ⟨.type "tuple",uo81,.seq #[(.ref ua82),(.ref ua87),(.ref ua92)] un81,us81⟩)(gu82:K.lookup ua82=Z ⟨.type "tuple",uo82,.seq #[(.int (-1) ut83),(.int 0 ut84),(.int 1 ut85),(.int 0 ut86)] un82,us82⟩)(gu87:K.lookup ua87=Z ⟨.type "tuple",uo87,.seq #[(.int 1 ut88),(.int 1 ut89),(.int 0 ut90),(.int 0 ut91)] un87,us87⟩)(gu92:K.lookup ua92=Z ⟨.type "tuple",uo92,.seq #[(.int 0 ut93),(.int 0 ut94),(.int 0 ut95),(.int 1 ut96)] un92,us92⟩)(gu97:K.lookup ua97=Z ⟨.type "tuple",uo97,.seq #[(.ref ua98),(.ref ua103),(.ref ua108)] un97,us97⟩)(gu98:K.lookup ua98=Z ⟨.type "tuple",uo98,.seq #[(.int 0 ut99),(.int 1 ut100),(.int 0 ut101),(.int (-1) ut102)] un98,us98⟩)(gu103:K.lookup ua103=Z ⟨.type "tuple",uo103,.seq #[(.int 0 ut104),(.int 0 ut105),(.int 1 ut106),(.int 1 ut107)] un103,us103⟩)(gu108:K.lookup ua108=Z ⟨.type "tuple",uo108,.seq #[(.int 1 ut109),(.int 0 ut110),(.int 0 ut111),(.int 0 ut112)] un108,us108⟩)(hd9:MN K cl9 67=N3)
 : ∃fd:N4,(∀(s:r0) (v:i3),T7 s fd ⟨[v],[]⟩ [("_law_script",v)])/\∀base:Heap,K.In base->base.Ns Me mg->fj mg base->FnOk l.prog w K mg base CX0 40 fa fd ["_law_script"] (lSp K (phi tab 40 25)):=by
 have e:=hfa.symm.trans (Lj X G a25)
 cases e
 have O:uz K mg tab qW lms:=by
  refine⟨λx hx=>PySem.W.mg_none_of X G (z x hx),?_,Eg,?_,by decide,?_⟩
  ·intro i d hd
   match i,hd with
   |0,hd=>cases hd;exact⟨_,_,ah l0 c0 k0,Lj X G a0,a0,(ah l0 c0 k0).binds λ_ _ _ _ _ _ us hl=>by obtain⟨u0,u1,u2,u3,rfl⟩:=uB us hl;rfl⟩
   |1,hd=>cases hd;exact⟨_,_,ah l1 c1 k1,Lj X G a1,a1,(ah l1 c1 k1).binds λ_ _ _ _ _ _ us hl=>by obtain⟨u0,u1,u2,rfl⟩:=kB us hl;rfl⟩
   |2,hd=>cases hd;exact⟨_,_,ah l2 c2 k2,Lj X G a2,a2,(ah l2 c2 k2).binds λ_ _ _ _ _ _ us hl=>by obtain⟨u0,rfl⟩:=kA us hl;rfl⟩
   |3,hd=>cases hd;exact⟨_,_,ah l3 c3 k3,Lj X G a3,a3,(ah l3 c3 k3).binds λ_ _ _ _ _ _ us hl=>by obtain⟨u0,u1,rfl⟩:=cm us hl;rfl⟩
   |4,hd=>cases hd;exact⟨_,_,ah l4 c4 k4,Lj X G a4,a4,(ah l4 c4 k4).binds λ_ _ _ _ _ _ us hl=>by obtain⟨u0,u1,u2,u3,u4,rfl⟩:=uI us hl;rfl⟩
   |5,hd=>cases hd;exact⟨_,_,ah l5 c5 k5,Lj X G a5,a5,(ah l5 c5 k5).binds λ_ _ _ _ _ _ us hl=>by obtain⟨u0,u1,rfl⟩:=cm us hl;rfl⟩
   |6,hd=>cases hd;exact⟨_,_,ah l6 c6 k6,Lj X G a6,a6,(ah l6 c6 k6).binds λ_ _ _ _ _ _ us hl=>by obtain⟨u0,u1,rfl⟩:=cm us hl;rfl⟩
   |7,hd=>cases hd;exact⟨_,_,ah l7 c7 k7,Lj X G a7,a7,(ah l7 c7 k7).binds λ_ _ _ _ _ _ us hl=>by obtain⟨u0,u1,u2,u3,u4,rfl⟩:=uI us hl;rfl⟩
   |8,hd=>cases hd;exact⟨_,_,ah l8 c8 k8,Lj X G a8,a8,(ah l8 c8 k8).binds λ_ _ _ _ _ _ us hl=>by obtain⟨u0,u1,u2,rfl⟩:=kB us hl;rfl⟩
   |9,hd=>cases hd;exact⟨_,_,ah l9 c9 k9,Lj X G a9,a9,(ah l9 c9 k9).binds λ_ _ _ _ _ _ us hl=>by obtain⟨u0,u1,u2,u3,u4,rfl⟩:=uI us hl;rfl⟩
   |10,hd=>cases hd;exact⟨_,_,ah l10 c10 k10,Lj X G a10,a10,(ah l10 c10 k10).binds λ_ _ _ _ _ _ us hl=>by obtain⟨u0,u1,u2,u3,rfl⟩:=uB us hl;rfl⟩
   |11,hd=>cases hd;exact⟨_,_,ah l11 c11 k11,Lj X G a11,a11,(ah l11 c11 k11).binds λ_ _ _ _ _ _ us hl=>by obtain⟨u0,rfl⟩:=kA us hl;rfl⟩
   |12,hd=>cases hd;exact⟨_,_,ah l12 c12 k12,Lj X G a12,a12,(ah l12 c12 k12).binds λ_ _ _ _ _ _ us hl=>by obtain⟨rfl⟩:=Fd us hl;rfl⟩
   |13,hd=>cases hd;exact⟨_,_,ah l13 c13 k13,Lj X G a13,a13,(ah l13 c13 k13).binds λ_ _ _ _ _ _ us hl=>by obtain⟨u0,u1,rfl⟩:=cm us hl;rfl⟩
   |14,hd=>cases hd;exact⟨_,_,ah l14 c14 k14,Lj X G a14,a14,(ah l14 c14 k14).binds λ_ _ _ _ _ _ us hl=>by obtain⟨u0,u1,rfl⟩:=cm us hl;rfl⟩
   |15,hd=>cases hd;exact⟨_,_,ah l15 c15 k15,Lj X G a15,a15,(ah l15 c15 k15).binds λ_ _ _ _ _ _ us hl=>by obtain⟨u0,u1,rfl⟩:=cm us hl;rfl⟩
   |16,hd=>cases hd;exact⟨_,_,ah l16 c16 k16,Lj X G a16,a16,(ah l16 c16 k16).binds λ_ _ _ _ _ _ us hl=>by obtain⟨u0,u1,rfl⟩:=cm us hl;rfl⟩
   |17,hd=>cases hd;exact⟨_,_,ah l17 c17 k17,Lj X G a17,a17,(ah l17 c17 k17).binds λ_ _ _ _ _ _ us hl=>by obtain⟨u0,rfl⟩:=kA us hl;rfl⟩
   |18,hd=>cases hd;exact⟨_,_,ah l18 c18 k18,Lj X G a18,a18,(ah l18 c18 k18).binds λ_ _ _ _ _ _ us hl=>by obtain⟨u0,u1,rfl⟩:=cm us hl;rfl⟩
   |19,hd=>cases hd;exact⟨_,_,ah l19 c19 k19,Lj X G a19,a19,(ah l19 c19 k19).binds λ_ _ _ _ _ _ us hl=>by obtain⟨u0,u1,rfl⟩:=cm us hl;rfl⟩
   |20,hd=>cases hd;exact⟨_,_,ah l20 c20 k20,Lj X G a20,a20,(ah l20 c20 k20).binds λ_ _ _ _ _ _ us hl=>by obtain⟨u0,u1,rfl⟩:=cm us hl;rfl⟩
   |21,hd=>cases hd;exact⟨_,_,ah l21 c21 k21,Lj X G a21,a21,(ah l21 c21 k21).binds λ_ _ _ _ _ _ us hl=>by obtain⟨u0,u1,u2,rfl⟩:=kB us hl;rfl⟩
   |22,hd=>cases hd;exact⟨_,_,ah l22 c22 k22,Lj X G a22,a22,(ah l22 c22 k22).binds λ_ _ _ _ _ _ us hl=>by obtain⟨u0,u1,rfl⟩:=cm us hl;rfl⟩
   |23,hd=>cases hd;exact⟨_,_,ah l23 c23 k23,Lj X G a23,a23,(ah l23 c23 k23).binds λ_ _ _ _ _ _ us hl=>by obtain⟨u0,u1,rfl⟩:=cm us hl;rfl⟩
   |24,hd=>cases hd;exact⟨_,_,ah l24 c24 k24,Lj X G a24,a24,(ah l24 c24 k24).binds λ_ _ _ _ _ _ us hl=>by obtain⟨u0,u1,u2,rfl⟩:=kB us hl;rfl⟩
   |25,hd=>cases hd;exact⟨_,_,ah l25 c25 k25,Lj X G a25,a25,(ah l25 c25 k25).binds λ_ _ _ _ _ _ us hl=>by obtain⟨u0,rfl⟩:=kA us hl;rfl⟩
   |i+26,hd=>simp[tab]at hd
  ·intro x i hx;simp only[qW,KH,Lw,or_false,Prod.mk.injEq]at hx
   rcases hx with⟨rfl,rfl⟩
   ·exact⟨_,Lj X G gcst0,(GV.tups gu0 (by simp) rfl (GVs.cons (GV.tups gu1 (by simp) rfl (GVs.cons (GV.tups gu2 (by simp) rfl (GVs.cons GV.ints (GVs.cons GV.ints (GVs.cons GV.ints (GVs.cons GV.ints GVs.nil))))) (GVs.cons (GV.tups gu7 (by simp) rfl (GVs.cons GV.ints (GVs.cons GV.ints (GVs.cons GV.ints (GVs.cons GV.ints GVs.nil))))) (GVs.cons (GV.tups gu12 (by simp) rfl (GVs.cons GV.ints (GVs.cons GV.ints (GVs.cons GV.ints (GVs.cons GV.ints GVs.nil))))) GVs.nil)))) (GVs.cons (GV.tups gu17 (by simp) rfl (GVs.cons (GV.tups gu18 (by simp) rfl (GVs.cons GV.ints (GVs.cons GV.ints (GVs.cons GV.ints (GVs.cons GV.ints GVs.nil))))) (GVs.cons (GV.tups gu23 (by simp) rfl (GVs.cons GV.ints (GVs.cons GV.ints (GVs.cons GV.ints (GVs.cons GV.ints GVs.nil))))) (GVs.cons (GV.tups gu28 (by simp) rfl (GVs.cons GV.ints (GVs.cons GV.ints (GVs.cons GV.ints (GVs.cons GV.ints GVs.nil))))) GVs.nil)))) (GVs.cons (GV.tups gu33 (by simp) rfl (GVs.cons (GV.tups gu34 (by simp) rfl (GVs.cons GV.ints (GVs.cons GV.ints (GVs.cons GV.ints (GVs.cons GV.ints GVs.nil))))) (GVs.cons (GV.tups gu39 (by simp) rfl (GVs.cons GV.ints (GVs.cons GV.ints (GVs.cons GV.ints (GVs.cons GV.ints GVs.nil))))) (GVs.cons (GV.tups gu44 (by simp) rfl (GVs.cons GV.ints (GVs.cons GV.ints (GVs.cons GV.ints (GVs.cons GV.ints GVs.nil))))) GVs.nil)))) (GVs.cons (GV.tups gu49 (by simp) rfl (GVs.cons (GV.tups gu50 (by simp) rfl (GVs.cons GV.ints (GVs.cons GV.ints (GVs.cons GV.ints (GVs.cons GV.ints GVs.nil))))) (GVs.cons (GV.tups gu55 (by simp) rfl (GVs.cons GV.ints (GVs.cons GV.ints (GVs.cons GV.ints (GVs.cons GV.ints GVs.nil))))) (GVs.cons (GV.tups gu60 (by simp) rfl (GVs.cons GV.ints (GVs.cons GV.ints (GVs.cons GV.ints (GVs.cons GV.ints GVs.nil))))) GVs.nil)))) (GVs.cons (GV.tups gu65 (by simp) rfl (GVs.cons (GV.tups gu66 (by simp) rfl (GVs.cons GV.ints (GVs.cons GV.ints (GVs.cons GV.ints (GVs.cons GV.ints GVs.nil))))) (GVs.cons (GV.tups gu71 (by simp) rfl (GVs.cons GV.ints (GVs.cons GV.ints (GVs.cons GV.ints (GVs.cons GV.ints GVs.nil))))) (GVs.cons (GV.tups gu76 (by simp) rfl (GVs.cons GV.ints (GVs.cons GV.ints (GVs.cons GV.ints (GVs.cons GV.ints GVs.nil))))) GVs.nil)))) (GVs.cons (GV.tups gu81 (by simp) rfl (GVs.cons (GV.tups gu82 (by simp) rfl (GVs.cons GV.ints (GVs.cons GV.ints (GVs.cons GV.ints (GVs.cons GV.ints GVs.nil))))) (GVs.cons (GV.tups gu87 (by simp) rfl (GVs.cons GV.ints (GVs.cons GV.ints (GVs.cons GV.ints (GVs.cons GV.ints GVs.nil))))) (GVs.cons (GV.tups gu92 (by simp) rfl (GVs.cons GV.ints (GVs.cons GV.ints (GVs.cons GV.ints (GVs.cons GV.ints GVs.nil))))) GVs.nil)))) (GVs.cons (GV.tups gu97 (by simp) rfl (GVs.cons (GV.tups gu98 (by simp) rfl (GVs.cons GV.ints (GVs.cons GV.ints (GVs.cons GV.ints (GVs.cons GV.ints GVs.nil))))) (GVs.cons (GV.tups gu103 (by simp) rfl (GVs.cons GV.ints (GVs.cons GV.ints (GVs.cons GV.ints (GVs.cons GV.ints GVs.nil))))) (GVs.cons (GV.tups gu108 (by simp) rfl (GVs.cons GV.ints (GVs.cons GV.ints (GVs.cons GV.ints (GVs.cons GV.ints GVs.nil))))) GVs.nil)))) GVs.nil))))))))⟩
  ·intro i d T0 hd hl f hm;have hi:=DU (Ls:=[9]) (by decide +kernel) hd hl
   simp only[KH,Lw,or_false]at hi
   rcases hi with rfl
   ·cases hd;cases hm.symm.trans (Lj X G a9);obtain rfl:67=T0:=by(have z9:lms.lookup d9.name=Z 67:=by decide +kernel);rw[z9]at hl;cases hl;rfl
    exact⟨_,⟨_,_,_,_,_,_,_,_,_,rfl,l9,c9,hd9⟩⟩
 refine⟨Nr "law" "law" (cV (ai 32)) (bv (ai 32)) (al (ai 32)) .none kV25 dc25 pm25 an25 cd25 ct25,λs v=>.of_eq rfl,λbase hI _ hB=>?_⟩;exact(DT O hI hB 40).fn 25 d25 _ _ rfl (ah l25 c25 k25) (Lj X G a25)
noncomputable def lmT:List (VQ×VQ):=[(69,67)]
theorem walk {l:Su}{q:Lb}{loose:List Str}{XP:(Str->Option i3)->Heap->Prop}{YP:Ly->Heap->Prop}{d:DefRec}{K:Params->Frag}(hn:l.most=Z 63)(hdf:d.params.defaults=[])(hlaw:∀ns:List Int,ns.length<=63->phi tab 40 25 [.con (ns.map D.int)] (eI lmM) fun d _=>d=.bl N3)(hY:∀(w:Ly) (h:Heap),YP w h->(K w.params).In h/\∀p∈lmT.map (·.2),h.get? p=Z (PySem.W.tabObj #[]))(hts:∀(w:Ly),∀q∈lmT,MN (K w.params) q.1 q.2=N3/\(K w.params).lookup q.2=Y)(F:∀(w:Ly) (mg:Str->Option i3) (fa:VQ) (h:Heap),(K w.params).In h->h.Ns Me mg->mg d.name=Z (.ref fa)->
   ∃fd:N4,(∀(s:r0) (u:i3),T7 s fd ⟨[u],[]⟩ [("_law_script",u)])/\∀base:Heap,(K w.params).In base->base.Ns Me mg->fj mg base->FnOk l.prog w (K w.params) mg base CX0 40 fa fd ["_law_script"] (lSp (K w.params) (phi tab 40 25))):
 PySem.W.WalkO q loose XP YP l.row.toRowW d [] (λf vs=>V9 f vs):=
 L2.walk_ofT (n:=63) (k:=40) (x:="_law_script") (ts:=lmT) (sp:=λw=>lSp (K w.params) (phi tab 40 25)) hn (by decide) hdf ⟨rfl,by decide,by decide⟩ hY hts F (λw H a ns hl hO hS=>By lmM (by decide) hO hS (hlaw ns hl))
end K49
end
section
namespace K49
open L2.Srt
variable{n:Nat}
theorem sX(j:1<=n):uD tab n 14:=wH (x:="_law_number_here") (s:=ai 21) rfl j
theorem di(j:2<=n):kD tab n 16:=λz h1 h2 q=>BE (s:=ai 23) (fm:=14) rfl (sX ∅) j z h1 h2 q
theorem uJ(z:3<=n):qt tab n 17:=λj q=>wD (s:=ai 24) (ft:=16) rfl (di ∅) ∅ j q
theorem zL(B:4<=n):wG tab n 18:=λj z q=>BG (s:=ai 25) (fn:=17) rfl (uJ ∅) ∅ j z q
theorem Cf(j:3<=n):Ah tab n 19:=E1 (s:=ai 26) (ft:=16) rfl (di ∅) ∅
variable{b:VQ}{M:Mem}{Q:QD}
theorem zM{k:Nat}(j:6<=k)(z:n=2∨n=3)(B:Box b M)(q:∀ps p M',TS n 29 ps->Bx b M M'->M p=Y->M' p=Z (.lst (ps.map prD))->Q (.tup [.int (n*n:Nat),.int (n*n:Nat),.int (n*n:Nat),.ref p]) M'):phi tab k 20 [.ref b,.int n] M Q:=C3 (s:=ai 27) (fpl:=11) (ftt:=1) (fta:=16) (fse:=12) (fpa:=18) (ft:=0) (f1:=3) (s1:=ai 17) (s2:=ai 5) (s3:=ai 2) (s4:=ai 1) (s5:=ai 18) rfl rfl rfl rfl rfl rfl j (di ∅) (zL ∅) z B q
theorem il{k:Nat}(z:1<=k){many sz:Nat}(hm:many<=1000)(j:2<=n/\n<=1000)(h1:1<=sz)(h2:sz<=16)(q:Q (.int (tms many n 4 sz:Nat)) M):phi tab k 21 [.int many,.int n,.int sz] M Q:=xr (s:=ai 28) (d:=4) rfl z hm j.1 j.2 h1 h2 q
variable{R:Bks}
theorem xu{k:Nat}(j:2<=k){pt pd:VQ}{Du:Bks}{sz:Nat}{tm:Int}(z:RwAt M pt R sz)(B:RwAt M pd Du sz)(e:R.map (·.2)=Du.map (·.2))(nd:(R.map (·.1)).Nodup)(F:R.length=sz)(G:sz<=100)(nt:pt∉R.map (·.1))(nd':pd∉R.map (·.1))(q:∀M',(∀a o,a∉R.map (·.1)->M a=Z o->M' a=Z o)->Q (.bl N3) M'):phi tab k 24 [.tup [.ref pt,.int tm],.ref pd,.int tm] M Q:=zK (s:=ai 31) (ss:=ai 30) (fs:=23) rfl rfl j z B e nd F G nt nd' q
variable{p2:VQ}
theorem zN{k:Nat}(B:1<=k){j R2:Bks}{z:VQ}{sz:Nat}(h1:RwAt M z j sz)(h2:RwAt M p2 R2 sz)(l1:j.length=sz)(l2:R2.length=sz)(F:sz<=20)(ba:∀r∈j,∀x∈r.2,-(2^64)<x/\x<2^64)(q:∀p R' M',Ge M M'->M p=Y->RwAt M' p R' sz->R'.map (·.2)=j.map (λr=>gJ sz r.2 (R2.map (·.2)))->Q (.ref p) M'):phi tab k 22 [.ref z,.ref p2] M Q:=zJ (s:=ai 29) rfl B h1 h2 l1 l2 F ba q
theorem An{V:Nat}:∀{R:Bks},(∀r∈R,r.2.length=V)->(R.map (·.2)).flatten.length=R.length*V
 |[],_=>by simp
 |r::R,h=>by rw[KY,LI,D1,An λu j=>h u (L9 _ j),h r Ln,LF,Oc];lia
variable{p:VQ}
theorem xv{sz:Nat}(h:RwAt M p R sz)(l:R.length=sz):(R.map (·.2)).flatten.length=sz*sz:=by rw[An λr j=>(h.row r j).2,l]
theorem Eh{k:Nat}(hk:20<=k){sz:Nat}(J:2<=n/\n<=10)(h1:1<=sz)(h2:sz<=16){ps:List Pr}(z:TS n 29 ps){j R2:Bks}{B pp:VQ}{L a1 a2:D}(O:M 67=Z (.tab ⟨46,145,46,191⟩ (Ll "side_times.<locals>.<lambda>")))(ep:M pp=Z (.lst (ps.map prD)))(F:RwAt M B j sz)(G:RwAt M p2 R2 sz)(l1:j.length=sz)(l2:R2.length=sz)(U:∀r∈j,Big r.2)(F2:∀r∈R2,Big r.2)(q:∀p R' M',Ge M M'->M p=Y->(∀r∈R',M r.1=Y/\r.1≠p)->(R'.map (·.1)).Nodup->RwAt M' p R' sz->R'.map (·.2)=(KA sz).map (λa=>fB (mm sz (j.map (·.2)).flatten (R2.map (·.2)).flatten) sz a)->Q (.tup [.ref p,.int (tms ps.length n 4 sz:Nat)]) M'):
 phi tab k 10 [.tup [L,a1,a2,.ref pp],.int n,.ref B,.ref p2] M Q:=by
 refine xq (s:=ai 14) (fsl:=9) rfl ∅ F G l1 l2 ∅ (λ{pA pB M1 Q1} g eA eB q1=>?_) q
 have lim:∀{R:Bks},(∀r∈R,Big r.2)->Lim 41 (R.map (·.2)).flatten:=λ{R} hb x hx=>by obtain⟨l,fv,hx⟩:=List.mem_flatten.mp hx;obtain⟨r,hr,rfl⟩:=KP.mp fv;have:=hb r hr x hx;have e:(2:Nat)^41=2199023255552:=rfl;lia
 refine Cb (f:=9) (fbl:=5) (ftp:=4) (fr:=8) (fby:=7) (fs:=6) (ff:=2) (sbl:=ai 9) (stp:=ai 7) (sr:=ai 12) (sby:=ai 11) (ss:=ai 10) (sf:=ai 4) (s:=ai 13) (P:=67) rfl rfl rfl rfl rfl rfl rfl (by decide) (by decide) J (by have:=z.len;lia) z.tn z.pr (d:=4) (m:=41) h1 h2 ∅ ∅ (by decide) (xv F l1) (xv G l2) (lim U) (lim F2) (g _ _ O) (g _ _ ep) eA eB λp M' g' n' e'=>q1 p M' g' n' e'
structure Dw(b:VQ)(sz:Nat)(M:Mem)(p:VQ)(R:Bks)(M':Mem):Prop where
 at':RwAt M' p R sz
 len:R.length=sz
 big:∀r∈R,Big r.2
 nb:p≠b/\∀r∈R,r.1≠b
theorem kL(j:Box b M)(h:M p=Y):p≠b:=λz=>by obtain⟨_,_,_,e⟩:=j;rw[<-z,h]at e;cases e
theorem Fz{W:Nat}{M':Mem}(h:RwAt M p R W)(x:Bx b M M')(j:p≠b)(z:∀r∈R,r.1≠b):RwAt M' p R W:=⟨x.keep _ _ j h.at',λr h'=>⟨x.keep _ _ (z r h') (h.row r h').1,(h.row r h').2⟩⟩
theorem xw{k:Nat}(hk:3<=k){ρ:aq}{sz:Nat}{x1 x2 x3:Str}(e2:ρ[2]?=Z (Z (.ref b)))(fv:ρ[5]?=Z (Z (.int sz)))(hz:sz<=20)(hb:Box b M)(q:∀p R M',Bx b M M'->Dw b sz M p R M'->Q (.ref p) M'):
 wE (phi tab k) (.comp [Y,(Z 2),(Z 5)] [x1,x2,x3] (.last (.rng1 (.var 5)) (.name 0) .nil (.call 19 (.cons (.var 1) (.cons (.var 2) .nil))))) ρ M Q:=by
 ac_nf;refine⟨_,fv,_,rfl,∅,∅,?_⟩
 rw[e2,fv,KO];simp only[Pg];refine am (f:=λi:Nat=>.int (i:Nat)) (ys:=KA sz) (I:=λl ρ M' acc=>(∃o0,ρ=[o0,Z (.ref b),Z (.int sz)])/\Bx b M M'/\∃R:Bks,acc=R.map (λr=>.ref r.1)/\R.length=l.length/\∀r∈R,M' r.1=Z (.lst (r.2.map .int))/\r.2.length=sz/\Big r.2/\r.1≠b) aF ⟨⟨_,rfl⟩,Bx.refl hb,[],rfl,rfl,by simp⟩ (λ_ _ _ _ _=>trivial) ?_ ?_
 ·rintro l i rr ρ' M1 acc e ⟨⟨o0,rfl⟩,y1,R,rfl,F,z⟩;refine⟨_,rfl,λN' G=>?_⟩;have J:=ax e;rw[LO]at J;ac_nf;refine Cf hk ∅ y1.box λns p M2 L B y2 n2 O=>?_
  have U:=kL y1.box n2;refine⟨by rw[q7,D0];lia,G _ _ _ ⟨⟨_,rfl⟩,y1.trans y2,R++[(p,ns)],by simp,by simp[F],λr j=>?_⟩⟩
  rcases KQ.mp j with h|h
  ·obtain⟨u1,u2,u3,u4⟩:=z r h;exact⟨y2.keep _ _ u4 u1,u2,u3,u4⟩
  ·rw[Mk]at h;subst h;exact⟨O,L,B,U⟩
 ·rintro ρ' M1 acc ⟨_,y1,R,rfl,F,z⟩ p F2;rw[LO]at F;exact q p R _ (y1.ge (.new F2)) ⟨⟨ab,λr j=>⟨Ge.new F2 _ _ (z r j).1,(z r j).2.1⟩⟩,F,λr j=>(z r j).2.2.1,kL y1.box F2,λr j=>(z r j).2.2.2⟩
theorem Ei{Φ:Phi}{ρ:aq}{G:VQ}{B R2:Bks}{sz:Nat}{x y:Str}(e6:ρ[6]?=Z (Z (.ref G)))(e7:ρ[7]?=Z (Z (.ref p2)))(h1:RwAt M G B sz)(h2:RwAt M p2 R2 sz)(l1:B.length<=100)(l2:R2.length<=100)(hz:sz<=100)(q:∀p t1 t2 C1 C2 M',Ge M M'->M' p=Z (.lst [.ref t1,.ref t2])->RwAt M' t1 C1 sz->RwAt M' t2 C2 sz->C1.map (·.2)=B.map (·.2)->C2.map (·.2)=R2.map (·.2)->Q (.ref p) M'):
 wE Φ (.comp [Y] [x] (.last (.seq (.tup (.cons (.var 6) (.cons (.var 7) .nil)))) (.name 0) .nil (.comp [Y] [y] (.last (.seq (.var 0)) (.name 0) .nil (.blt .list (.cons (.var 0) .nil)))))) ρ M Q:=by
 ac_nf;refine⟨_,e6,_,e7,by rw[D0];decide,?_⟩
 refine am (f:=λc:VQ×Bks=>.ref c.1) (ys:=[(G,B),(p2,R2)]) (I:=λl ρ M' acc=>(∃o0,ρ=[o0])/\Ge M M'/\∃C:List (VQ×Bks),acc=C.map (λc=>.ref c.1)/\C.map (λc=>c.2.map (·.2))=l.map (λc=>c.2.map (·.2))/\∀c∈C,RwAt M' c.1 c.2 sz) rfl ⟨⟨_,rfl⟩,.refl,[],rfl,rfl,by simp⟩ (λ_ _ _ _ _=>trivial) ?_ ?_
 ·rintro l c r ρ M1 acc e ⟨⟨o0,rfl⟩,g,C,rfl,eC,J⟩;refine⟨_,rfl,fun N' L=>?_⟩;have hc:RwAt M c.1 c.2 sz/\c.2.length<=100:=by
   have:c∈[(G,B),(p2,R2)]:=by rw[e];simp
   simp only[KH,Lw,or_false]at this
   rcases this with rfl|rfl
   ·exact⟨h1,l1⟩
   ·exact⟨h2,l2⟩
  have Iq:C.length<=2:=by have:=congrArg LP eC;have h3:=ax e;simp at this h3;lia
  have z:=hc.1.ge g;ac_nf;refine⟨_,af z.at',?_⟩;refine am (f:=λr:VQ×List Int=>.ref r.1) (ys:=c.2) (I:=λl2 ρ M2 acc=>(∃o0,ρ=[o0])/\Ge M1 M2/\∃R:Bks,acc=R.map (λr=>.ref r.1)/\R.map (·.2)=l2.map (·.2)/\∀r∈R,M2 r.1=Z (.lst (r.2.map .int))/\r.2.length=sz) rfl ⟨⟨_,rfl⟩,.refl,[],rfl,rfl,by simp⟩ (λ_ _ _ _ h=>af (h.2.1 _ _ z.at')) ?_ ?_
  ·rintro l2 u r2 ρ M2 acc e2 ⟨⟨o0,rfl⟩,g2,R,rfl,eR,F⟩;refine⟨_,rfl,λN2 O=>?_⟩;have Ir:=ax e2;have U:=congrArg LP eR;rw[q7,q7]at U;obtain⟨m1,m2⟩:=z.row u (by rw[e2];simp)
   ac_nf;refine⟨_,_,rfl,af (g2 _ _ m1),λp j=>?_⟩;refine⟨by rw[q7,D0];lia,O _ _ _ ⟨⟨_,rfl⟩,g2.trans (.new j),R++[(p,u.2)],by simp,by simp[eR],λv F2=>?_⟩⟩
   rcases KQ.mp F2 with h|h
   ·exact⟨Ge.new j _ _ (F v h).1,(F v h).2⟩
   ·rw[Mk]at h;subst h;exact⟨ab,m2⟩
  ·rintro ρ M2 acc ⟨_,g2,R,rfl,eR,F⟩ p j;have g3:=g2.trans (.new (o:=.lst (R.map λr=>.ref r.1)) j);refine⟨by rw[q7,D0];lia,L _ _ _ ⟨⟨_,rfl⟩,g.trans g3,C++[(p,R)],by simp,by simp[eC,eR],λv F2=>?_⟩⟩
   rcases KQ.mp F2 with h|h
   ·exact(J v h).ge g3
   ·rw[Mk]at h;subst h;exact⟨ab,λr hr=>⟨Ge.new j _ _ (F r hr).1,(F r hr).2⟩⟩
 ·rintro ρ M1 acc ⟨_,g,C,rfl,eC,J⟩ p j;have g1:=g.trans (.new (o:=.lst (C.map λc=>.ref c.1)) j);have hl:C.length=2:=by have:=congrArg LP eC;simpa using this
  obtain⟨fv,c2,rfl⟩:∃a b,C=[a,b]:=by
   match C,hl with
   |[a,b],_=>exact⟨a,b,rfl⟩
  simp only[KY,Od,OT,and_true]at eC;exact q p fv.1 c2.1 fv.2 c2.2 _ g1 ab ((J fv (by simp)).ge (.new j)) ((J c2 (by simp)).ge (.new j)) eC.1 eC.2
theorem Ej{k:Nat}(L:1<=k){E:bV}{o0 O U F2 fv o8 o9 j B F:Option D}{ps:List Pr}{a0 a1 a2:D}{pp:VQ}(ep:M pp=Z (.lst (ps.map prD)))(G:ps.length<=1000)(hn:2<=n/\n<=1000)(q:∀sz:Nat,1<=sz->sz<=16->E.nx [o0,O,U,Z (.int n),Z (.tup [a0,a1,a2,.ref pp]),Z (.int sz),F2,fv,o8,o9,j,B,F] M):∀d s:Nat,1<=s->s<=2^d->d<=4->
 aS (gR (wOp wGt (wAr (phi tab k 21) (aE (wAr fw (aE (wOp wIx (fu 4) (wC (.int 3))) br)) (aE (fu 3) (aE (fu 5) br)))) (wC (.int 600)))) (wSs (phi tab k) (.cons (.asg (.name 5) (.bin .fdiv (.var 5) (.int 2))) .nil)) E (d+1) [o0,O,U,Z (.int n),Z (.tup [a0,a1,a2,.ref pp]),Z (.int s),F2,fv,o8,o9,j,B,F] M:=by
 intro d
 induction d with
 |zero=>
  intro s h1 h2 h3;obtain rfl:s=1:=by simp at h2;lia
  rw[aS];ac_nf;refine⟨_,rfl,b7 ep ?_⟩;rw[q7];refine il L G hn ∅ ∅ ?_
  ac_nf;rw[if_neg (by rw[show tms ps.length n 4 1=1 from rfl];simp)]
  exact q 1 ∅ ∅
 |succ d ih=>
  intro s h1 h2 h3;have J:s<=16:=Mu h2 (Mu (Nat.pow_le_pow_right (by decide) h3) (by decide))
  rw[aS];ac_nf;refine⟨_,rfl,b7 ep ?_⟩;rw[q7];refine il L G hn h1 J ?_;ac_nf
  by_cases h:(600:Int)<(tms ps.length n 4 s:Nat)
  ·rw[if_pos (by simpa using h)]
   have Iq:2<=s:=by
    rcases Nat.lt_or_ge s 2 with z|z
    ·obtain rfl:s=1:=by lia
     rw[show tms ps.length n 4 1=1 from rfl]at h;exact absurd h (by decide)
    ·exact z
   nofun;refine⟨by decide,by decide,?_⟩
   rw[show(s:Int) / 2=((s / 2:Nat):Int) by simp]
   exact ih (s / 2) ∅ (by rw[Nat.pow_succ]at h2;lia) ∅
  ·rw[if_neg (by simpa using h)]
   exact q s h1 J
theorem xx{C:Bks}(e:C.map (·.2)=R.map (·.2))(b:∀r∈R,Big r.2):∀r∈C,Big r.2:=λr j=>by
 have h:r.2∈R.map (·.2):=by rw[<-e];exact L6 j
 obtain⟨u,z,B⟩:=KP.mp h;rw[<-B];exact b u z
theorem law_holds(ns:List Int)(hl:ns.length<=63):phi tab 40 25 [.con (ns.map D.int)] (eI lmM) λd _=>d=.bl N3:=by
 refine aA ∅ rfl rfl (ρ:=[Z _,Y,Y,Y,Y,Y,Y,Y,Y,Y,Y,Y,Y]) rfl ?_
 unfold d25 L2.Mi.K49.b25;nofun;rw[q7];refine⟨by split<;>lia,by split<;>lia,?_⟩
 have IH:eI lmM 67=Z (.tab ⟨46,145,46,191⟩ (Ll "side_times.<locals>.<lambda>")):=rfl;refine bJ (I:=λl ρ M'=>(∃o1 o2 o3 o4 o5 o6 o7 o8 o9 L G J,ρ=[Z (.con (ns.map D.int)),o1,o2,o3,o4,o5,o6,o7,o8,o9,L,G,J])/\M' 67=Z (.tab ⟨46,145,46,191⟩ (Ll "side_times.<locals>.<lambda>"))) aF ⟨⟨_,_,_,_,_,_,_,_,_,_,_,_,rfl⟩,IH⟩ (λ_ _ _ hI=>trivial) ?_ ?_
 ·rintro l k r ρ M0 e ⟨⟨o1,o2,o3,o4,o5,o6,o7,o8,o9,L,G,J,rfl⟩,B⟩;refine⟨_,rfl,λF hF=>?_⟩;nofun;refine DZ (s:=ai 22) (fc:=13) (fm:=14) (sc:=ai 20) rfl rfl (sX ∅) ∅ ∅ λb x y Iy=>?_
  have O:(67:VQ)≠b:=λz=>by rw[z,Iy]at B;cases B
  have B:=(Ge.new (o:=.lst [.int x,.int y,.int 0]) Iy) _ _ B;have hb:Box b (ag M0 b (.lst [.int x,.int y,.int 0])):=⟨_,_,_,ab⟩;generalize ag M0 b (.lst [.int x,.int y,.int 0])=M1 at B hb⊢;nofun;refine di ∅ hb (by decide) (by decide) λv M2 v0 v1 x2=>?_
  have B:=x2.keep _ _ O B;obtain⟨n,hn,en⟩:∃n:Nat,(n=2∨n=3)/\(2:Int)+v=n:=⟨(2+v).toNat,∅,∅⟩
  ac_nf;rw[en];nofun;refine zM ∅ hn x2.box λps pp M3 hS x3 n3 e3=>?_
  have B:=x3.keep _ _ O B;have Is:=kL x2.box n3;have IO:=hS.len;have IP:2<=n/\n<=3:=∅
  have II:=x3.box;clear x2 x3 hb n3;refine de (λρ M'=>∃sz:Nat,ρ=[Z (.con (ns.map D.int)),Z (.int (k:Nat)),Z (.ref b),Z (.int n),Z (.tup [.int (n*n:Nat),.int (n*n:Nat),.int (n*n:Nat),.ref pp]),Z (.int sz),o6,o7,o8,o9,L,G,J]/\1<=sz/\sz<=16/\Bx b M3 M') (λR hR=>?_) ?_
  ·have key:∀(z:Int) (M':Mem),1<=z->z<=16->Bx b M3 M'->R [Z (.con (ns.map D.int)),Z (.int (k:Nat)),Z (.ref b),Z (.int n),Z (.tup [.int (n*n:Nat),.int (n*n:Nat),.int (n*n:Nat),.ref pp]),Z (.int z),o6,o7,o8,o9,L,G,J] M':=fun z M' h1 h2 x=>by
    obtain⟨m,rfl⟩:=NA (show 0<=z by lia)
    exact hR _ _ ⟨m,rfl,∅,∅,x⟩
   ac_nf;refine di ∅ II (by decide) (by decide) λu Ma u0 u1 xa=>?_
   ac_nf;refine⟨by rw[D0];decide,λp hp=>?_⟩
   have Iz:=kL xa.box hp;have xa':=xa.ge (.new (o:=.lst [.int (1+u),.int n,.int (n+1),.int 1]) hp);have ea:=ab (M:=Ma) (a:=p) (o:=.lst [.int (1+u),.int n,.int (n+1),.int 1]);generalize ag Ma p (.lst [.int (1+u),.int n,.int (n+1),.int 1])=Mb at xa' ea⊢;refine di ∅ xa'.box (by decide) (by decide) λw Mc w0 w1 xc=>?_
   have ec:=xc.keep _ _ Iz ea;have xc:=xa'.trans xc;ac_nf;refine⟨by decide,by decide,?_⟩
   have hj:(if w / 2<3 then w / 2 else 3)=0∨(if w / 2<3 then w / 2 else 3)=1∨(if w / 2<3 then w / 2 else 3)=2∨(if w / 2<3 then w / 2 else 3)=3:=by split<;>lia
   generalize (if w / 2<3 then w / 2 else 3)=j at hj⊢
   rcases hj with rfl|rfl|rfl|rfl
   ·exact aJ ec (d:=.int (1+u)) rfl (key _ _ ∅ ∅ xc)
   ·exact aJ ec (d:=.int n) rfl (key _ _ ∅ ∅ xc)
   ·exact aJ ec (d:=.int (n+1)) rfl (key _ _ ∅ ∅ xc)
   ·exact aJ ec (d:=.int 1) rfl (key _ _ ∅ ∅ xc)
  rintro ρ M4 ⟨sz,rfl,U,F2,x4⟩;have e4:=x4.keep _ _ Is e3;have B:=x4.keep _ _ O B;have IA:=x4.box;clear x4;refine de (λρ M'=>∃sz:Nat,ρ=[Z (.con (ns.map D.int)),Z (.int (k:Nat)),Z (.ref b),Z (.int n),Z (.tup [.int (n*n:Nat),.int (n*n:Nat),.int (n*n:Nat),.ref pp]),Z (.int sz),o6,o7,o8,o9,L,G,J]/\1<=sz/\sz<=16/\M'=M4) (λR hR=>?_) ?_
  ·ac_nf;exact⟨_,Ej ∅ e4 ∅ ∅ (λs h1 h2=>hR _ _ ⟨s,rfl,h1,h2,rfl⟩) 4 sz U F2 ∅⟩
  clear U F2 sz;rintro ρ M5 ⟨sz,rfl,U,F2,rfl⟩;refine iT (xw ∅ rfl rfl ∅ IA λp1 R1 M6 x6 d1=>⟨_,rfl,?_⟩)
  refine iT (xw ∅ rfl rfl ∅ x6.box λp2 R2 M7 x7 d2=>⟨_,rfl,?_⟩)
  have B:=x7.keep _ _ O (x6.keep _ _ O B);have e7:=x7.keep _ _ Is (x6.keep _ _ Is e4);have fv:=Fz d1.at' x7 d1.nb.1 d1.nb.2;have r2:=d2.at';obtain⟨_,l1,b1,_⟩:=d1;obtain⟨_,l2,b2,_⟩:=d2;clear x6 x7 e4 IA;refine iT (Ei rfl rfl fv r2 ∅ ∅ ∅ λpc t1 t2 C1 C2 M8 g8 e8 c1 c2 Iq Ir=>⟨_,rfl,?_⟩)
  have B:=g8 _ _ B;have Iu:=g8 _ _ e7;have fv:=fv.ge g8;have r2:=r2.ge g8;clear g8 e7;nofun;refine C4 ⟨_,rfl,_,_,rfl,af Iu,λph IB=>⟨by rw[D0];decide,.inr trivial,by rw[D0];simp,?_⟩⟩
  have gh:=Ge.new (o:=.lst (ps.map prD)) IB;refine aJ (gh _ _ e8) (d:=.ref t1) rfl ?_;refine aJ (gh _ _ e8) (d:=.ref t2) rfl ?_;refine⟨by rw[D0];decide,?_⟩
  have B:=gh _ _ B;have Iv:=gh _ _ Iu;have Iw:=ab (M:=M8) (a:=ph) (o:=.lst (ps.map prD));have fv:=fv.ge gh;have r2:=r2.ge gh;have c1:=c1.ge gh;have c2:=c2.ge gh;generalize ag M8 ph (.lst (ps.map prD))=M9 at B Iv Iw fv r2 c1 c2⊢;clear gh IB e8 Iu;have IJ:C1.length=sz:=by have:=congrArg LP Iq;rw[q7,q7]at this;lia
  have IK:C2.length=sz:=by have:=congrArg LP Ir;rw[q7,q7]at this;lia
  nofun;refine⟨_,rfl,b7 Iv ?_⟩;rw[q7];refine il ∅ ∅ ∅ U F2 ?_
  nofun;refine⟨by decide,by decide,?_⟩
  refine bJ (f:=λi:Nat=>.int (i:Nat)) (ys:=KA (Int.toNat 2)) (I:=λl ρ M'=>∃G J,ρ=[Z (.con (ns.map D.int)),Z (.int (k:Nat)),Z (.ref b),Z (.int n),Z (.tup [.int (n*n:Nat),.int (n*n:Nat),.int (n*n:Nat),.ref pp]),Z (.int sz),Z (.ref p1),Z (.ref p2),Z (.ref pc),Z (.tup [.tup [.int (n*n:Nat),.int (n*n:Nat),.int (n*n:Nat),.ref ph],.ref t1,.ref t2]),Z (.int (tms ps.length n 4 sz:Nat)),G,J]/\Ge M9 M') aF ⟨_,_,rfl,.refl⟩ (λ_ _ _ _=>trivial) ?_ ?_
  ·rintro lq i2 rq ρ M' eq ⟨IC,ID,rfl,g9⟩;refine⟨_,rfl,λFnx IE=>?_⟩;nofun;refine⟨_,rfl,_,rfl,_,rfl,?_⟩;have fv:=fv.ge g9;have r2:=r2.ge g9;have c1:=c1.ge g9;have c2:=c2.ge g9;refine Eh ∅ ∅ U F2 hS (g9 _ _ B) (g9 _ _ Iw) c1 c2 IJ IK (xx Iq b1) (xx Ir b2) λpt R M2 g2 nt IF nd IG eR=>?_
   nofun;refine zN ∅ (fv.ge g2) (r2.ge g2) l1 l2 ∅ (λr hr x hx=>by have:=b1 r hr x hx;lia) λpd E M3 g3 n3 hE eE=>?_
   have IM:R.length=sz:=by have:=congrArg LP eR;simpa using this
   refine xu ∅ (IG.ge g3) hE ?_ nd IM ∅ (λz=>by obtain⟨r,hr,e⟩:=KP.mp z;exact(IF r hr).2 e) (λz=>by obtain⟨r,hr,e⟩:=KP.mp z;have:=(IG.row r hr).1;rw[e,n3]at this;cases this) λM4 IN=>?_
   ·rw[eR,eE,Iq,Ir];exact Ce l1 l2 (λr hr=>(fv.row r hr).2) (λr hr=>(r2.row r hr).2)
   have g4:Ge M' M4:=λa o ha=>IN a o (λz=>by obtain⟨r,hr,e⟩:=KP.mp z;rw[<-e,(IF r hr).1]at ha;cases ha) (g3 _ _ (g2 _ _ ha))
   have Ix:=g9.trans g4;refine⟨N3,rfl,?_⟩;rw[if_neg (by decide)]
   refine⟨by rw[D0];decide,Fy (Ix _ _ Iw) (Ix _ _ Iv) (c1.ge g4) (c2.ge g4) (fv.ge g4) (r2.ge g4) Iq Ir ⟨_,rfl,?_⟩⟩
   rw[if_neg (by decide)]
   exact IE _ _ ⟨_,_,rfl,Ix⟩
  ·rintro ρ M' ⟨IC,ID,rfl,g9⟩;dsimp only;rw[Bz];exact hF _ _ ⟨⟨_,_,_,_,_,_,_,_,_,_,_,_,rfl⟩,g9 _ _ B⟩
 ·rintro ρ M8 ⟨⟨o1,o2,o3,o4,o5,o6,o7,o8,o9,L,G,J,rfl⟩,B⟩;dsimp only;nofun
end K49
end
end
end Mi
end L2
end
namespace PySem.W.Fast
theorem tw5442800712001709871:True:=trivial
theorem tw2074640486936620458:True:=trivial
theorem tw14171047956836119799:True:=trivial
theorem tw16451384647263874514:True:=trivial
theorem tw11449502129730468548:True:=trivial
theorem tw7725984958750391198:True:=trivial
theorem tw7385731435759674871:True:=trivial
theorem tw16811588365867073412:True:=trivial
theorem tw15931110015594127628:True:=trivial
theorem tw170547897797609633:True:=trivial
theorem tw14583496192430539356:True:=trivial
theorem tw5908932908465726229:True:=trivial
theorem tw9133056776139880152:True:=trivial
theorem tw17256097887297780306:True:=trivial
theorem tw2315481343009373206:True:=trivial
theorem tw12106419477117736837:True:=trivial
theorem tw13424521275791246887:True:=trivial
theorem tw8976775456449665168:True:=trivial
theorem tw12140475342234063815:True:=trivial
theorem tw11875014012874857168:True:=trivial
theorem tw7836392091715369852:True:=trivial
theorem tw17824878324080441061:True:=trivial
theorem tw13747830816404502001:True:=trivial
theorem tw13614703800998021725:True:=trivial
theorem tw1966892593422123023:True:=trivial
theorem tw16117423234388082076:True:=trivial
theorem tw2108400307885209689:True:=trivial
theorem tw16757853559616259801:True:=trivial
theorem tw14801569543017185420:True:=trivial
theorem tw7376165465463678315:True:=trivial
theorem tw9958544181934636311:True:=trivial
theorem tw268190784429071719:True:=trivial
theorem tw10756465821492224850:True:=trivial
theorem tw1318364531202337328:True:=trivial
theorem tw11322014215214254638:True:=trivial
theorem tw14128642411678378656:True:=trivial
theorem tw16918756634941845985:True:=trivial
theorem tw18144912439947000264:True:=trivial
theorem tw264117373163119162:True:=trivial
theorem tw9925618002511343852:True:=trivial
theorem tw8975546942554882282:True:=trivial
theorem tw3535272129868151171:True:=trivial
theorem tw757847645906388253:True:=trivial
theorem tw16136272574376962967:True:=trivial
theorem tw12589991111155799826:True:=trivial
theorem tw1361210831848941153:True:=trivial
theorem tw16078885444310657563:True:=trivial
theorem tw2796349804627310174:True:=trivial
theorem tw5310605527510660991:True:=trivial
theorem tw7816740806254024701:True:=trivial
theorem tw2668227244707087214:True:=trivial
theorem tw16551768121758437905:True:=trivial
theorem tw18381753553854656522:True:=trivial
theorem tw9783142432404495535:True:=trivial
theorem tw14682232003016980457:True:=trivial
theorem tw18130284929874821491:True:=trivial
theorem tw13382644526717753174:True:=trivial
theorem tw17328969916398169005:True:=trivial
theorem tw17902736979486044182:True:=trivial
theorem tw4601554901224030421:True:=trivial
theorem tw6429016571279860533:True:=trivial
theorem tw801244769274688308:True:=trivial
theorem tw10479436288023391962:True:=trivial
theorem tw8354119591163439584:True:=trivial
end PySem.W.Fast
open PySem.W in
set_option maxRecDepth 100000 in
set_option maxHeartbeats 0 in
theorem PySem.Challenge.cw_fewtimes_k49_great_tables_holds : PySem.Challenge.rw_fewtimes_k49_great_tables.Holds := by
 w_on;o_law;k_head;(case hw=>w_witness2)
 k_fill
 refine L2.Mi.K49.walk (l:=PySem.Challenge.rw_fewtimes_k49_great_tables) rfl rfl L2.Mi.K49.law_holds (fun w h Y=>⟨PySem.W.km_in_of Y,PySem.W.km_tabs_of Y⟩) ?T ?F
 case T =>
  intro w q hq;simp only [L2.Mi.K49.lmT,List.mem_cons,List.not_mem_nil,or_false] at hq
  rcases hq with rfl <;> (refine ⟨L2.Mi.hd_in (by (show _=_;k_is)) rfl,?_⟩;rfl)
 case F =>
  intro w mg fa h KX G hmg;refine' L2.Mi.K49.all_mk KX G hmg ?z ?_ ?_ ?_ ?_ ?_ ?_ ?_ ?_ ?_ ?_ ?_ ?_ ?_ ?_ ?_ ?_ ?_ ?_ ?_ ?_ ?_ ?_ ?_ ?_ ?_ ?_ ?_ ?_ ?_ ?_ ?_ ?_ ?_ ?_ ?_ ?_ ?_ ?_ ?_ ?_ ?_ ?_ ?_ ?_ ?_ ?_ ?_ ?_ ?_ ?_ ?_ ?_ ?_ ?_ ?_ ?_ ?_ ?_ ?_ ?_ ?_ ?_ ?_ ?_ ?_ ?_ ?_ ?_ ?_ ?_ ?_ ?_ ?_ ?_ ?_ ?_ ?_ ?_ ?_ ?_ ?_ ?_ ?_ ?_ ?_ ?_ ?_ ?_ ?_ ?_ ?_ ?_ ?_ ?_ ?_ ?_ ?_ ?_ ?_ ?_ ?_ ?_ ?_ ?_ ?_ ?_ ?_ ?_ ?_ ?_ ?_ ?_ ?_ ?_ ?_ ?_ ?_ ?_ ?_ ?_ ?_ ?_ ?_ ?_ ?_ ?_ ?_ ?_ ?_ ?_ ?_ ?_ ?_ ?_ ?_
  case z =>
   intro x hx;simp only [L2.Mi.bltNames,List.mem_cons,List.not_mem_nil,or_false] at hx
   rcases hx with rfl | rfl | rfl | rfl | rfl | rfl | rfl | rfl | rfl | rfl | rfl | rfl | rfl | rfl | rfl | rfl | rfl | rfl | rfl | rfl <;> k_is
  all_goals try (show _=_;first | k_is | exact L2.Mi.hd_in (by (show _=_;k_is)) rfl)
