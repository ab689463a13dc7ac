import PyProof.Rows.All
import Wide.All
import OpenK.AllK
import Wide.FinOn
import Lean
import PyProof.EqAt
import PyProof.EqKinds
import PyProof.TupleCall
import PyProof.ZipIter
import PyProof.EnumMake
import PyProof.EnumFor
import PyProof.CollectIter
import PyProof.TupleKey
import PyProof.DictRoadsH
import PyProof.P3Eq
import PyProof.Rows.SeqMore
import PyProof.ConsumeWalk
import PyProof.Rows.SortShellK
import PyProof.DictItems
import PyProof.DictWalks
import PyProof.AttrMissHeap
import PyProof.DictIter
import PyProof.MaxThree
import PyProof.SeqI3
import PyProof.DictTruth
import PyProof.Rows.TupDisplay
import PyProof.ListCopy
import PyProof.NeKinds
import PyProof.SetKind
import PyProof.IsRules
import PyProof.Rows.SetFrom
import PyProof.SetRoads
import PyProof.RaisesDict
import KE.KIntText
import PyProof.Rows.CallKwBuiltin
import PyProof.Rows.CountFlat
import KE.KDictOf
import PyProof.DelItemList
import PySem.Challenge.RW_fewtimes_k46_least_counts_kept
set_option Elab.async false
set_option linter.all false
set_option compiler.extract_closed false
set_option genSizeOf false
set_option bootstrap.genMatcherCode false
set_option maxRecDepth 100000
set_option maxHeartbeats 4000000
open PySem.W (Frag)
open PySem renaming wpAny_bind->gV,Value->q7,sizeLine_eq->z4,Shared->D1,wpAny_pure->D2,sizeLine->HZ,wpAny->Ik,Program->Iy,model->IB,starEach->IG,World->IY,Paired->IZ,wpAny_callSpecial?_slot->J0,wpAny_setField_rec->J3,wpAny_field->Je,Comprehension->Jg,Around->Ji,wpAny_call_entry->Jj,PyData->Js,wpAny_holding->Ju,mainGlobals->Jv,mem_of_lookup->JP,wpAny_newObj_type->JQ,binaryOp->JT,sysModules->JW,wpAny_pyIter_tuple->JX,wpAny_mono->Kf,assignEach->Kg,wpAny_rule->Kh,wpAny_seqItems->Kq,foldedSetIterable->Ks,compareOp->Ku,cellsFrom->Kv,DictEntry->Kw,wpAny_pyIter_list->Kx,wpAny_Call_Name_kw->KP,Builtin->KW,wpAny_passesOwn->L4,wpAny_truthy_bool->L7,wpAny_typeOf->L8,swappedStores->Ld,IsPair->Lh,wpAny_attempt->Li,cLine->Lk,NameKind->Ll,wpAny_isInstance->Lm,wpAny_of_eq->Lp,FuncData->LA,wpAny_loadPart'->LG,wpAny_standAt->LJ,swapsWithSole->Mb,behindInMarks->Mc,codeAny->Mf,tupleKind_room_in1->Mh,tupleKind->Ml,swapsWith->Mm,inplaceOp->Mn,sliceBounds->Mq,backTo->Ms,Operator->Mt,pyNext->Mu,codeAny_mono->Mw,Reads->MB,isSubtype_type->MK,call_meets->MY,wpAny_updateSeq_pair->Nc,letOwnedTupleGo->Nj,rawInt->Nk,codeAny_builtin->Nr,bootBuiltins->Nx,firstArgMember->NQ,wpAny_binaryOp_repeat_ref->NT,Model->NZ,standAt->O0,IsZip->Oa,wpAny_newList->Oj,wpAny_comprehension_free->Ol,wpAny_onRaise->Om,noFill_tuple_add->Oq,builtinsNs->OD,wpAny_pyNext_list_item->OF,IsPart->OG,getItem->OH,typeIs_int->OK,Keyword->OL,IsEnum->OO,wpAny_execs_nil->OT,pushCells_keeps->OW,wpAny_ite_false->OX,wpAny_pyNext_list_end->P1,builtinLookup_eq_fast->P6,wpAny_loadName_local->P9,newFunctionEnv->Pg,ZipApart->Ph,wpAny_letGo->Pk,wpAny_newTuple->Pm,isSubtype_stop->Pn,ReadsAll->Pq,wpAny_ite_true->Pu,wpAny_pyIter_keyiter->Pw,BindsTo->PF,callerA->PH,valueAt->PJ,wpAny_loadName_cell->PN,assignInOrder->Q0,seq_tuple_add->Q1,attributeBase->Q2,plainId_quiet->Q3,mroOf_keyiter->Q4,foldedForSure->Q8,pyIter->Qf,concat_meets->Qt,wpAny_sequenceKey->Qu,seqIndex_neg->Qv,call_meetsIn->Qz,wpAny_pyIter_enum->QC,wpAny_Dict_empty->QQ,pushCells->QR,wpAny_pyIter_zip->QV,IsEnumOut->QW,entryFor_of_tree->R3,seqIndex_of->Rh,keywordEach->Ri,atKey->Rj,wpAny_throw->Rl,richCompare->Ro,wpAny_Name->RL,bindName->RN,Result->RQ,bindL->RT,bindC->RU,call->RV
open List renaming length_map->hG,length_append->hQ,getElem?_eq_getElem->r4,replicate->HN,getElem?_append_right->HP,mem_map->HQ,mem_cons_of_mem->HR,map_append->HS,getElem?_eq_some_iff->HU,range->HV,getElem?_append_left->HX,getD_eq_getElem?_getD->HY,mem_cons_self->I0,getElem?_map->I8,size_toArray->Ia,mem_of_getElem?->Ib,length_range->Ic,mem_append->Ie,map_cons->Ii,mem_cons->Ij,mem_singleton->Im,mem_range->Io,mem_filter->Iq,length_cons->Iv,mem_append_right->Iw,mem_map_of_mem->Iz,length_singleton->IA,filter_cons_of_pos->ID,mem_flatMap->IE,pairwise_append->IH,length_filter_le->II,length_take->IJ,filter_append->IP,filter_cons_of_neg->IQ,append_assoc->IV,eraseIdx_eq_take_drop_succ->J6,eq_of_mem_replicate->J9,not_mem_nil->Ja,flatMap_cons->Jb,getElem?_replicate->Jd,length_eq_zero_iff->Jf,map_congr_left->Jh,concat_eq_append->Jm,nodup_iff_pairwise_ne->Jn,map_map->Jr,append_nil->Jt,replicate_succ->Jx,eq_nil_or_concat->JA,map_nil->JC,nodup_cons->JK,foldl_cons->JL,getElem?_set_self->JM,length_drop->JN,getElem_mem->JO,take_add_one->JR,take_append_drop->JS,getElem?_of_mem->JY,getElem?_zipIdx->JZ,flatten_cons->K0,ext_getElem?->K1,take_of_length_le->K2,pairwise_map->K6,map->K7,getElem?_range->K8,find?_cons->Ka,length_nil->Kb,length_zipIdx->Kj,getElem?_take_of_lt->Kk,mem_append_left->Km,getElem?_set_ne->Ko,getElem?_cons_succ->Kz,foldl_append->KA,flatMap_append->KG,lookup_cons->KL,pairwise_cons->KR,getElem?_drop->KS,length_replicate->KU,getElem?_eq_none->KY,drop_eq_getElem_cons->L3,range_succ->L6,getElem?_mapIdx->L9,take_length->Ln,find?_cons_of_neg->Lx,filter_eq_nil_iff->Ly,length_set->LB,forIn_cons->LD,mem_zipIdx_iff_getElem?->LI,any_cons->LK,reverse_cons->LO,mem_iff_getElem->LQ,zipWith->LV,mem_reverse->LW,any_eq_true->LY,reverse_perm->MJ,find?_cons_of_pos->MP,nodup_append->MQ,eq_replicate_iff->MW,all_eq_true->N6,all_cons->N7,take_append_of_le_length->Nh,of_mem_zip->Nl,filterMap_cons->Nu,length_zipWith->Nv,filter_sublist->Nw,pairwise_iff_getElem->NV,mem_or_eq_of_mem_set->NW,cons_append->Oy,getElem?_cons_zero->Oz,nil_append->OU,getElem?_zipWith->P4,pairwise_reverse->P5,eraseIdx_sublist->P7,length->Pe,forIn_nil->Pj,foldl_nil->PD,length_reverse->PV,length_pos_iff->PX,zip_eq_zipWith->PY,length_flatMap->PZ,sum_cons->Qa,map_drop->Qb,map_take->Qc,mem_filterMap->Qg,foldl->Qi,set_cons_zero->Qo,set_cons_succ->Qp,append_of_mem->Qr,filter_cons->QP,zipIdx_cons->QS,drop_length->QX,perm_middle->QY,map_snd_zip->R1,nodup_range->R8,flatMap_nil->Rb,map_zipWith->Rf,map_id->Rp,zipIdx_nil->RA,Perm->Sd
open PySem.Heap renaming get?_push_of_some->tv,get?_push_size->I9,lt_size->Ig,size_push->JU,SameBut->JV,get?_update_ne->K9,IsTuple->Nz,get?_update_other->OJ,get?_update_self->P2,IsList->Po,get?_push_cases->Pp,ExtBut->Rk
open Bool renaming and_eq_true->D0,false_ne_true->Ih,not_eq_true'->JE,false_eq_true->Ki,not_eq_true->MZ,and_eq_true_iff->Nf,false_or->Oi,or_eq_true->OY
open Nat renaming le_refl->HW,lt_of_lt_of_le->IM,ne_of_lt->IU,le_trans->IW,succ_mul->J1,mul_le_mul_right->Jp,div_lt_iff_lt_mul->JB,zero_le->JG,mul_le_mul->JI,lt_irrefl->JJ,ne_of_gt->KH,min_eq_left->LH,le_of_lt->LS,mul_comm->LU,mod_lt->Mj,sub_self->MD,succ_le_succ->MX,le_antisymm->Nt,zero_add->NG,lt_or_ge->OR,div_add_mod->P0,add_comm->Qw,pow_succ->QM,div_eq_of_lt->Rg,mul_add_div->RG,not_lt->RW
open Int renaming toNat_natCast->Il,dvd_mul_of_dvd_right->IK,eq_ofNat_of_zero_le->IS,emod_lt_of_pos->IX,dvd_mul_of_dvd_left->J2,dvd_zero->J7,emod_nonneg->Jk,dvd_add->JH,dvd_sub->Kc,dvd_neg->KJ,one_mul->La,add_zero->Lz,mul_assoc->LL,toNat_of_nonneg->Ma,natCast_nonneg->Mk,mul_comm->MR,mul_le_mul_of_nonneg_left->Ni,zero_add->NF,mul_add->Ob,add_mul->Oc,mul_sub->Oe,neg_sub->Of,emod_eq_of_lt->Og,dvd_of_emod_eq_zero->OA,natCast_mul->OZ,mul_one->Pa,lt_or_gt_of_ne->Qq,sub_zero->QL,ofNat->Ra,neg_mul->Rx,sub_mul->Ry,natCast_add->RH
open Option renaming some->Ir,isSome_iff_exists->Le,getD_some->Lo,map_some->LF,map_eq_some_iff->Mz,bind_some->N1,isSome_some->Qj,getD_none->QN,join_some->R5,bind_none->R6,join_none->R7
open PySem.W renaming mg_of->Iu,keepIn->KO,fnOf->Ls,cellsFrom_some->Mx,nsIn->MA,codeIn->NL,methodObj->NX,OpenLaw->OV
open PyProof.Rows renaming Keyed->IC,wpS_bind->J8,arrOf->Jc,callWith_type1->Jl,slot_tuple_getitem->Kd,SortSt->Kr,kindOf->KI,pendingOf->KN,wpS_forRange->LX,failedOf->Me,get?_update_seq->Mg,listUpdate_at->N9,SortKind->Ng,mem_zip_self->NB,assignInOrder_cons->NJ,AllBare->NY,seqSlot_of->Ox,subscriptTail_builtinR->OI,envOfC->Pc,entry_tuple_getitem->PQ,args_tuple_getitem->Qh,assignInOrder_nil->Qs,wpS_get->QG,listItems_at->QH,seqObj->R0,keyKind'_eq->Rq,seqEpoch_at->Rr,IntsAre->RI,boot_range->RP,wpS_modify->RX
open PySem.Str renaming ofString->IF
open PySem.NameKind renaming free->IT,cell->Kl
open Classical renaming byContradiction->J4,propDecidable->Jo
open Array renaming getElem?_eq_getElem->Jq,length_toList->Jw,getElem?_toList->Jy,getElem?_eq_none->MN,toList_inj->N4,map->N5,toList->OE,append_assoc->Qe,all_eq_true->QI,filterMap->RE,replicate->RF
open PySem.PyData renaming eqv->Jz,canLayAll0->JD,depthAll->KD,depth->Lw,canLay0->MM,eqvAll->N8,strOk->QE,list->Rm
open PySem.Value renaming type->JF,ref->Ke,none->LP,bool->RJ,int->Sa,str->Sb
open PySem.SeqAt renaming readOf->K5,readOf_eq->L5,eqAt_reads->QZ
open PySem.F renaming slot_tuple_iterator_next->KQ,slot_enumerate_next->LM,args_tuple_add_2->Md,entry_tuple_add->Mp,plainAttrs_list->Mr,slot_tuple_add->My,slot_dict_get->MV,slot_int_rmul->Nm,args_tuple_iterator_next_1->Np,slot_zip_next->Nq,entry_tuple_iterator_next->Ny,args_dict_get_3->Ov,args_enumerate_next_1->Ow,entry_dict_get->ON,entry_enumerate_next->OP,args_int_rmul_2->Qx,args_zip_next_1->QA,entry_int_rmul->QO,entry_zip_next->QT,slot_dict_iter->R4,fills_int_mul->Rz,slot_tuple_lt->RC
open PySem.Builtin.Slice renaming slicePlaces->KZ,sliceAdjust->LZ,sliceApplied->NM
open PySem.Paired renaming length->Lb
open PySem.Builtin.Tuple renaming tupleExact->Lf,tupleCompareSizes->MU,tupleItemsOf->NN,tupleIsExact->NO,tupleTooMany->NR,tupleHashOf->NU
open PySem.Builtin.List renaming listTooLong->Lg,listLengthHint->ND
open List.Pairwise renaming imp_of_mem->Lj,nil->Qy
open PySem.Shared renaming heap->Lq
open PySem.Calls renaming spliced_cons->Lr,spliced_nil->Mv,Name_function_global->NI,callWith_builtin->OM,evalArgs_plain->Pf
open PySem.Obj renaming mapSeq->Lu,data_mapFields->Qk
open List.Perm renaming append_right->Lv,append_left->LN,refl->Pt
open ForInStep renaming yield->LC
open PySem.Builtin.Range renaming rangeSize->Mo,rangeFitsLong->NA
open PyProof.Rows.SortSt renaming mk'->N3
open Prod.mk renaming injEq->Na
open PySem.Data renaming seq->Nb
open PyProof.Rows.IsTup renaming new->NH
open True renaming intro->NP
open PySem.Builtin.Dict_items renaming isOneOf->NS
open Prod renaming mk->Oh,ext->Ou
open PySem.Env renaming blockKind->Oo,kindOf->Qn
open Sum renaming inl->OB,inr->OC
open Iff renaming rfl->OQ
open PySem.Expr renaming Subscript->Px,Attribute->Py,Constant->Q5,ListComp->Q6,UnaryOp->QJ,Compare->QK,BoolOp->Rt,BinOp->RY,IfExp->RZ,Tuple->S0,Slice->S4,Name->Se,List->Sf,Call->Sg,Dict->Si
open PySem.Stmt renaming AugAssign->Pz,Continue->Q7,Assign->Ru,Return->Rw,While->S8,Break->S9,Expr->Sj,Pass->Sk
open And renaming intro->PM
open PySem.Heap.SameBut renaming update->PR
open PySem.Builtin.Int renaming intBits->PU
open Function renaming comp->Q9
open PySem.Around renaming in1_handled->Ql,under_plain->Qm
open PySem.Heap.IsTuple renaming push->QB
open Option.some renaming injEq->QF
open PySem.Heap.IsList renaming push->QU
open List.Sublist renaming map->Rc
open List.cons renaming injEq->RB
open Option renaming some->E,none->Z
open Bool renaming true->N2,false->R9
open PySem renaming Addr->SS
section
theorem SU{a b c:Nat}(h:b<=c)(k:a<=b):a<=c:=Nat.le_trans k h
theorem SV{a b c:Nat}(h:b<=c)(k:a+1<=b):a<=c-1:=Nat.le_sub_of_add_le (Nat.le_trans k h)
theorem SW{a b:Nat}(h:Nat.ble (a+1) b=true):a<b:=Nat.le_of_ble_eq_true h
local macro_rules|`(∅)=>`(by first|with_reducible assumption|with_reducible exact Nat.le_of_ble_eq_true rfl|with_reducible exact SW rfl|exact SU (by with_reducible assumption) (by with_reducible exact Nat.le_of_ble_eq_true rfl)|exact SV (by with_reducible assumption) (by with_reducible exact Nat.le_of_ble_eq_true rfl)|lia)
namespace L2
open PySem PySem.Spec PyProof.Rows
section
noncomputable abbrev Key:=Sum Int Str
noncomputable def gx:Key->q7->Bool
 |.inl k,v=>Value.isInt k v
 |.inr x,v=>Value.isStrOf x v
noncomputable def DP(w:IY):Key->Int
 |.inl k=>hashInt k
 |.inr x=>hashStr w x
theorem aR:∀{k:Key} {v:q7},gx k v=N2->(∃i t,k=OB i/\v=Sa i t)∨(∃x t,k=OC x/\v=Sb x t)
 |.inl i,v,h=>by obtain⟨t,e⟩:=Value.isInt_shape (k:=i) (v:=v) h;exact .inl ⟨i,t,rfl,e⟩
 |.inr x,v,h=>by obtain⟨t,e⟩:=Value.isStrOf_shape (x:=x) (v:=v) h;exact .inr ⟨x,t,rfl,e⟩
theorem sU(i:Int)(t:Tok):gx (.inl i) (.int i t)=N2:=by simp[gx,Value.isInt]
theorem sV(x:Str)(t:Tok):gx (.inr x) (.str x t)=N2:=by simp[gx,Value.isStrOf]
theorem Ap(a b:Int):decide ((OB a:Key)=OB b)=(a==b):=by
 by_cases e:a=b
 ·subst e;simp
 ·have h:¬(OB a:Key)=OB b:=λq=>e (OB.inj q);rw[decide_eq_false h];exact(beq_eq_false_iff_ne.mpr e).symm
theorem Aq(a b:Str):decide ((OC a:Key)=OC b)=decide (a=b):=by
 by_cases e:a=b
 ·subst e;simp
 ·have h:¬(OC a:Key)=OC b:=λq=>e (OC.inj q);rw[decide_eq_false h,decide_eq_false e]
theorem Ar(a:Int)(b:Str):decide ((OB a:Key)=OC b)=R9:=decide_eq_false (λq=>nomatch q)
theorem As(a:Str)(b:Int):decide ((OC a:Key)=OB b)=R9:=decide_eq_false (λq=>nomatch q)
noncomputable def aF(prog:Iy)(w:IY):PySem.KeyKind prog w Key where
 is:=gx
 hash:=DP w
 inj:=λv a b ha hb=>by
  rcases aR ha with⟨i,t,rfl,rfl⟩|⟨x,t,rfl,rfl⟩
  ·rcases aR hb with⟨j,u,rfl,e⟩|⟨y,u,rfl,e⟩
   ·injection e with e1 _;rw[e1]
   ·exact nomatch e
  ·rcases aR hb with⟨j,u,rfl,e⟩|⟨y,u,rfl,e⟩
   ·exact nomatch e
   ·injection e with e1 _;rw[e1]
 byValue:=λk v h=>by rcases aR h with⟨i,t,rfl,rfl⟩|⟨x,t,rfl,rfl⟩<;>rfl
 pyHash:=λhv h=>by
  rcases aR hv with⟨i,t,rfl,rfl⟩|⟨x,t,rfl,rfl⟩
  ·exact wpAny_pyHash_int h
  ·exact wpAny_pyHash_str h
 eqBool:=λhu hv h=>by
  rcases aR hu with⟨i,t,rfl,rfl⟩|⟨x,t,rfl,rfl⟩
  ·rcases aR hv with⟨j,u,rfl,rfl⟩|⟨y,u,rfl,rfl⟩
   ·rw[Ap]at h;exact wpAny_eqBool_int h
   ·rw[Ar]at h;exact SeqAt.EqAt.int_str i t y u _ _ _ _ h
  ·rcases aR hv with⟨j,u,rfl,rfl⟩|⟨y,u,rfl,rfl⟩
   ·rw[As]at h;exact SeqAt.EqAt.str_int x t j u _ _ _ _ h
   ·rw[Aq]at h;exact wpAny_eqBool_str h
 «strs»:=λk x t v h=>by
  rcases aR h with⟨i,u,rfl,e⟩|⟨y,u,rfl,e⟩
  ·exact nomatch e
  ·injection e with e1 _
   subst e1
   cases v<;>rfl
theorem pD(prog:Iy)(w:IY)(i:Int)(t:Tok):(aF prog w).is (.inl i) (.int i t)=N2:=sU i t
theorem pE(prog:Iy)(w:IY)(x:Str)(t:Tok):(aF prog w).is (.inr x) (.str x t)=N2:=sV x t
end
variable{us:List q7}{a b:SS}{P:Iy}{w:IY}{h:Heap}
section
inductive V where
 |non|bl (b:Bool)|int (i:Int)|str (x:Str)|byt (b:Array UInt8)|flt (b:UInt64)|ref (a:SS)|ty (n:String)
 deriving DecidableEq
noncomputable def RelV:V->q7->Prop
 |.non,u=>u=LP
 |.bl b,u=>u=RJ b
 |.int i,u=>∃t,u=Sa i t
 |.str x,u=>∃t,u=Sb x t
 |.byt b,u=>∃t,u=Value.bytes b t
 |.flt b,u=>∃t,u=Value.float b t
 |.ref a,u=>u=Ke a
 |.ty n,u=>u=JF n
noncomputable abbrev Vals:List V->List q7->Prop:=IZ RelV
theorem Vals.length{xs:List V}(r:Vals xs us):xs.length=us.length:=Lb r
theorem Vals.get:∀{xs:List V} {us:List q7} {i:Nat} {x:V},Vals xs us->xs[i]?=E x->∃u,us[i]?=E u/\RelV x u
 |_,_,_,_,.nil,e=>by simp at e
 |_,_,0,_,.cons r _,e=>by simp at e;subst e;exact⟨_,rfl,r⟩
 |_,_,i+1,x,.cons _ t,e=>by
  obtain⟨u,h1,h2⟩:=Vals.get (i:=i) (x:=x) t (by simpa using e)
  exact⟨u,by simpa using h1,h2⟩
theorem Vals.set{x:V}{u:q7}(r:RelV x u):∀{xs:List V} {us:List q7} (i:Nat),Vals xs us->Vals (xs.set i x) (us.set i u)
 |_,_,_,.nil=>.nil
 |_,_,0,.cons _ t=>.cons r t
 |_,_,i+1,.cons q t=>.cons q (Vals.set r i t)
theorem Vals.append:∀{xs ys:List V} {us ws:List q7},Vals xs us->Vals ys ws->Vals (xs++ys) (us++ws)
 |_,_,_,_,.nil,s=>s
 |_,_,_,_,.cons r t,s=>.cons r (Vals.append t s)
theorem Vals.take:∀{xs:List V} {us:List q7} (n:Nat),Vals xs us->Vals (xs.take n) (us.take n)
 |_,_,0,_=>.nil
 |_,_,_+1,.nil=>.nil
 |_,_,n+1,.cons r t=>.cons r (Vals.take n t)
theorem Vals.drop:∀{xs:List V} {us:List q7} (n:Nat),Vals xs us->Vals (xs.drop n) (us.drop n)
 |_,_,0,r=>r
 |_,_,_+1,.nil=>.nil
 |_,_,n+1,.cons _ t=>Vals.drop n t
noncomputable def RelO:Option V->Option q7->Prop
 |some v,E u=>RelV v u
 |none,Z=>True
 |_,_=>False
noncomputable def KV{κ:Type}:List (κ×V)->List (κ×q7)->Prop:=IZ λ(p:κ×V) (q:κ×q7)=>p.1=q.1/\RelV p.2 q.2
noncomputable def kV:Key->V
 |.inl i=>.int i
 |.inr x=>.str x
inductive HO where
 |lst (xs:List V)
 |tup (xs:List V)
 |dK (kvs:List (Key×V))|dT (kvs:List (List Key×V))
 |set (S:Int->Bool) (n:Nat)
 |ins (C dx:SS) (fs:List (Str×V))
 |own (x:SS)
 |xd (fs:List (Str×V))
 |met (f x:SS)
 |rng (lo hi:Int)
 |frz (o:Obj) (u:HO)
 |tbl (ps:Array q7)
 |ext (φ:Heap->Prop)
noncomputable abbrev Hp:=SS->Option HO
noncomputable def upd(H:Hp)(a:SS)(o:HO):Hp:=λb=>if b=a then E o else H b
theorem az{H:Hp}{o:HO}:upd H a o a=E o:=by unfold upd;rw[if_pos rfl]
theorem aj{H:Hp}{o:HO}(h:b≠a):upd H a o b=H b:=by unfold upd;rw[if_neg h]
theorem yC{H:Hp}{o u:HO}:upd (upd H a o) a u=upd H a u:=by funext b;unfold upd;split<;>rfl
theorem xV{H:Hp}{o u:HO}(h:H a=E o)(h':H b=E u)(d:o≠u):a≠b:=by intro e;subst e;rw[h]at h';exact d (Ir.inj h')
theorem aX{H:Hp}{o:HO}(h:H a=E o)(h':H b=Z):a≠b:=by intro e;subst e;rw[h]at h';cases h'
section
variable(P:Iy)(w:IY)
noncomputable def ObjOk(H:Hp)(h:Heap)(a:SS):HO->Prop
 |.lst xs=>xs.length<=HZ/\∃(its:List q7) (n:Nat),Vals xs its/\h.get? a=E {cls:=.type "list",data:=.seq its.toArray n}
 |.tup xs=>xs.length<=HZ/\∃its:List q7,Vals xs its/\IsTup h a its.toArray
 |.dK kvs=>kvs.length<=HZ/\(a==JW)=R9/\∃vs,KV kvs vs/\h.DictOf (aF P w) a vs
 |.dT kvs=>kvs.length<=HZ/\(a==JW)=R9/\∃xs:List (List Key×SS×q7),
  IZ (λ(p:List Key×V) (q:List Key×SS×q7)=>p.1=q.1/\H q.2.1=E (.tup (p.1.map kV))/\RelV p.2 q.2.2) kvs xs /\
  ∃o es ep,h.get? a=E o/\o.ExactDict/\o.data=.dict es ep/\es.toList=xs.map (entryOfKey (Ml (aF P w)))/\(xs.map (·.1)).Nodup
 |.set S n=>h.SetOf (intKind P w) a S n
 |.ins C dx fs=>H dx=E (.own a)/\fs.length<=1000/\dx≠a/\h.get? a=E (PySem.W.instObj C dx) /\
  ∃mA,h.Ns1 dx mA/\(∀f,RelO (fs.lookup f) (mA f))/\PySem.Within mA (fs.map (·.1))
 |.own _=>∃o,h.get? a=E o
 |.xd fs=>∃mA,h.Ns1 a mA/\∀f,RelO (fs.lookup f) (mA f)
 |.rng lo hi=>∃t u v,h.get? a=E {cls:=.type "range",data:=.fields #[.int lo t,.int hi u,.int 1 v]}
 |.frz o u=>h.get? a=E o/\ObjOk H h a u
 |.tbl ps=>h.get? a=E {cls:=.none,data:=.fields ps}
 |.met f x=>h.get? a=E (NX (.ref f) (.ref x))
 |.ext φ=>φ h/\(∃o,h.get? a=E o)/\∀h1 h2:Heap,φ h1->(∀o,h1.get? a=E o->h2.get? a=E o)->φ h2
def HOk(H:Hp)(h:Heap):Prop:=∀a o,H a=E o->ObjOk P w H h a o
end
section
variable{P:Iy}{w:IY}{H H':Hp}{h h':Heap}{a:SS}{o:HO}
theorem ObjOk.lt(x:ObjOk P w H h a o):a<h.objs.size:=by
 cases o with
 |lst xs=>obtain⟨_,_,_,_,e⟩:=x;exact Ig e
 |tup xs=>obtain⟨_,_,_,p⟩:=x;exact p.lt
 |dK kvs=>obtain⟨_,_,_,_,o,_,_,e,_⟩:=x;exact Ig e
 |dT kvs=>obtain⟨_,_,_,_,o,_,_,e,_⟩:=x;exact Ig e
 |set S n=>obtain⟨o,_,_,_,e,_⟩:=x;exact Ig e
 |ins C dx fs=>obtain⟨_,_,_,e,_⟩:=x;exact Ig e
 |own y=>obtain⟨_,e⟩:=x;exact Ig e
 |xd fs=>obtain⟨_,⟨_,_,_,e,_⟩,_⟩:=x;exact Ig e
 |rng lo hi=>obtain⟨_,_,_,e⟩:=x;exact Ig e
 |frz ob u=>obtain⟨e,_⟩:=x;exact Ig e
 |tbl ps=>exact Ig (show h.get? a=E _ from x)
 |met f y=>exact Ig (show h.get? a=E _ from x)
 |ext φ=>obtain⟨_,⟨_,e⟩,_⟩:=x;exact Ig e
theorem Sr{α β:Type}{F G:α->β->Prop}:∀{l₁:List α} {l₂:List β},IZ F l₁ l₂->(∀a b,F a b->G a b)->IZ G l₁ l₂
 |_,_,.nil,_=>.nil
 |_,_,.cons r t,f=>.cons (f _ _ r) (Sr t f)
theorem ObjOk.stay(x:ObjOk P w H h a o)(k:∀b u,(b=a∨H b=E (.own a))->h.get? b=E u->h'.get? b=E u)(ho:∀b,H b=E (.own a)->H' b=E (.own a))(j:∀b xs,H b=E (.tup xs)->H' b=E (.tup xs)):ObjOk P w H' h' a o:=by
 induction o with
 |lst xs=>obtain⟨z,its,n,r,e⟩:=x;exact⟨z,its,n,r,k _ _ (.inl rfl) e⟩
 |tup xs=>obtain⟨z,its,r,ob,e,c⟩:=x;exact⟨z,its,r,ob,k _ _ (.inl rfl) e,c⟩
 |dK kvs=>obtain⟨z,y,vs,r,ob,es,ep,e,c⟩:=x;exact⟨z,y,vs,r,ob,es,ep,k _ _ (.inl rfl) e,c⟩
 |dT kvs=>obtain⟨z,y,xs,r,ob,es,ep,e,c⟩:=x;exact⟨z,y,xs,Sr r λp q z=>⟨z.1,j _ _ z.2.1,z.2.2⟩,ob,es,ep,k _ _ (.inl rfl) e,c⟩
 |set S n=>obtain⟨ob,es,ep,t,e,c⟩:=x;exact⟨ob,es,ep,t,k _ _ (.inl rfl) e,c⟩
 |ins C dx fs=>obtain⟨d,z,ne,e,mA,⟨od,es,ep,B,c⟩,r⟩:=x;exact⟨ho _ d,z,ne,k _ _ (.inl rfl) e,mA,⟨od,es,ep,k _ _ (.inr d) B,c⟩,r⟩
 |own y=>obtain⟨ob,e⟩:=x;exact⟨ob,k _ _ (.inl rfl) e⟩
 |xd fs=>obtain⟨mA,⟨od,es,ep,e,c⟩,r⟩:=x;exact⟨mA,⟨od,es,ep,k _ _ (.inl rfl) e,c⟩,r⟩
 |rng lo hi=>obtain⟨t,u,v,e⟩:=x;exact⟨t,u,v,k _ _ (.inl rfl) e⟩
 |frz ob u ih=>obtain⟨e,q⟩:=x;exact⟨k _ _ (.inl rfl) e,ih q⟩
 |tbl ps=>have e:h.get? a=E {cls:=.none,data:=.fields ps}:=x;show h'.get? a=E {cls:=.none,data:=.fields ps};exact k a _ (.inl rfl) e
 |met f y=>have e:h.get? a=E (NX (.ref f) (.ref y)):=x;show h'.get? a=E (NX (.ref f) (.ref y));exact k a _ (.inl rfl) e
 |ext φ=>obtain⟨p,⟨o,e⟩,st⟩:=x;exact⟨st _ _ p λo q=>k _ _ (.inl rfl) q,⟨o,k _ _ (.inl rfl) e⟩,st⟩
theorem HOk.lt(x:HOk P w H h)(e:H a=E o):a<h.objs.size:=(x a o e).lt
theorem HOk.fresh(x:HOk P w H h)(e:h.objs.size<=a):H a=Z:=by
 cases q:H a with
 |none=>rfl
 |some u=>exact absurd (IM (x.lt q) e) (JJ _)
theorem HOk.kept(x:HOk P w H h)(k:∀b u,h.get? b=E u->h'.get? b=E u):HOk P w H h':=λa o e=>(x a o e).stay (λb u _ q=>k b u q) (λ_ q=>q) λ_ _ q=>q
theorem HOk.laid(x:HOk P w H h)(k:∀b u,h.get? b=E u->h'.get? b=E u)(z:h.objs.size<=a)(new:ObjOk P w (upd H a o) h' a o):HOk P w (upd H a o) h':=λb u e=>by
 have j:=x.fresh z
 by_cases hb:b=a
 ·subst hb;rw[az]at e;cases e;exact new
 ·rw[aj hb]at e;exact(x b u e).stay (λc v _ q=>k c v q) (λc q=>by rw[aj (aX q j)];exact q) λc xs q=>by rw[aj (aX q j)];exact q
end
def Rd(H:Hp)(a:SS)(u:HO):Prop:=H a=E u∨∃o,H a=E (.frz o u)
theorem Rd.of{H:Hp}{u:HO}(h:H a=E u):Rd H a u:=.inl h
theorem Rd.ok{H:Hp}{u:HO}(r:Rd H a u)(x:HOk P w H h):ObjOk P w H h a u:=by
 rcases r with r|⟨o,r⟩
 ·exact x a u r
 ·obtain⟨_,q⟩:=x a _ r;exact q
noncomputable def Mut:Option HO->Prop
 |some (.lst _)=>True
 |some (.dK _)=>True
 |some (.dT _)=>True
 |some (.set _ _)=>True
 |some (.ins _ _ _)=>True
 |some (.ext _)=>True
 |_=>False
section
variable{P:Iy}{w:IY}{H:Hp}{h h':Heap}{x e:SS}{o':HO}
theorem HOk.write(ok:HOk P w H h)(mu:Mut (H x))(he:e=x∨H e=E (.own x))(k:∀b u,b≠e->h.get? b=E u->h'.get? b=E u)(F:∃u,h'.get? e=E u)(new:ObjOk P w (upd H x o') h' x o'):HOk P w (upd H x o') h':=λb u q=>by
 have nown:∀c y,H c=E (.own y)->c≠x:=λc y r z=>by subst z;rw[r]at mu;exact mu
 have ntup:∀c xs,H c=E (.tup xs)->c≠x:=λc xs r z=>by subst z;rw[r]at mu;exact mu
 by_cases hb:b=x
 ·subst hb;rw[az]at q;cases q;exact new
 ·rw[aj hb]at q
  by_cases j:b=e
  ·have q':H b=E (.own x):=by
    rcases he with z|z
    ·exact absurd (j.trans z) hb
    ·rw[j];exact z
   rw[q]at q';cases q';obtain⟨v,J⟩:=F;exact⟨v,by rw[j];exact J⟩
  ·refine(ok b u q).stay (λc v B r=>k c v ?_ r) (λc r=>by rw[aj (nown c b r)];exact r) λc xs r=>by rw[aj (ntup c xs r)];exact r
   rcases B with rfl|B
   ·exact j
   ·rintro rfl
    rcases he with z|z
    ·exact nown c b B z
    ·rw[B]at z;cases z;exact hb rfl
end
structure Un(fs ex:List SS)(H H':Hp)(h h':Heap):Prop where
 keep:∀b o,h.get? b=E o->H b=Z->b∉fs->b∉ex->h'.get? b=E o
 slot:∀b o,h.get? b=E o->H b=Z->b∈fs->b∉ex->∃sl,h'.get? b=E {o with slots:=sl}
 free:∀b o,h.get? b=E o->H b=Z->b∉ex->H' b=Z
 there:∀b o,h.get? b=E o->b∉ex->∃o',h'.get? b=E o'
 tups:∀b xs,H b=E (.tup xs)->H' b=E (.tup xs)
 frzs:∀b o u,H b=E (.frz o u)->H' b=E (.frz o u)
 tbls:∀b ps,H b=E (.tbl ps)->∃more,H' b=E (.tbl (ps++more))
section
variable{fs fs' ex ex':List SS}{H H1 H2:Hp}{h h1 h2 h':Heap}{a x e:SS}{o:HO}
theorem Un.any(u:Un fs ex H H1 h h1){ob:Obj}(q:h.get? b=E ob)(n:H b=Z)(hx:b∉ex):∃sl,h1.get? b=E {ob with slots:=sl}:=by
 by_cases j:b∈fs
 ·exact u.slot b ob q n j hx
 ·exact⟨ob.slots,u.keep b ob q n j hx⟩
theorem Un.trans(a:Un fs ex H H1 h h1)(b:Un fs ex H1 H2 h1 h2):Un fs ex H H2 h h2 where
 keep:=λc ob q n z hx=>b.keep c ob (a.keep c ob q n z hx) (a.free c ob q n hx) z hx
 slot:=λc ob q n z hx=>by obtain⟨sl,j⟩:=a.slot c ob q n z hx;obtain⟨sl',B⟩:=b.slot c _ j (a.free c ob q n hx) z hx;exact⟨sl',B⟩
 free:=λc ob q n hx=>by obtain⟨o',j⟩:=a.there c ob q hx;exact b.free c o' j (a.free c ob q n hx) hx
 there:=λc ob q hx=>by obtain⟨o',j⟩:=a.there c ob q hx;exact b.there c o' j hx
 tups:=λc xs q=>b.tups c xs (a.tups c xs q)
 frzs:=λc ob xs q=>b.frzs c ob xs (a.frzs c ob xs q)
 tbls:=λc ps q=>by obtain⟨F,j⟩:=a.tbls c ps q;obtain⟨J,B⟩:=b.tbls c _ j;exact⟨F++J,by rw[B,Qe]⟩
theorem Un.kept(k:∀b u,h.get? b=E u->h'.get? b=E u):Un fs ex H H h h':=⟨λb ob q _ _ _=>k b ob q,λb ob q _ _ _=>⟨ob.slots,k b ob q⟩,λ_ _ _ n _=>n,λb ob q _=>⟨ob,k b ob q⟩,λ_ _ q=>q,λ_ _ _ q=>q,λ_ ps q=>⟨#[],by rw[q];simp⟩⟩
theorem Un.refl:Un fs ex H H h h:=Un.kept λ_ _ q=>q
theorem Un.laid(k:∀b u,h.get? b=E u->h'.get? b=E u)(z:h.objs.size<=a)(j:H a=Z):Un fs ex H (upd H a o) h h' where
 keep:=λb u q _ _ _=>k b u q
 slot:=λb u q _ _ _=>⟨u.slots,k b u q⟩
 free:=λb u q n _=>by rw[aj (IU (IM (Ig q) z))];exact n
 there:=λb u q _=>⟨u,k b u q⟩
 tups:=λb xs q=>by rw[aj (aX q j)];exact q
 frzs:=λb u xs q=>by rw[aj (aX q j)];exact q
 tbls:=λb ps q=>⟨#[],by rw[aj (aX q j),q];simp⟩
theorem Un.write(mu:Mut (H x))(he:e=x∨H e=E (.own x))(k:∀b u,b≠e->h.get? b=E u->h'.get? b=E u)(B:∃u,h'.get? e=E u):Un fs ex H (upd H x o) h h':=by
 have hx:∀b,H b=Z->b≠x:=λb n z=>by subst z;rw[n]at mu;exact mu
 have F:∀b,H b=Z->b≠e:=λb n z=>by
  subst z
  rcases he with r|r
  ·exact hx b n r
  ·rw[n]at r;cases r
 have hm:∀b u,H b=E u->¬Mut (E u)->b≠x:=λb u q nm z=>by subst z;rw[q]at mu;exact nm mu
 refine⟨λb u q n _ _=>k b u (F b n) q,λb u q n _ _=>⟨u.slots,k b u (F b n) q⟩,λb u q n _=>by rw[aj (hx b n)];exact n,λb u q _=>?_,
  λb xs q=>by rw[aj (hm b _ q λz=>z)];exact q,λb u xs q=>by rw[aj (hm b _ q λz=>z)];exact q,λb ps q=>⟨#[],by rw[aj (hm b _ q λz=>z),q];simp⟩⟩
 by_cases j:b=e
 ·subst j;exact B
 ·exact⟨u,k b u j q⟩
end
noncomputable def trk(h:Heap)(H:Hp):List SS:=(HV h.objs.size).filter λa=>(H a).isSome
noncomputable def eW(h:Heap)(H:Hp):Heap:=PySem.W.hideAll h (trk h H)
theorem sW(h:Heap)(H:Hp):(eW h H).objs.size=h.objs.size:=PySem.W.hideAll_size _ _
theorem vM{H:Hp}{o:Obj}(e:h.get? b=E o)(n:H b=Z):(eW h H).get? b=E o:=
 PySem.W.hideAll_get _ e λhm=>by have q:(H b).isSome=N2:=(Iq.mp hm).2;rw[n]at q;simp at q
theorem yD{H:Hp}{o:Obj}(e:(eW h H).get? b=E o):h.get? b=E o/\H b=Z:=by
 have e':h.get? b=E o:=PySem.W.of_hideAll (trk h H) e;refine⟨e',?_⟩
 cases q:H b with
 |none=>rfl
 |some x=>
  have hm:b∈trk h H:=Iq.mpr ⟨Io.mpr (Ig e'),by simp[q]⟩
  have z:(eW h H).get? b=Z:=PySem.W.hideAll_none (trk h H) hm;rw[z]at e;cases e
noncomputable def yE(g h:Heap)(L:SS):List (SS×Obj):=(HV h.objs.size).filterMap λa=>if a=L∨(g.get? a).isSome=N2 then Z else(h.get? a).map λo=>(a,o)
noncomputable def rest(g h:Heap)(L d:SS):List (SS×Obj):=(yE g h L).filter λp=>decide (p.1≠d)
end
variable{H:Hp}{o:HO}{u:q7}{t' i:Nat}{x:Str}{e:Expr}{N:List Str}{M:NZ}{A:Ji}{v:V}{s:D1}
section
structure Mod(K:Frag)(mg:Str->Option q7)(base:Heap):Prop where
 kin:K.In base
 glob:base.Ns Jv mg
 blt:∃mb,base.Ns OD mb/\∀x:Str,x≠"__name__"->mb x=Nx x
 nolimit:base.NoLimit
structure Cx where
 prog:Iy
 w:IY
 K:Frag
 mg:Str->Option q7
 base:Heap
 A:Ji
 N:List Str
 s₀:D1
 H₀:Hp
 env:Env
 outer:List Env
 stack:List Env
 ex:List SS
 fn:Str->Bool
 calm:Bool
 pn:List (SS×Obj)
 xe:q7->D1->Prop
noncomputable def frs(l:List Env):List SS:=l.filterMap (·.frame)
noncomputable abbrev Cx.fs(X:Cx):List SS:=frs X.outer
def Vis(sc:Scope)(x:Str):Prop:=sc.names.lookup x=E .local∨sc.names.lookup x=E .cell∨sc.names.lookup x=E .free
def Loc(sc:Scope)(x:Str):Prop:=sc.names.lookup x=E .local∨sc.names.lookup x=E .cell
def DQ(env:Env)(h:Heap)(m:Str->Option q7)(x:Str)(u:q7):Prop:=(env.kindOf x=E .local/\m x=E u)∨((env.kindOf x=E .cell∨env.kindOf x=E .free)/\∃c,env.cells.lookup x=E c/\h.IsCell c (E u))
structure Cx.Ok(X:Cx):Prop where
 mod:Mod X.K X.mg X.base
 kind:X.env.scope.kind=.function
 glob:X.env.globals=Jv
 blt:X.env.builtins=OD
 above:X.s₀.heap.objs.size<=X.env.locals
 inj:∀x y c,X.env.cells.lookup x=E c->X.env.cells.lookup y=E c->x=y
 has:∀x,(X.env.kindOf x=E .cell∨X.env.kindOf x=E .free)->∃c,X.env.cells.lookup x=E c
 cab:∀x c,X.fn x=N2->X.env.cells.lookup x=E c->X.s₀.heap.objs.size<=c
 hd:X.calm=N2->X.A.handled=Z
 frames:X.A.frames=E X.stack
 stk:X.stack=X.outer∨(X.stack=X.env::X.outer/\X.env.frame=E X.env.locals)
 exf:∀b∈X.ex,b≠X.env.locals/\∀x c,X.env.cells.lookup x=E c->c≠b
 bs:∀b o,X.base.get? b=E o->X.s₀.heap.get? b=E o/\X.H₀ b=Z
 bsz:X.base.objs.size<=X.s₀.heap.objs.size
 noex:∀b o,X.base.get? b=E o->b∉X.ex
 exfs:∀b∈X.ex,b∉X.fs
 funs:X.s₀.heap.FunFrames X.base X.outer
 frf:∀b∈X.fs,X.H₀ b=Z
structure Inv(X:Cx)(pins:List (SS×Obj))(σ:List (Option V))(H:Hp)(s:D1):Prop where
 ok:X.Ok
 os:s.os=X.s₀.os
 bare:NY s.gens
 base:Un X.fs X.ex X.H₀ H X.s₀.heap s.heap
 loc:∃m,s.heap.Ns X.env.locals m/\∀(i:Nat) (x:Str) (v:V),X.N[i]?=E x->σ[i]?=E (E v)->Vis X.env.scope x->∃u,RelV v u/\DQ X.env s.heap m x u
 cell:∀x c,X.env.cells.lookup x=E c->∃v,s.heap.IsCell c v
 free:H X.env.locals=Z
 freeC:∀x c,X.env.cells.lookup x=E c->H c=Z
 pin:∀p∈X.pn++pins,s.heap.get? p.1=E p.2/\H p.1=Z/\p.1≠X.env.locals/\p.1∉X.fs/\∀v,p.2.data≠.cell v
 hok:HOk X.prog X.w H s.heap
 len:σ.length=X.N.length
section
variable{X:Cx}{pins:List (SS×Obj)}{σ:List (Option V)}{H H':Hp}{s:D1}{h':Heap}
theorem Cx.Ok.nofr(ok:X.Ok){o:Obj}(e:X.base.get? b=E o):b∉X.fs:=λj=>by have:=(ok.funs.mem j).1;rw[e]at this;cases this
theorem Inv.bs(I:Inv X pins σ H s):∀b o,X.base.get? b=E o->s.heap.get? b=E o/\H b=Z:=λb o e=>⟨I.base.keep b o (I.ok.bs b o e).1 (I.ok.bs b o e).2 (I.ok.nofr e) (I.ok.noex b o e),I.base.free b o (I.ok.bs b o e).1 (I.ok.bs b o e).2 (I.ok.noex b o e)⟩
theorem Inv.bk(I:Inv X pins σ H s):∀b o,X.base.get? b=E o->s.heap.get? b=E o:=λb o e=>(I.bs b o e).1
theorem Inv.mod(I:Inv X pins σ H s):Mod X.K X.mg X.base:=I.ok.mod
theorem Inv.kIn(I:Inv X pins σ H s):X.K.In s.heap:=I.ok.mod.kin.keeps I.bk
theorem Inv.fr(I:Inv X pins σ H s):∃m,Fr X.base X.env.locals s.heap m:=
 let⟨m,j,_⟩:=I.loc
 ⟨m,j,I.bk,IW I.ok.bsz I.ok.above⟩
theorem Inv.lt(I:Inv X pins σ H s):X.env.locals<s.heap.objs.size:=let⟨_,j,_⟩:=I.loc;j.lt
theorem Inv.sz(I:Inv X pins σ H s):X.s₀.heap.objs.size<=s.heap.objs.size:=IW I.ok.above (LS I.lt)
theorem Inv.nofs(I:Inv X pins σ H s)(h:s.heap.objs.size<=a):a∉X.fs:=λj=>by obtain⟨_,o,ho,_⟩:=I.ok.funs.mem j;exact absurd (IM (Ig ho) (IW I.sz h)) (JJ _)
theorem Inv.cne(I:Inv X pins σ H s):∀x c,X.env.cells.lookup x=E c->c≠X.env.locals:=λx c e z=>by obtain⟨v,o,ho,hd⟩:=I.cell x c e;obtain⟨m,⟨o',es,ep,j,B,_⟩,_⟩:=I.loc;rw[z,j]at ho;cases ho;rw[B]at hd;cases hd
theorem Inv.funs(I:Inv X pins σ H s):s.heap.FunFrames X.base X.outer:=by
 have all:∀(l:List Env),(∀b∈frs l,b∈X.fs)->X.s₀.heap.FunFrames X.base l->s.heap.FunFrames X.base l:=by
  intro l
  induction l with
  |nil=>intro _ _;trivial
  |cons env r ih=>
   intro hs F;obtain⟨J,⟨L,o,hf,O,ho,hd⟩,U⟩:=F;have j:L∈X.fs:=hs L (by unfold frs;rw[Nu,hf];exact I0)
   obtain⟨sl,e⟩:=I.base.slot L o ho (I.ok.frf L j) j λz=>I.ok.exfs L z j;exact⟨J,⟨L,_,hf,O,e,hd⟩,ih (λb B=>hs b (by unfold frs;rw[Nu,hf];exact HR _ B)) U⟩
 exact all X.outer (λ_ B=>B) I.ok.funs
theorem Inv.stack(I:Inv X pins σ H s):s.heap.FunFrames X.base X.stack:=by
 rcases I.ok.stk with e|⟨e,hf⟩
 ·rw[e];exact I.funs
 ·rw[e];obtain⟨m,j,_⟩:=I.loc;refine .cons (by rw[I.ok.kind];decide) hf j ?_ I.funs
  exact Heap.get?_none_of_le (IW I.ok.bsz I.ok.above)
theorem Inv.stkSub(I:Inv X pins σ H s):∀b∈frs X.stack,b∈X.env.locals::X.fs:=λb j=>by
 rcases I.ok.stk with e|⟨e,hf⟩
 ·rw[e]at j;exact HR _ j
 ·rw[e]at j;unfold frs at j;rw[Nu,hf]at j;exact j
theorem Inv.stkFree(I:Inv X pins σ H s):∀b∈frs X.stack,H b=Z:=λb j=>by
 rcases Ij.mp (I.stkSub b j)with e|j
 ·rw[e];exact I.free
 ·obtain⟨_,o,ho,_⟩:=I.ok.funs.mem j;exact I.base.free b o ho (I.ok.frf b j) λz=>I.ok.exfs b z j
theorem Inv.step{g':Array GenState}{d':Drawn}{ch:List SS}(I:Inv X pins σ H s)(j:∀b∈ch,(b∈X.ex∨X.s₀.heap.objs.size<=b)/\b≠X.env.locals/\(∀x c,X.env.cells.lookup x=E c->c≠b)/\∀p∈X.pn++pins,p.1≠b)(keep:∀b o,b≠X.env.locals->b∉X.fs->b∉ch->s.heap.get? b=E o->H b=Z->h'.get? b=E o)(slot:∀b o,b≠X.env.locals->b∈X.fs->b∉ch->s.heap.get? b=E o->H b=Z->∃sl,h'.get? b=E {o with slots:=sl})(free:∀b o,b∉ch->s.heap.get? b=E o->H b=Z->H' b=Z)(there:∀b o,b∉ch->s.heap.get? b=E o->∃o',h'.get? b=E o')(tups:∀b xs,H b=E (.tup xs)->H' b=E (.tup xs))(frzs:∀b o u,H b=E (.frz o u)->H' b=E (.frz o u))(tbls:∀b ps,H b=E (.tbl ps)->∃more,H' b=E (.tbl (ps++more)))(ns:∀m,s.heap.Ns X.env.locals m->h'.Ns X.env.locals m)(hok:HOk X.prog X.w H' h')(U:NY g'):
 Inv X pins σ H' {s with heap:=h',gens:=g',drawn:=d',toks:=t'}:=by
 have neL:∀b o,X.s₀.heap.get? b=E o->b≠X.env.locals:=λb o e=>IU (IM (Ig e) I.ok.above);have neC:∀b o,X.s₀.heap.get? b=E o->b∉X.ex->b∉ch:=λb o e hx F=>by
  rcases(j b F).1 with z|z
  ·exact hx z
  ·exact absurd (IM (Ig e) z) (JJ _)
 have cellK:∀x c,X.env.cells.lookup x=E c->∀v,s.heap.IsCell c v->h'.IsCell c v:=λx c e v ⟨o,ho,hd⟩=>by
  have nch:c∉ch:=λz=>(j c z).2.2.1 x c e rfl
  by_cases L:c∈X.fs
  ·obtain⟨sl,q⟩:=slot c o (I.cne x c e) L nch ho (I.freeC x c e);exact⟨_,q,hd⟩
  ·exact⟨o,keep c o (I.cne x c e) L nch ho (I.freeC x c e),hd⟩
 refine⟨I.ok,I.os,U,⟨λb o e n F hx=>?_,λb o e n F hx=>?_,λb o e n hx=>?_,λb o e hx=>?_,λb xs e=>tups b xs (I.base.tups b xs e),λb o xs e=>frzs b o xs (I.base.frzs b o xs e),λb ps e=>?_⟩,?_,λx c e=>?_,?_,λx c e=>?_,λp O=>?_,hok,I.len⟩
 ·exact keep b o (neL b o e) F (neC b o e hx) (I.base.keep b o e n F hx) (I.base.free b o e n hx)
 ·obtain⟨sl,B⟩:=I.base.slot b o e n F hx;obtain⟨sl',J⟩:=slot b _ (neL b o e) F (neC b o e hx) B (I.base.free b o e n hx);exact⟨sl',J⟩
 ·obtain⟨o',B⟩:=I.base.there b o e hx;exact free b o' (neC b o e hx) B (I.base.free b o e n hx)
 ·obtain⟨o',B⟩:=I.base.there b o e hx;exact there b o' (neC b o e hx) B
 ·obtain⟨Y,B⟩:=I.base.tbls b ps e;obtain⟨F2,J⟩:=tbls b _ B;exact⟨Y++F2,by rw[J,Qe]⟩
 ·obtain⟨m,hn,hl⟩:=I.loc;refine⟨m,ns m hn,λi x v B J e3=>?_⟩;obtain⟨u,r,l⟩:=hl i x v B J e3;refine⟨u,r,?_⟩
  rcases l with l|⟨k,c,e,z⟩
  ·exact .inl l
  ·exact .inr ⟨k,c,e,cellK x c e _ z⟩
 ·obtain⟨v,z⟩:=I.cell x c e;exact⟨v,cellK x c e v z⟩
 ·obtain⟨m,⟨o,_,_,ho,_⟩,_⟩:=I.loc;exact free _ o (λz=>(j _ z).2.1 rfl) ho I.free
 ·obtain⟨v,o,ho,hd⟩:=I.cell x c e;exact free c o (λz=>(j c z).2.2.1 x c e rfl) ho (I.freeC x c e)
 ·obtain⟨e,n,ne,nf,d⟩:=I.pin p O;have nch:p.1∉ch:=λz=>(j p.1 z).2.2.2 p O rfl;exact⟨keep p.1 p.2 ne nf nch e n,free p.1 p.2 nch e n,ne,nf,d⟩
theorem Inv.un(I:Inv X pins σ H s)(u:Un X.fs [] H H' s.heap h')(hok:HOk X.prog X.w H' h'):Inv X pins σ H' {s with heap:=h',toks:=t'}:=by
 obtain⟨m,⟨o,es,ep,ho,r⟩,_⟩:=id I.loc;obtain⟨sl,F⟩:=u.any ho I.free (by simp)
 exact I.step (g':=s.gens) (d':=s.drawn) (ch:=[]) (λ_ z=>nomatch z) (λb o _ B _ e n=>u.keep b o e n B (by simp)) (λb o _ B _ e n=>u.slot b o e n B (by simp)) (λb o _ e n=>u.free b o e n (by simp)) (λb o _ e=>u.there b o e (by simp)) u.tups u.frzs u.tbls (λm' hm=>by obtain⟨o',es',ep',j,r'⟩:=hm;rw[ho]at j;cases j;exact⟨_,es',ep',F,r'⟩) hok I.bare
theorem Inv.call{g':Array GenState}{d':Drawn}{ch:List SS}(I:Inv X pins σ H s)(u:Un (frs X.stack) ch H H' s.heap h')(hok:HOk X.prog X.w H' h')(L:NY g')(B:∀b∈ch,(b∈X.ex∨X.s₀.heap.objs.size<=b)/\b≠X.env.locals/\(∀x c,X.env.cells.lookup x=E c->c≠b)/\∀p∈X.pn++pins,p.1≠b):
 Inv X pins σ H' {s with heap:=h',gens:=g',drawn:=d',toks:=t'}:=by
 obtain⟨m,⟨o,es,ep,ho,r⟩,_⟩:=id I.loc;obtain⟨sl,J⟩:=u.any ho I.free λz=>(B _ z).2.1 rfl;exact I.step (ch:=ch) B (λb o J O j e n=>u.keep b o e n (λz=>(Ij.mp (I.stkSub b z)).elim J O) j) (λb o _ _ j e n=>u.any e n j) (λb o j e n=>u.free b o e n j) (λb o j e=>u.there b o e j) u.tups u.frzs u.tbls (λm' hm=>by obtain⟨o',es',ep',F,r'⟩:=hm;rw[ho]at F;cases F;exact⟨_,es',ep',J,r'⟩) hok L
theorem Inv.turned{it:SS}(I:Inv X pins σ H s)(k:∀b o,b≠it->s.heap.get? b=E o->h'.get? b=E o)(F:H it=Z)(B:it≠X.env.locals)(h1:it∈X.ex∨X.s₀.heap.objs.size<=it)(h2:∀x c,X.env.cells.lookup x=E c->c≠it)(J:∀p∈X.pn++pins,p.1≠it):Inv X pins σ H {s with heap:=h',toks:=t'}:=by
 have nit:∀b u,H b=E u->b≠it:=λb u e z=>by rw[z,F]at e;cases e
 refine I.step (g':=s.gens) (d':=s.drawn) (ch:=[it]) (λb L=>?_) (λb o _ _ j e _=>k b o (λz=>j (by simp[z])) e) (λb o _ _ j e _=>⟨o.slots,k b o (λz=>j (by simp[z])) e⟩) (λ_ _ _ _ n=>n)
  (λb o j e=>⟨o,k b o (λz=>j (by simp[z])) e⟩) (λ_ _ e=>e) (λ_ _ _ e=>e) (λb ps e=>⟨#[],by rw[e];simp⟩) (λm hm=>?_) (λb u e=>?_) I.bare
 ·have e:b=it:=by simpa using L
  subst e;exact⟨h1,B,h2,J⟩
 ·obtain⟨o,es,ep,ho,r⟩:=hm;exact⟨o,es,ep,k _ o (Ne.symm B) ho,r⟩
 ·refine(I.hok b u e).stay (λc v j q=>k c v ?_ q) (λ_ q=>q) λ_ _ q=>q
  rcases j with z|z
  ·rw[z];exact nit b u e
  ·exact nit c _ z
theorem Inv.tok(I:Inv X pins σ H s)(t:Nat):Inv X pins σ H {s with toks:=t}:=I.un (h':=s.heap) (t':=t) Un.refl I.hok
theorem Inv.kept(I:Inv X pins σ H s)(k:∀b u,s.heap.get? b=E u->h'.get? b=E u):Inv X pins σ H {s with heap:=h',toks:=t'}:=I.un (Un.kept k) (I.hok.kept k)
theorem Inv.laid(I:Inv X pins σ H s)(k:∀b u,s.heap.get? b=E u->h'.get? b=E u)(j:s.heap.objs.size<=a)(new:ObjOk X.prog X.w (upd H a o) h' a o):Inv X pins σ (upd H a o) {s with heap:=h',toks:=t'}:=I.un (Un.laid k j (I.hok.fresh j)) (I.hok.laid k j new)
theorem Inv.write{x e:SS}(I:Inv X pins σ H s)(mu:Mut (H x))(he:e=x∨H e=E (.own x))(k:∀b u,b≠e->s.heap.get? b=E u->h'.get? b=E u)(j:∃u,h'.get? e=E u)(new:ObjOk X.prog X.w (upd H x o) h' x o):Inv X pins σ (upd H x o) {s with heap:=h',toks:=t'}:=I.un (Un.write mu he k j) (I.hok.write mu he k j new)
theorem Inv.pins_of{pins':List (SS×Obj)}(I:Inv X pins σ H s)(h:∀p∈pins',s.heap.get? p.1=E p.2/\H p.1=Z/\p.1≠X.env.locals/\p.1∉X.fs/\∀v,p.2.data≠.cell v):Inv X pins' σ H s:=⟨I.ok,I.os,I.bare,I.base,I.loc,I.cell,I.free,I.freeC,λp j=>(Ie.mp j).elim (λz=>I.pin p (Km _ z)) (h p),I.hok,I.len⟩
theorem mP(z:N.Nodup){j:Nat}(a:N[i]?=E x)(b:N[j]?=E x):i=j:=by obtain⟨h1,B⟩:=HU.mp a;obtain⟨h2,F⟩:=HU.mp b;exact(List.getElem_inj z).mp (B.trans F.symm)
theorem sX{fv:q7->D1->Prop}{Q:Unit->D1->Prop}(I:Inv X pins σ H s)(hN:X.N.Nodup)(hi:X.N[i]?=E x)(hx:Loc X.env.scope x)(r:RelV v u)(h:∀s',Inv X pins (σ.set i (E v)) H s'->(∃a,JV a s.heap s'.heap/\(a=X.env.locals∨X.env.cells.lookup x=E a))->Q () s')(hf:X.fn x=N2∨X.env.scope.names.lookup x=E .local:=by first|exact .inl rfl|exact .inr rfl|assumption):Ik M A (storeName X.env x u) Q fv s:=by
 obtain⟨m,hn,hl⟩:=id I.loc;have Gp:(X.env.scope.kind==.class || (X.env.scope.kind==.module&&X.env.locals != X.env.globals))=R9:=by rw[I.ok.kind];rfl
 have Gq:i<σ.length:=by rw[I.len];exact(HU.mp hi).1
 have cne:=I.cne;have tracked:∀{a:SS} {h':Heap},(∃o,s.heap.get? a=E o/\H a=Z)->JV a s.heap h'->HOk X.prog X.w H h':=λ{a h'} ha hs b ob e=>by
  obtain⟨_,_,J⟩:=ha;refine(I.hok b ob e).stay (λc w' F q=>(hs.2 c ?_).trans q) (λ_ q=>q) λ_ _ q=>q;rintro rfl
  rcases F with rfl|F
  ·rw[J]at e;cases e
  ·rw[J]at F;cases F
 rcases hx with O|O
 ·refine wpAny_storeName_local O hn (λh' Gw hs=>?_) Gp;obtain⟨oL,_,_,Gx,_⟩:=id hn;refine h _ ⟨I.ok,I.os,I.bare,⟨λb o e n U hx=>?_,λb o e n U hx=>?_,I.base.free,λb o e hx=>?_,I.base.tups,I.base.frzs,I.base.tbls⟩,⟨_,Gw,λj y v' B L e3=>?_⟩,λy c e=>?_,I.free,I.freeC,λp hp=>?_,tracked ⟨oL,Gx,I.free⟩ hs,by simpa using I.len⟩ ⟨_,hs,.inl rfl⟩
  ·exact(hs.2 b (IU (IM (Ig e) I.ok.above))).trans (I.base.keep b o e n U hx)
  ·obtain⟨sl,B⟩:=I.base.slot b o e n U hx;exact⟨sl,(hs.2 b (IU (IM (Ig e) I.ok.above))).trans B⟩
  ·obtain⟨o',B⟩:=I.base.there b o e hx;exact⟨o',(hs.2 b (IU (IM (Ig e) I.ok.above))).trans B⟩
  ·by_cases Y:j=i
   ·subst Y;rw[hi]at B;cases B;rw[JM Gq]at L
    cases L
    exact⟨u,r,.inl ⟨O,by simp⟩⟩
   ·rw[Ko (Ne.symm Y)]at L;obtain⟨u',r',q⟩:=hl j y v' B L e3;refine⟨u',r',?_⟩
    rcases q with⟨k,e⟩|⟨k,c,e,z⟩
    ·refine .inl ⟨k,?_⟩;have:y≠x:=λe=>Y (mP hN B (e▸hi));simp[this,e]
    ·exact .inr ⟨k,c,e,z.sameBut hs (cne y c e)⟩
  ·obtain⟨w',z⟩:=I.cell y c e;exact⟨w',z.sameBut hs (cne y c e)⟩
  ·obtain⟨e,n,ne,nf,d⟩:=I.pin p hp;exact⟨(hs.2 p.1 ne).trans e,n,ne,nf,d⟩
 ·have F2:X.fn x=N2:=by
   rcases hf with z|z
   ·exact z
   ·rw[z]at O;cases O
  obtain⟨c,F⟩:=I.ok.has x (.inl O);obtain⟨w',z⟩:=I.cell x c F;refine wpAny_storeName_cell I.ok.kind O F z (λh' Gr hs=>?_);obtain⟨oc,Gs,Gu⟩:=id z;refine h {s with heap:=h'} ⟨I.ok,I.os,I.bare,⟨λb o e n U hx=>?_,λb o e n U hx=>?_,I.base.free,λb o e hx=>?_,I.base.tups,I.base.frzs,I.base.tbls⟩,⟨m,hn.sameBut hs (Ne.symm (cne x c F)),λj y v' B L e3=>?_⟩,λy c' e=>?_,I.free,I.freeC,λp hp=>?_,tracked ⟨oc,Gs,I.freeC x c F⟩ hs,by simpa using I.len⟩ ⟨c,hs,.inr F⟩
  ·exact(hs.2 b (IU (IM (Ig e) (I.ok.cab x c F2 F)))).trans (I.base.keep b o e n U hx)
  ·obtain⟨sl,B⟩:=I.base.slot b o e n U hx;exact⟨sl,(hs.2 b (IU (IM (Ig e) (I.ok.cab x c F2 F)))).trans B⟩
  ·obtain⟨o',B⟩:=I.base.there b o e hx;exact⟨o',(hs.2 b (IU (IM (Ig e) (I.ok.cab x c F2 F)))).trans B⟩
  ·by_cases Y:j=i
   ·subst Y;rw[hi]at B;cases B;rw[JM Gq]at L
    cases L
    exact⟨u,r,.inr ⟨.inl O,c,F,Gr⟩⟩
   ·rw[Ko (Ne.symm Y)]at L;obtain⟨u',r',q⟩:=hl j y v' B L e3;refine⟨u',r',?_⟩
    rcases q with q|⟨k,c',e,z'⟩
    ·exact .inl q
    ·refine .inr ⟨k,c',e,z'.sameBut hs ?_⟩;rintro rfl;exact Y (mP hN B (I.ok.inj _ _ _ e F▸hi))
  ·by_cases Gv:c'=c
   ·subst Gv;exact⟨_,Gr⟩
   ·obtain⟨w2,z2⟩:=I.cell y c' e;exact⟨w2,z2.sameBut hs Gv⟩
  ·obtain⟨e,n,ne,nf,d⟩:=I.pin p hp;refine⟨(hs.2 p.1 ?_).trans e,n,ne,nf,d⟩;intro q;rw[q,Gs]at e;have q':oc=p.2:=Ir.inj e;exact d w' (by rw[<-q'];exact Gu)
theorem eX{fv:q7->D1->Prop}{Q:Unit->D1->Prop}(I:Inv X pins σ H s)(j:X.N.Nodup)(hi:X.N[i]?=E x)(hx:Loc X.env.scope x)(r:RelV v u)(h:∀s',Inv X pins (σ.set i (E v)) H s'->Q () s')(hf:X.fn x=N2∨X.env.scope.names.lookup x=E .local:=by first|exact .inl rfl|exact .inr rfl|assumption):Ik M A (storeName X.env x u) Q fv s:=sX I j hi hx r (λs' I' _=>h s' I') hf
theorem Inv.call'{s':D1}{ch:List SS}(I:Inv X pins σ H s)(ho:s'.os=s.os)(u:Un (frs X.stack) ch H H' s.heap s'.heap)(hok:HOk X.prog X.w H' s'.heap)(z:NY s'.gens)(j:∀b∈ch,(b∈X.ex∨X.s₀.heap.objs.size<=b)/\b≠X.env.locals/\(∀x c,X.env.cells.lookup x=E c->c≠b)/\∀p∈X.pn++pins,p.1≠b):Inv X pins σ H' s':=by obtain⟨h',g',d',t',o'⟩:=s';have e:o'=s.os:=ho;subst e;exact I.call (g':=g') (t':=t') (d':=d') u hok z j
end
noncomputable abbrev XK:=q7->Option SS->Hp->Prop
noncomputable abbrev St:=List (Option V)
noncomputable abbrev VK:=V->Hp->Prop
noncomputable abbrev TE:=St->Hp->VK->Prop
noncomputable abbrev TT:=St->Hp->(Bool->Hp->Prop)->Prop
noncomputable abbrev TA:=St->Hp->(List V->Hp->Prop)->Prop
structure bN where
 nx:St->Hp->Prop
 rt:VK
 bk:St->Hp->Prop:=λ_ _=>False
 ct:St->Hp->Prop:=λ_ _=>False
noncomputable abbrev TS:=bN->St->Hp->Prop
def EP(X:Cx)(pins:List (SS×Obj))(σ:St)(Q:VK)(u:q7)(s':D1):Prop:=∃v H',Inv X pins σ H' s'/\RelV v u/\Q v H'
def TP(X:Cx)(pins:List (SS×Obj))(σ:St)(Q:Bool->Hp->Prop)(b:Bool)(s':D1):Prop:=∃H',Inv X pins σ H' s'/\Q b H'
def AP(X:Cx)(pins:List (SS×Obj))(σ:St)(Q:List V->Hp->Prop)(us:List q7)(s':D1):Prop:=∃vs H',Inv X pins σ H' s'/\Vals vs us/\Q vs H'
def SP(X:Cx)(pins:List (SS×Obj))(D:bN)(f:Flow)(s':D1):Prop:=
 match f with
 |.next=>∃σ' H',Inv X pins σ' H' s'/\D.nx σ' H'
 |.brk=>∃σ' H',Inv X pins σ' H' s'/\D.bk σ' H'
 |.cont=>∃σ' H',Inv X pins σ' H' s'/\D.ct σ' H'
 |.ret u=>∃v σ' H',Inv X pins σ' H' s'/\RelV v u/\D.rt v H'
def PE(X:Cx)(e:Expr)(t:TE):Prop:=∀(pins:List (SS×Obj)) (s:D1) (σ:St) (H:Hp) (Q:VK),Inv X pins σ H s->t σ H Q->Ik (model X.prog X.w) X.A (eval e X.env) (EP X pins σ Q) X.xe s
def PT(X:Cx)(e:Expr)(t:TT):Prop:=∀(pins:List (SS×Obj)) (s:D1) (σ:St) (H:Hp) (Q:Bool->Hp->Prop),Inv X pins σ H s->t σ H Q->Ik (model X.prog X.w) X.A (isTrue e X.env (eval e X.env)) (TP X pins σ Q) X.xe s
def PW(X:Cx)(e:Expr)(t:TT):Prop:=∀(whole:Sem q7) (pins:List (SS×Obj)) (s:D1) (σ:St) (H:Hp) (Q:Bool->Hp->Prop),Inv X pins σ H s->t σ H Q->Ik (model X.prog X.w) X.A (isTrue e X.env whole) (TP X pins σ Q) X.xe s
theorem PW.pt{X:Cx}{t:TT}(h:PW X e t):PT X e t:=h _
def PA(X:Cx)(es:List Expr)(t:TA):Prop:=∀(pos:Pos) (pins:List (SS×Obj)) (s:D1) (σ:St) (H:Hp) (Q:List V->Hp->Prop),Inv X pins σ H s->t σ H Q->Ik (model X.prog X.w) X.A (spliced (Ms pos (IG es X.env))) (AP X pins σ Q) X.xe s
def PS(X:Cx)(st:Stmt)(t:TS):Prop:=∀(pins:List (SS×Obj)) (s:D1) (σ:St) (H:Hp) (D:bN),Inv X pins σ H s->t D σ H->Ik (model X.prog X.w) X.A (exec st X.env) (SP X pins D) X.xe s
def PSs(X:Cx)(st:List Stmt)(t:TS):Prop:=∀(pins:List (SS×Obj)) (s:D1) (σ:St) (H:Hp) (D:bN),Inv X pins σ H s->t D σ H->Ik (model X.prog X.w) X.A (execs st X.env) (SP X pins D) X.xe s
theorem thn{α:Type}{t:Sem α}{Q Q':α->D1->Prop}{fv:q7->D1->Prop}(h:Ik M A t Q fv s)(j:∀a s,Q a s->Q' a s):Ik M A t Q' fv s:=Kf h j λ_ _ x=>x
end
variable{X:Cx}{pos:Pos}{pins:List (SS×Obj)}{σ:St}{c:Expr}
section
section
variable{X:Cx}
noncomputable def DR(i:Nat):TE:=λσ H Q=>∃v,σ[i]?=E (E v)/\Q v H
noncomputable def tC(v:V):TE:=λ_ H Q=>Q v H
theorem Au(J:X.N[i]?=E x)(L:Vis X.env.scope x)(hd:(x==("__debug__":Str))=R9:=by decide)(B:(x==("__classdict__":Str))=R9:=by decide):PE X (.Name x pos) (DR i):=by
 intro pins s σ H Q I h;obtain⟨v,e,h⟩:=h;obtain⟨m,O,U⟩:=I.loc;obtain⟨u,r,l⟩:=U i x v J e L;have fin:EP X pins σ Q u s:=⟨v,H,I,r,h⟩
 rcases l with⟨z,hm⟩|⟨z,c,F,j⟩
 ·exact RL (P9 I.ok.kind z O hm fin) hd
 ·rcases z with z|z
  ·exact RL (PN I.ok.kind z F j fin) hd
  ·exact RL (wpAny_loadName_free I.ok.kind z F j fin B) hd
theorem Av{i j pos}:PE X (.Constant (.int i) j pos) (tC (.int i)):=λ_ _ _ H _ I h=>wpAny_Constant_int ⟨.int i,H,I.tok _,⟨_,rfl⟩,h⟩
theorem Cu{b j pos}:PE X (.Constant (.bool b) j pos) (tC (.bl b)):=λ_ _ _ H _ I h=>Constant_bool ⟨.bl b,H,I,rfl,h⟩
theorem Aw{j pos}:PE X (.Constant .none j pos) (tC .non):=λ_ _ _ H _ I h=>Constant_none ⟨.non,H,I,rfl,h⟩
theorem Ax{x j pos}:PE X (.Constant (.str x) j pos) (tC (.str x)):=λ_ _ _ H _ I h=>Calls.Constant_str ⟨.str x,H,I.tok _,⟨_,rfl⟩,h⟩
def Gl(X:Cx)(x:Str):Prop:=X.env.kindOf x=E .globalImplicit
theorem jG{fv Q:q7->D1->Prop}(I:Inv X pins σ H s)(j:Gl X x)(hm:X.mg x=E u)(h:Q u s)(hd:(x==("__debug__":Str))=R9:=by decide):Ik (model X.prog X.w) X.A (eval (.Name x pos) X.env) Q fv s:=NI I.ok.kind j (Calls.loadGlobal_global (by rw[I.ok.glob];exact I.mod.glob.keeps I.bk) hm h) hd
theorem cV{fv Q:q7->D1->Prop}(I:Inv X pins σ H s)(j:Gl X x)(hm:X.mg x=Z)(z:Nx x=E u)(h:Q u s)(B:x≠"__name__":=by decide)(hd:(x==("__debug__":Str))=R9:=by decide):Ik (model X.prog X.w) X.A (eval (.Name x pos) X.env) Q fv s:=by obtain⟨mb,h1,h2⟩:=I.mod.blt;exact NI I.ok.kind j (Calls.loadGlobal_builtin (by rw[I.ok.glob];exact I.mod.glob.keeps I.bk) hm (by rw[I.ok.blt];exact h1.keeps I.bk) ((h2 x B).trans z) h) hd
theorem yF(j:Gl X x)(hm:X.mg x=E u)(r:RelV v u)(hd:(x==("__debug__":Str))=R9:=by decide):PE X (.Name x pos) (tC v):=λ_ _ _ H _ I h=>jG I j hm ⟨v,H,I,r,h⟩ hd
variable{a b:Expr}{ta tb:TE}{pos:Pos}
variable{tA tB':TT}{rest:List Expr}
noncomputable def DS(t u:TT):TT:=λσ H Q=>t σ H λc H1=>if c=N2 then u σ H1 Q else Q R9 H1
noncomputable def tOr(t u:TT):TT:=λσ H Q=>t σ H λc H1=>if c=N2 then Q N2 H1 else u σ H1 Q
noncomputable def DT(t:TT):TT:=λσ H Q=>t σ H λc H1=>Q (!c) H1
theorem yG(j:PT X a tA):PW X (.BoolOp .And [a] pos) tA:=by
 intro wh pins s σ H Q I h;refine isTrue_and (thn (j pins s σ H Q I h) λc s1 e=>?_)
 cases c with
 |true=>exact isTrue_and_nil e
 |false=>exact e
theorem Ay(j:PT X a tA):PW X (.BoolOp .Or [a] pos) tA:=by
 intro wh pins s σ H Q I h;refine isTrue_or (thn (j pins s σ H Q I h) λc s1 e=>?_)
 cases c with
 |false=>exact isTrue_or_nil e
 |true=>exact e
theorem Az(B:PT X a tA)(F:PW X (.BoolOp .And (b::rest) pos) tB'):PW X (.BoolOp .And (a::b::rest) pos) (DS tA tB'):=by
 intro wh pins s σ H Q I h;refine isTrue_and (thn (B pins s σ H _ I h) λc s1 J=>?_);obtain⟨H1,j,z⟩:=J
 cases c with
 |true=>exact F wh pins s1 σ H1 Q j z
 |false=>exact⟨H1,j,z⟩
theorem Cv(B:PT X a tA)(F:PW X (.BoolOp .Or (b::rest) pos) tB'):PW X (.BoolOp .Or (a::b::rest) pos) (tOr tA tB'):=by
 intro wh pins s σ H Q I h;refine isTrue_or (thn (B pins s σ H _ I h) λc s1 J=>?_);obtain⟨H1,j,z⟩:=J
 cases c with
 |true=>exact⟨H1,j,z⟩
 |false=>exact F wh pins s1 σ H1 Q j z
theorem AA(j:PT X a tA):PT X (.UnaryOp .Not a pos) (DT tA):=by intro pins s σ H Q I h;exact isTrue_not (j pins s σ H (λc H1=>Q (!c) H1) I h)
noncomputable def Cw(ta tb:TE):TE:=λσ H Q=>ta σ H λx H1=>∃c,x=.bl c/\if c=N2 then tb σ H1 Q else Q (.bl R9) H1
noncomputable def DU(ta tb:TE):TE:=λσ H Q=>ta σ H λx H1=>∃c,x=.bl c/\if c=N2 then Q (.bl N2) H1 else tb σ H1 Q
noncomputable def Cy(ta:TE):TE:=λσ H Q=>ta σ H λx H1=>∃c,x=.bl c/\Q (.bl (!c)) H1
theorem AB{op}{t:TE}(h:PE X a t):PE X (.BoolOp op [a] pos) t:=λpins s σ H Q I hw=>BoolOp_one (h pins s σ H Q I hw)
theorem AC(B:PE X a ta)(F:PE X (.BoolOp .And (b::rest) pos) tb):PE X (.BoolOp .And (a::b::rest) pos) (Cw ta tb):=by
 intro pins s σ H Q I h;refine BoolOp_and (thn (B pins s σ H _ I h) λv s1 J=>?_);obtain⟨x,H1,z,L,j⟩:=J;obtain⟨c,rfl,j⟩:=j
 cases L
 refine L7 ?_
 cases c with
 |true=>exact F pins s1 σ H1 Q z j
 |false=>exact⟨.bl R9,H1,z,rfl,j⟩
theorem Cz(B:PE X a ta)(F:PE X (.BoolOp .Or (b::rest) pos) tb):PE X (.BoolOp .Or (a::b::rest) pos) (DU ta tb):=by
 intro pins s σ H Q I h;refine BoolOp_or (thn (B pins s σ H _ I h) λv s1 J=>?_);obtain⟨x,H1,z,L,j⟩:=J;obtain⟨c,rfl,j⟩:=j
 cases L
 refine L7 ?_
 cases c with
 |false=>exact F pins s1 σ H1 Q z j
 |true=>exact⟨.bl N2,H1,z,rfl,j⟩
theorem AD(z:PE X a ta):PE X (.UnaryOp .Not a pos) (Cy ta):=by
 intro pins s σ H Q I h;refine UnaryOp_ (thn (z pins s σ H _ I h) λv s1 B=>?_);obtain⟨x,H1,F,J,j⟩:=B;obtain⟨c,rfl,j⟩:=j
 cases J
 exact not_of (L7 ⟨.bl (!c),H1,F,rfl,j⟩)
noncomputable def tIf(t:TT)(ta tb:TE):TE:=λσ H Q=>t σ H λc H1=>if c=N2 then ta σ H1 Q else tb σ H1 Q
theorem vN(B:PT X c tA)(F:PE X a ta)(J:PE X b tb):PE X (.IfExp c a b pos) (tIf tA ta tb):=by
 intro pins s σ H Q I h;refine wpAny_IfExp (thn (B pins s σ H _ I h) λd s1 L=>?_);obtain⟨H1,j,z⟩:=L
 cases d with
 |true=>exact F pins s1 σ H1 Q j z
 |false=>exact J pins s1 σ H1 Q j z
end
end
variable{K:Frag}{tg:Expr}{ta:TA}{body:List Stmt}
section
def SqL(K:Frag)(H:Hp)(a:SS)(xs:List V):Prop:=
 Rd H a (.lst xs) ∨
  ∃(o:Obj) (its:Array q7) (n:Nat),K.lookup a=E o/\o.cls=.type "list"/\o.dict=Z/\o.data=.seq its n/\its.size<=HZ/\Vals xs its.toList
def SqT(K:Frag)(H:Hp)(a:SS)(xs:List V):Prop:=
 Rd H a (.tup xs) ∨
  ∃(o:Obj) (its:Array q7) (n:Nat),K.lookup a=E o/\o.cls=.type "tuple"/\o.data=.seq its n/\its.size<=HZ/\Vals xs its.toList
noncomputable def DV:q7->Option V
 |.none=>E .non
 |.bool b=>E (.bl b)
 |.int i _=>E (.int i)
 |.str x _=>E (.str x)
 |.bytes b _=>E (.byt b)
 |.float b _=>E (.flt b)
 |.ref a=>E (.ref a)
 |.type n=>E (.ty n)
 |_=>Z
theorem RelV.abs{x:V}(r:RelV x u):DV u=E x:=by
 cases x with
 |non=>cases r;rfl
 |bl _=>cases r;rfl
 |int _=>obtain⟨t,rfl⟩:=r;rfl
 |str _=>obtain⟨t,rfl⟩:=r;rfl
 |byt _=>obtain⟨t,rfl⟩:=r;rfl
 |flt _=>obtain⟨t,rfl⟩:=r;rfl
 |ref _=>cases r;rfl
 |ty _=>cases r;rfl
theorem RelV.inj{x y:V}(r:RelV x u)(q:RelV y u):x=y:=Ir.inj (r.abs.symm.trans q.abs)
theorem Vals.inj:∀{xs ys:List V} {us:List q7},Vals xs us->Vals ys us->xs=ys
 |_,_,_,.nil,.nil=>rfl
 |_,_,_,.cons r t,.cons r' t'=>by rw[r.inj r',Vals.inj t t']
section
variable{X:Cx}{pins:List (SS×Obj)}{σ:St}{H:Hp}{s:D1}{a:SS}{xs ys:List V}
theorem SqL.of(h:H a=E (.lst xs)):SqL K H a xs:=.inl (.inl h)
theorem SqT.of(h:H a=E (.tup xs)):SqT K H a xs:=.inl (.inl h)
theorem Inv.list(I:Inv X pins σ H s)(h:SqL X.K H a xs):∃its:List q7,Vals xs its/\PlainL s.heap a its.toArray/\xs.length<=HZ:=by
 rcases h with h|⟨o,its,n,j,B,hd,hs,F,r⟩
 ·obtain⟨z,its,n,r,e⟩:=h.ok I.hok;exact⟨its,r,⟨_,n,e,rfl,rfl,rfl⟩,z⟩
 ·refine⟨its.toList,r,⟨o,n,I.kIn a o j,B,hd,by simpa using hs⟩,?_⟩
  have e:=r.length;simp only[Jw]at e;lia
theorem Inv.tuple(I:Inv X pins σ H s)(h:SqT X.K H a xs):∃its:List q7,Vals xs its/\IsTup s.heap a its.toArray/\xs.length<=HZ:=by
 rcases h with h|⟨o,its,n,j,B,hs,F,r⟩
 ·obtain⟨z,its,r,p⟩:=h.ok I.hok;exact⟨its,r,p,z⟩
 ·refine⟨its.toList,r,⟨o,I.kIn a o j,B,n,by simpa using hs⟩,?_⟩
  have e:=r.length;simp only[Jw]at e;lia
theorem Inv.list_inj(I:Inv X pins σ H s)(h:SqL X.K H a xs)(h':SqL X.K H a ys):xs=ys:=by
 obtain⟨its,r,⟨o,n,e,_,_,d⟩,_⟩:=I.list h;obtain⟨its',r',⟨o',n',e',_,_,d'⟩,_⟩:=I.list h';rw[e]at e';cases e';rw[d]at d'
 injection d' with d1 _
 have:its=its':=by simpa using congrArg OE d1
 subst this;exact r.inj r'
theorem Inv.tuple_inj(I:Inv X pins σ H s)(h:SqT X.K H a xs)(h':SqT X.K H a ys):xs=ys:=by
 obtain⟨its,r,⟨o,e,_,n,d⟩,_⟩:=I.tuple h;obtain⟨its',r',⟨o',e',_,n',d'⟩,_⟩:=I.tuple h';rw[e]at e';cases e';rw[d]at d'
 injection d' with d1 _
 have:its=its':=by simpa using congrArg OE d1
 subst this;exact r.inj r'
end
noncomputable abbrev Cx.wish(X:Cx)(fv:q7->D1->Prop):Cx:={X with xe:=fv}
noncomputable abbrev Cx.nox(X:Cx):Cx:=X.wish λ_ _=>False
theorem Cx.Ok.wish(ok:X.Ok)(fv:q7->D1->Prop):(X.wish fv).Ok:=⟨ok.mod,ok.kind,ok.glob,ok.blt,ok.above,ok.inj,ok.has,ok.cab,ok.hd,ok.frames,ok.stk,ok.exf,ok.bs,ok.bsz,ok.noex,ok.exfs,ok.funs,ok.frf⟩
theorem Cx.Ok.unwish{fv:q7->D1->Prop}(ok:(X.wish fv).Ok):X.Ok:=⟨ok.mod,ok.kind,ok.glob,ok.blt,ok.above,ok.inj,ok.has,ok.cab,ok.hd,ok.frames,ok.stk,ok.exf,ok.bs,ok.bsz,ok.noex,ok.exfs,ok.funs,ok.frf⟩
section
variable{X:Cx}{pins:List (SS×Obj)}{σ:St}{H:Hp}{s:D1}{fv:q7->D1->Prop}
theorem Inv.wish(I:Inv X pins σ H s)(fv:q7->D1->Prop):Inv (X.wish fv) pins σ H s:=⟨I.ok.wish fv,I.os,I.bare,I.base,I.loc,I.cell,I.free,I.freeC,I.pin,I.hok,I.len⟩
theorem Inv.unwish(I:Inv (X.wish fv) pins σ H s):Inv X pins σ H s:=⟨I.ok.unwish,I.os,I.bare,I.base,I.loc,I.cell,I.free,I.freeC,I.pin,I.hok,I.len⟩
theorem SP.unwish{D:bN}{f:Flow}{s':D1}(h:SP (X.wish fv) pins D f s'):SP X pins D f s':=by
 cases f with
 |next=>obtain⟨σ',H',I,q⟩:=h;exact⟨σ',H',I.unwish,q⟩
 |brk=>obtain⟨σ',H',I,q⟩:=h;exact⟨σ',H',I.unwish,q⟩
 |cont=>obtain⟨σ',H',I,q⟩:=h;exact⟨σ',H',I.unwish,q⟩
 |ret u=>obtain⟨v,σ',H',I,r,q⟩:=h;exact⟨v,σ',H',I.unwish,r,q⟩
theorem PSs.nox{st:List Stmt}{t:TS}(h:PSs X.nox st t):PSs X st t:=λpins s σ H D I hw=>Kf (h pins s σ H D (I.wish _) hw) (λ_ _ q=>q.unwish) λ_ _ z=>False.elim z
end
section
variable{X:Cx}{st:Stmt}{rest:List Stmt}{t u:TS}{e:Expr}{te:TE}{pos:Pos}
noncomputable def qT:TS:=λD σ H=>D.nx σ H
noncomputable def AE(t u:TS):TS:=λD σ H=>t {D with nx:=u D} σ H
theorem yH:PSs X [] qT:=λ_ _ σ H _ I h=>OT ⟨σ,H,I,h⟩
theorem vO(h1:PS X st t)(h2:PSs X rest u):PSs X (st::rest) (AE t u):=by
 intro pins s σ H D I h;refine wpAny_execs_cons (thn (h1 pins s σ H {D with nx:=u D} I h) λf s1 q=>?_)
 cases f with
 |next=>obtain⟨σ',H',I',q⟩:=q;exact h2 pins s1 σ' H' D I' q
 |ret v=>exact q
 |brk=>exact q
 |cont=>exact q
noncomputable def sY:TS:=λD σ H=>D.bk σ H
noncomputable def xW:TS:=λD σ H=>D.ct σ H
theorem yI:PS X (.Pass pos) qT:=λ_ _ σ H _ I h=>wpAny_Pass ⟨σ,H,I,h⟩
theorem vP:PS X (.Break pos) sY:=λ_ _ σ H _ I h=>wpAny_Break ⟨σ,H,I,h⟩
theorem pF:PS X (.Continue pos) xW:=λ_ _ σ H _ I h=>wpAny_Continue ⟨σ,H,I,h⟩
theorem Inv.quiet(I:Inv X pins σ H s):interactive X.env=R9:=by simp[interactive,I.ok.kind]
noncomputable def xX(te:TE):TS:=λD σ H=>te σ H λ_ H1=>D.nx σ H1
theorem yJ(he:PE X e te)(hs:Mm e Z pos.line X.env=pure R9:=by rfl):PS X (.Expr e pos) (xX te):=by intro pins s σ H D I h;exact wpAny_Expr_any (thn (he pins s σ H _ I h) λv s1 j=>(by obtain⟨x,H1,z,F,B⟩:=j;exact⟨σ,H1,z,B⟩)) I.quiet hs
noncomputable def AF(te:TE):TS:=λD σ H=>te σ H D.rt
theorem AG(he:PE X e te):PS X (.Return (E e) pos) (AF te):=by intro pins s σ H D I h;exact wpAny_Return_some (thn (he pins s σ H _ I h) λv s1 j=>(by obtain⟨x,H1,z,B,F⟩:=j;exact⟨x,σ,H1,z,B,F⟩))
noncomputable def AH(c:TT)(t u:TS):TS:=λD σ H=>c σ H λb H1=>if b=N2 then t D σ H1 else u D σ H1
theorem CA{a b:List Stmt}{tc:TT}(B:PT X c tc)(F:PSs X a t)(J:PSs X b u):PS X (.If c a b pos) (AH tc t u):=by
 intro pins s σ H D I h;refine wpAny_If (thn (B pins s σ H _ I h) λd s1 L=>?_);obtain⟨H1,j,z⟩:=L
 cases d with
 |true=>exact F pins s1 σ H1 D j z
 |false=>exact J pins s1 σ H1 D j z
end
noncomputable abbrev TG:=V->St->Hp->(St->Hp->Prop)->Prop
noncomputable abbrev TGs:=List V->St->Hp->(St->Hp->Prop)->Prop
def PG(X:Cx)(target:Expr)(t:TG):Prop:=
 ∀(pins:List (SS×Obj)) (s:D1) (σ:St) (H:Hp) (v:V) (u:q7) (Q:St->Hp->Prop),Inv X pins σ H s->RelV v u->t v σ H Q->
  Ik (model X.prog X.w) X.A (assign target X.env u) (λ_ s'=>∃σ' H',Inv X pins σ' H' s'/\Q σ' H') X.xe s
def PGs(X:Cx)(ts:List Expr)(t:TGs):Prop:=
 ∀(pins:List (SS×Obj)) (s:D1) (σ:St) (H:Hp) (vs:List V) (us:List q7) (Q:St->Hp->Prop),Inv X pins σ H s->Vals vs us->t vs σ H Q->
  Ik (model X.prog X.w) X.A (Q0 ((Kg ts X.env).map (·.2)) us) (λ_ s'=>∃σ' H',Inv X pins σ' H' s'/\Q σ' H') X.xe s
noncomputable abbrev qU:=V->V->V->Hp->(Hp->Prop)->Prop
def PSet(X:Cx)(t:qU):Prop:=
 ∀(pins:List (SS×Obj)) (s:D1) (σ:St) (H:Hp) (o i v:V) (ov iv u:q7) (Q:Hp->Prop),Inv X pins σ H s->RelV o ov->RelV i iv->RelV v u->t o i v H Q->
  Ik (model X.prog X.w) X.A (setItem ov iv u) (λ_ s'=>∃H',Inv X pins σ H' s'/\Q H') X.xe s
noncomputable abbrev TIp:=V->V->Hp->VK->Prop
def PIp(X:Cx)(op:Mt)(t:TIp):Prop:=
 ∀(pins:List (SS×Obj)) (s:D1) (σ:St) (H:Hp) (x y:V) (v u:q7) (Q:VK),Inv X pins σ H s->RelV x v->RelV y u->t x y H Q->
  Ik (model X.prog X.w) X.A (Mn op v u) (EP X pins σ Q) X.xe s
section
variable{X:Cx}{pos:Pos}
noncomputable def iL(i:Nat):TG:=λv σ H Q=>Q (σ.set i (E v)) H
theorem pT(j:X.N.Nodup)(hi:X.N[i]?=E x)(hx:Loc X.env.scope x)(hf:X.fn x=N2∨X.env.scope.names.lookup x=E .local:=by first|exact .inl rfl|exact .inr rfl|assumption):PG X (.Name x pos) (iL i):=by intro pins s σ H v u Q I r h;exact wpAny_assign_Name (eX I j hi hx r (λs' I'=>⟨_,H,I',h⟩) hf)
noncomputable def DW:TGs:=λvs σ H Q=>vs=[]/\Q σ H
noncomputable def CB(t:TG)(u:TGs):TGs:=λvs σ H Q=>∃v r,vs=v::r/\t v σ H λσ' H'=>u r σ' H' Q
theorem yK:PGs X [] DW:=by
 intro pins s σ H vs us Q I r h;obtain⟨e,h⟩:=h;subst e
 cases r
 exact Qs ⟨σ,H,I,h⟩
theorem vQ{es:List Expr}{t:TG}{u:TGs}(h1:PG X e t)(h2:PGs X es u)(hs:(Kg (e::es) X.env).map (·.2)=assign e X.env::(Kg es X.env).map (·.2):=by rfl):PGs X (e::es) (CB t u):=by
 intro pins s σ H vs us Q I r h;obtain⟨v,vr,j,h⟩:=h;subst j
 cases r with
 |cons r rr=>rw[hs];refine NJ (thn (h1 pins s σ H _ _ _ I r h) λ_ s1 z=>?_);obtain⟨σ1,H1,B,F⟩:=z;exact h2 pins s1 σ1 H1 _ _ Q B rr F
noncomputable def DX(K:Frag)(n:Nat)(t:TGs):TG:=λv σ H Q=>∃a xs,v=.ref a/\SqT K H a xs/\xs.length=n/\t xs σ H Q
theorem AI{es:List Expr}{k:Nat}{t:TGs}{n:Nat}(z:X.calm=N2)(h:PGs X es t)(B:(Kg es X.env).length=n:=by rfl)(j:(Kg es X.env).findIdx? (·.1)=Z:=by rfl):PG X (.Tuple es k pos) (DX X.K n t):=by
 intro pins s σ H v u Q I r hw;obtain⟨a,xs,F,J,L,hw⟩:=hw;subst F
 cases r
 obtain⟨its,rv,O,Y⟩:=I.tuple J;refine assign_Tuple_tuple (I.ok.hd z) O (by simp[B,<-L,rv.length]) j λh' hx=>?_
 have U:Inv X pins σ H {s with heap:=h'}:=I.kept (t':=s.toks) λb o e=>hx b o (IU (Ig e)) e
 exact h pins _ σ H xs _ Q U (by simpa using rv) hw
noncomputable def DY(to ti:TE)(t:qU):TG:=λv σ H Q=>to σ H λo H1=>ti σ H1 λi H2=>t o i v H2 λH3=>Q σ H3
theorem AJ {o i:Expr}{to ti:TE}{t:qU}(ho:PE X o to)(hi:PE X i ti)(hs:PSet X t)(z:∀v,assign (.Subscript o i pos) X.env v=(do
   let ov <-holding [v] (eval o X.env)
   let iv <-holding [v,ov] (eval i X.env)
   O0 pos
   holding [v,ov,iv] (setItem ov iv v)
   release [v,ov,iv] []):=by intro _;rfl):PG X (.Subscript o i pos) (DY to ti t):=by
 intro pins s σ H v u Q I r h;rw[z];refine gV (Ju (thn (ho pins s σ H _ I h) λov s1 j=>?_));obtain⟨x,H1,B,F,J⟩:=j;refine gV (Ju (thn (hi pins s1 σ H1 _ B J) λiv s2 j=>?_));obtain⟨y,H2,L,O,U⟩:=j;refine gV (LJ (gV (Ju (thn (hs pins s2 σ H2 x y v ov iv u _ L F O r U) λ_ s3 j=>?_))));obtain⟨Y,F2,q3⟩:=j;exact wpAny_release ⟨σ,Y,F2,q3⟩
noncomputable def qV(te:TE)(g:TG):TS:=λD σ H=>te σ H λx H1=>g x σ H1 D.nx
theorem sZ{te:TE}{g:TG}(he:PE X e te)(j:PG X tg g)(hs:Mb [tg] e pos.line X.env=pure R9:=by rfl)(hw:Ld [tg] e X.env=pure Z:=by rfl)(h1:(Kg [tg] X.env).map (·.2)=[assign tg X.env]:=by rfl):PS X (.Assign [tg] e pos) (qV te g):=by intro pins s σ H D I h;refine wpAny_Assign_stores (thn (he pins s σ H _ I h) λv s1 g9=>?_) hs hw;obtain⟨x,H1,z,B,F⟩:=g9;rw[h1];exact thn (j pins s1 σ H1 x v _ z B F) λ_ s2 q=>q
noncomputable def AK(i j:Nat)(ta:TA):TS:=λD σ H=>ta σ H λvs H1=>∃v w,vs=[v,w]/\D.nx ((σ.set i (E v)).set j (E w)) H1
theorem AL{j:Nat}{y:Str}{a b:Expr}{px py pt:Pos}{kt B z}(F2:X.calm=N2)(O:X.N.Nodup)(hi:X.N[i]?=E x)(hj:X.N[j]?=E y)(F:i≠j)(hx:X.env.scope.names.lookup x=E .local)(U:X.env.scope.names.lookup y=E .local)(ha:PA X [a,b] ta)(hw:Ld [.Tuple [.Name x px,.Name y py] kt pt] (.Tuple [a,b] B z) X.env=pure (E [x,y]))(hs:Mb [.Tuple [.Name x px,.Name y py] kt pt] (.Tuple [a,b] B z) pos.line X.env=pure R9:=by rfl):
 PS X (.Assign [.Tuple [.Name x px,.Name y py] kt pt] (.Tuple [a,b] B z) pos) (AK i j ta):=by
 intro pins s σ H D I h;rw[exec_Assign_arm];refine gV (LJ ?_);rw[hs];refine gV (D2 ?_);rw[if_neg (by decide)]
 refine gV (Tuple_ (thn (ha _ pins s σ H _ I h) λus s1 g9=>?_));obtain⟨vs,H1,I1,r1,J⟩:=g9;obtain⟨v,w,e1,J⟩:=J;subst e1;obtain⟨u1,u2,rfl,rv,rw'⟩:∃u1 u2,us=[u1,u2]/\RelV v u1/\RelV w u2:=by
  cases r1 with
  |cons p q=>
   cases q with
   |cons p' q'=>
    cases q'
    exact⟨_,_,rfl,p,p'⟩
 refine JQ ?_ (by show 2<=HZ;decide)
 have I2:Inv X pins σ H1 {s1 with heap:=s1.heap.push {cls:=.type "tuple",data:=.seq [u1,u2].toArray}}:=I1.kept (t':=s1.toks) λb o e=>tv _ e
 rw[hw];refine gV (D2 ?_);show Ik (model X.prog X.w) X.A (do rule "assign.swapped-stores";let items <-unpackItems (.ref s1.heap.objs.size) 2 Z;Q0 [λv=>RN X.env y v,λv=>RN X.env x v] items.reverse;pure Flow.next) _ _ _
 refine gV (Kh (gV (unpackItems_tuple (items:=#[u1,u2]) (I.ok.hd F2) (NH s1.heap _) λh' L=>?_)));have I3:=I2.kept (h':=h') (t':=s1.toks) λb o e=>L b o (IU (Ig e)) e;show Ik _ _ (Q0 [λv=>RN X.env y v,λv=>RN X.env x v] [u2,u1]>>=λ_=>pure Flow.next) _ _ _;refine gV (NJ (wpAny_bindName (eX I3 O hj (.inl U) rw' (λs2 I4=>?_) (.inr U))));refine NJ (wpAny_bindName (eX I4 O hi (.inl hx) rv (λs3 Y=>Qs (D2 ?_)) (.inr hx)));rw[List.set_comm _ _ (Ne.symm F)]at Y;exact⟨_,H1,Y,J⟩
noncomputable def DZ(i:Nat)(te:TE)(ti:TIp):TS:=λD σ H=>∃x,σ[i]?=E (E x)/\te σ H λy H1=>ti x y H1 λz H2=>D.nx (σ.set i (E z)) H2
theorem AM{te:TE}{op:Mt}{ti:TIp}{pos':Pos}(J:X.N.Nodup)(hi:X.N[i]?=E x)(hx:Loc X.env.scope x)(he:PE X e te)(ho:PIp X op ti)(hf:X.fn x=N2∨X.env.scope.names.lookup x=E .local:=by first|exact .inl rfl|exact .inr rfl|assumption):
 PS X (.AugAssign (.Name x pos') op e pos) (DZ i te ti):=by
 intro pins s σ H D I h;obtain⟨v,L,h⟩:=h;obtain⟨m,O,U⟩:=I.loc;have vis:Vis X.env.scope x:=by rcases hx with k|k;exact .inl k;exact .inr (.inl k)
 obtain⟨u,r,l⟩:=U i x v hi L vis;refine wpAny_AugAssign_Name ?_;have go:Ik (model X.prog X.w) X.A (eval e X.env) (λw s₂=>Ik (model X.prog X.w) X.A (Mn op u w) (λr s₃=>Ik (model X.prog X.w) X.A (storeName X.env x r) (λ_=>SP X pins D .next) X.xe s₃) X.xe s₂) X.xe s:=by refine thn (he pins s σ H _ I h) λw s1 F=>?_;obtain⟨y,H1,Y,F2,q1⟩:=F;refine thn (ho pins s1 σ H1 v y u w _ Y r F2 q1) λz s2 F=>?_;obtain⟨zv,H2,I2,r2,q2⟩:=F;exact eX I2 J hi hx r2 (λs3 I3=>⟨_,H2,I3,q2⟩) hf
 rcases l with⟨j,hm⟩|⟨j,c,hc,B⟩
 ·exact P9 I.ok.kind j O hm go
 ·rcases j with j|j
  ·exact PN I.ok.kind j hc B go
  ·rcases hx with k|k
   ·have:X.env.scope.names.lookup x=E .free:=j;rw[k]at this;cases this
   ·have:X.env.scope.names.lookup x=E .free:=j;rw[k]at this;cases this
end
section
variable{X:Cx}{pos:Pos}
noncomputable def t5(c:TT)(tb:TS):TS:=λD σ H=>∃W:Nat->St->Hp->Prop,(∃m,W m σ H)/\∀m σ H,W m σ H->
 c σ H λb H1=>if b=N2 then ∃N:St->Hp->Prop,(∀σ' H',N σ' H'->∃m',m'<m/\W m' σ' H')/\tb {D with nx:=N,ct:=N,bk:=D.nx} σ H1 else D.nx σ H1
theorem vR{tc:TT}{tb:TS}(O:PassesOwn (model X.prog X.w) X.A X.env X.xe)(F2:PT X c tc)(hb:PSs X body tb):PS X (.While c body [] pos) (t5 tc tb):=by
 intro pins s σ H D I h;obtain⟨W,⟨m0,w0⟩,turn⟩:=h;refine wpAny_While (codeAny_whileLoop (λn s'=>∃σ' H',Inv X pins σ' H' s'/\W n σ' H') ?_ m0 ⟨σ,H,I,w0⟩);rintro n s1 ⟨σ1,H1,I1,w1⟩;refine L4 O (thn (F2 pins s1 σ1 H1 _ I1 (turn n σ1 H1 w1)) λb s2 g9=>?_);obtain⟨H2,U,z⟩:=g9
 cases b with
 |true=>
  obtain⟨N,Y,z⟩:=z;rw[if_pos rfl];refine L4 O (thn (hb pins s2 σ1 H2 _ U z) λf s3 B=>?_)
  cases f with
  |next=>obtain⟨σ3,j,F,J⟩:=B;obtain⟨m',hm,L⟩:=Y σ3 j J;exact⟨m',hm,σ3,j,F,L⟩
  |cont=>obtain⟨σ3,j,F,J⟩:=B;obtain⟨m',hm,L⟩:=Y σ3 j J;exact⟨m',hm,σ3,j,F,L⟩
  |brk=>exact B
  |ret v=>exact B
 |false=>rw[if_neg Ih];exact OT ⟨σ1,H2,U,z⟩
end
structure It where
 go:Nat->Hp->Prop
 yld:Nat->Hp->V->Hp->Prop
 stop:Nat->Hp->Prop
def cr(X:Cx)(pins:List (SS×Obj))(H:Hp)(b:SS):Prop:=H b=Z/\b≠X.env.locals/\b∉X.fs/\(b∈X.ex∨X.s₀.heap.objs.size<=b)/\(∀x c,X.env.cells.lookup x=E c->c≠b)/\∀p∈X.pn++pins,p.1≠b
theorem Inv.fpOk{H':Hp}(I:Inv X pins σ H s)(j:s.heap.objs.size<=b)(B:H' b=Z):cr X pins H' b:=by
 refine⟨B,KH (IM I.lt j),I.nofs j,.inr (IW I.sz j),λx c e z=>?_,λp F z=>?_⟩
 ·obtain⟨v,q⟩:=I.cell x c e;exact absurd (IM q.lt (by rw[z];exact j)) (JJ _)
 ·exact absurd (IM (Ig (I.pin p F).1) (by rw[z];exact j)) (JJ _)
structure fO(P:Iy)(w:IY)(K:Frag)(tg:Expr)(J:It)(fp:List SS)(it:SS)(tn:Nat->Heap->Prop):Prop where
 mem:it∈fp
 obj:∀i h,tn i h->∀b∈fp,∃o,h.get? b=E o/\∀v,o.data≠.cell v
 keep:∀i h h',tn i h->(∀b∈fp,∀o,h.get? b=E o->h'.get? b=E o)->tn i h'
 item:∀(X:Cx),X.prog=P->X.w=w->X.K=K->X.calm=N2->∀(i:Nat) (pins:List (SS×Obj)) (s:D1) (σ:St) (H:Hp) (fv:q7->D1->Prop),Inv X pins σ H s->(∀b∈fp,cr X pins H b)->tn i s.heap->J.go i H->
  Ik (model P w) X.A (Mu (.ref it)) (λr s1=>∃u,r=E u /\
   Ik (model P w) X.A (Nj tg (.ref it) u) (λ_ s2=>∃x H',Inv X pins σ H' s2/\RelV x u/\J.yld i H x H'/\tn (i+1) s2.heap/\∀b∈fp,H' b=Z) fv s1) fv s
 done:∀(X:Cx),X.prog=P->X.w=w->X.K=K->X.calm=N2->∀(i:Nat) (pins:List (SS×Obj)) (s:D1) (σ:St) (H:Hp) (fv:q7->D1->Prop),Inv X pins σ H s->(∀b∈fp,cr X pins H b)->tn i s.heap->J.stop i H->
  Ik (model P w) X.A (Mu (.ref it)) (λr s1=>r=Z/\Inv X pins σ H s1) fv s
 self:∀(A:Ji) (i:Nat) (s:D1) (Q:q7->D1->Prop) (fv:q7->D1->Prop),tn i s.heap->Q (.ref it) s->Ik (model P w) A (Qf (.ref it)) Q fv s
noncomputable abbrev TI:=St->Hp->(It->Hp->Prop)->Prop
def PIE(X:Cx)(pins:List (SS×Obj))(σ:St)(tg:Expr)(R:It->Hp->Prop)(itv:q7)(s2:D1):Prop:=∃(it:SS) (fp:List SS) (tn:Nat->Heap->Prop) (J:It) (H':Hp),itv=.ref it/\Inv X pins σ H' s2/\fO X.prog X.w X.K tg J fp it tn/\tn 0 s2.heap/\(∀b∈fp,cr X pins H' b)/\R J H'
def PI(X:Cx)(tg iter:Expr)(wi:TI):Prop:=
 ∀(pins:List (SS×Obj)) (s:D1) (σ:St) (H:Hp) (R:It->Hp->Prop),Inv X pins σ H s->wi σ H R->
  Ik (model X.prog X.w) X.A (eval iter X.env) (λv s1=>Ik (model X.prog X.w) X.A (Qf v) (PIE X pins σ tg R) X.xe s1) X.xe s
theorem lY{fv:q7->D1->Prop}{it:SS}{o:Obj}{n:String}{vs:Array q7}{Q:Unit->D1->Prop}(ho:s.heap.get? it=E o)(z:o.cls=.type n)(hd:o.data=.fields vs)(B:["enumerate","zip","dict_itemiterator","dict_reverseitemiterator","odict_iterator","itertools.zip_longest","itertools.pairwise"].contains n=R9)(j:Q () s):Ik M A (Nj tg (.ref it) u) Q fv s:=by
 unfold Nj
 cases tg<;>first
  |exact D2 j
  | (cases u<;>first
      |exact D2 j
      | (refine gV (wpAny_load ho ?_)
         rw[z,hd];show Ik M A (if(["enumerate","zip","dict_itemiterator","dict_reverseitemiterator","odict_iterator","itertools.zip_longest","itertools.pairwise"].contains n&&vs[0]?==E (Nk _))=N2 then _ else _) Q fv s
         rw[if_neg (by intro h;rw[B,Bool.false_and]at h;cases h)]
         exact D2 j))
noncomputable def Itl(K:Frag)(a:SS):It:=⟨λi H=>∃xs x,SqL K H a xs/\xs[i]?=E x,λi H x H'=>H'=H/\∀xs,SqL K H a xs->xs[i]?=E x,λi H=>∃xs,SqL K H a xs/\xs.length<=i⟩
noncomputable def Itt(K:Frag)(a:SS):It:=⟨λi H=>∃xs x,SqT K H a xs/\xs[i]?=E x,λi H x H'=>H'=H/\∀xs,SqT K H a xs->xs[i]?=E x,λi H=>∃xs,SqT K H a xs/\xs.length<=i⟩
noncomputable def Itr(lo:Int)(n:Nat):It:=⟨λi _=>i<n,λi H x H'=>H'=H/\x=.int (lo+i),λi _=>n<=i⟩
theorem t6(a it:SS):fO P w K tg (Itl K a) [it] it (λi h=>h.IsListIter it a i) where
 mem:=by simp
 obj:=λi h st b j=>by
  have e:b=it:=by simpa using j
  subst e;obtain⟨o,e,c,d⟩:=st;exact⟨o,e,λv z=>by rw[d]at z;cases z⟩
 keep:=λi h h' st k=>st.at λo e=>k it (by simp) o e
 item:=by
  intro X F hw J U i pins s σ H fv I hf st hg;subst F hw J;obtain⟨xs,x,B,hx⟩:=hg;obtain⟨its,rv,p,Y⟩:=I.list B;obtain⟨u,F2,ru⟩:=rv.get hx;obtain⟨f0,f1,f2,L,f4,O⟩:=hf it (by simp)
  refine OF st p.isList (x:=u) (by simpa using F2) λh' st' sb=>?_
  have I1:Inv X pins σ H {s with heap:=h'}:=I.turned (t':=s.toks) (λb o j e=>(sb.2 b j).trans e) f0 f1 L f4 O
  obtain⟨o,e,c,d⟩:=id st';exact⟨u,rfl,lY (s:={s with heap:=h'}) e c d (by decide) ⟨x,H,I1,ru,⟨rfl,λys hy=>by rw[I.list_inj hy B];exact hx⟩,st',λb j=>(hf b j).1⟩⟩
 done:=by
  intro X F hw J U i pins s σ H fv I hf st hg;subst F hw J;obtain⟨xs,B,hx⟩:=hg;obtain⟨its,rv,p,Y⟩:=I.list B;obtain⟨f0,f1,f2,L,f4,O⟩:=hf it (by simp)
  have hl:=rv.length;exact P1 (I.ok.hd U) st p.isList (by simp;lia) λh' eb=>⟨rfl,I.turned (t':=s.toks) (λb o j e=>eb b o j e) f0 f1 L f4 O⟩
 self:=λ_ _ _ _ _ st h=>wpAny_pyIter_listiter st h
theorem qW(a it:SS):fO P w K tg (Itt K a) [it] it (λi h=>h.IsTupleIter it a i) where
 mem:=by simp
 obj:=λi h st b j=>by
  have e:b=it:=by simpa using j
  subst e;obtain⟨o,e,c,d⟩:=st;exact⟨o,e,λv z=>by rw[d]at z;cases z⟩
 keep:=λi h h' st k=>st.at λo e=>k it (by simp) o e
 item:=by
  intro X F hw J U i pins s σ H fv I hf st hg;subst F hw J;obtain⟨xs,x,B,hx⟩:=hg;obtain⟨its,rv,p,Y⟩:=I.tuple B;obtain⟨u,F2,ru⟩:=rv.get hx;obtain⟨f0,f1,f2,L,f4,O⟩:=hf it (by simp)
  refine wpAny_pyNext_tuple_item st (show s.heap.IsTuple a its.toArray from p) (x:=u) (by simpa using F2) λh' st' sb=>?_
  have I1:Inv X pins σ H {s with heap:=h'}:=I.turned (t':=s.toks) (λb o j e=>(sb.2 b j).trans e) f0 f1 L f4 O
  obtain⟨o,e,c,d⟩:=id st';exact⟨u,rfl,lY (s:={s with heap:=h'}) e c d (by decide) ⟨x,H,I1,ru,⟨rfl,λys hy=>by rw[I.tuple_inj hy B];exact hx⟩,st',λb j=>(hf b j).1⟩⟩
 done:=by
  intro X F hw J U i pins s σ H fv I hf st hg;subst F hw J;obtain⟨xs,B,hx⟩:=hg;obtain⟨its,rv,p,Y⟩:=I.tuple B;obtain⟨f0,f1,f2,L,f4,O⟩:=hf it (by simp)
  have hl:=rv.length;exact wpAny_pyNext_tuple_end (I.ok.hd U) st (show s.heap.IsTuple a its.toArray from p) (by simp;lia) λh' eb=>⟨rfl,I.turned (t':=s.toks) (λb o j e=>eb b o j e) f0 f1 L f4 O⟩
 self:=λ_ _ _ _ _ st h=>wpAny_pyIter_tupleiter st h
theorem qX(it:SS)(lo:Int)(n:Nat):fO P w K tg (Itr lo n) [it] it (λi h=>IsRangeIter h it (lo+(i:Nat)*1) ((n:Int)-(i:Nat)) 1) where
 mem:=by simp
 obj:=λi h st b j=>by
  have e:b=it:=by simpa using j
  subst e;exact⟨_,st,λv z=>by
   have z':Data.fields _=Data.cell v:=z
   cases z'⟩
 keep:=λi h h' st k=>k it (by simp) _ st
 item:=by
  intro X B hw F J i pins s σ H fv I hf st hg;subst B hw F;obtain⟨f0,f1,f2,L,f4,O⟩:=hf it (by simp)
  have W:=Walks.range (prog:=X.prog) (w:=X.w) (I.ok.hd J) it lo 1 n;refine W.item i s _ _ hg st λv h' tk U st' kk=>?_;obtain⟨t,rfl⟩:=U;have Y:Inv X pins σ H {s with heap:=h',toks:=tk}:=I.turned (λb o j e=>kk b o (by simpa using j) e) f0 f1 L f4 O
  refine⟨_,rfl,lY (s:={s with heap:=h',toks:=tk}) (n:="range_iterator") st' rfl rfl (by decide) ⟨.int (lo+i),H,Y,⟨t,?_⟩,⟨rfl,rfl⟩,st',λb j=>(hf b j).1⟩⟩
  rw[Pa]
 done:=by
  intro X B hw F J i pins s σ H fv I hf st hg;subst B hw F;obtain⟨f0,f1,f2,L,f4,O⟩:=hf it (by simp)
  exact wpAny_pyNext_range_end (I.ok.hd J) st (by have:n<=i:=hg;lia) λh' eb=>⟨rfl,I.turned (t':=s.toks) (λb o j e=>eb b o j e) f0 f1 L f4 O⟩
 self:=λ_ _ _ _ _ st h=>wpAny_pyIter_rangeiter st h
end
variable{fp:List SS}
section
section
variable{X:Cx}{tg:Expr}
theorem mQ{R:It->Hp->Prop}{fv:q7->D1->Prop}{lo hi:Int}{t u v:Tok}{tk:Nat}(I:Inv X pins σ H s)(h1:-(2^62)<=lo)(h2:lo<2^62)(z:-(2^62)<=hi)(B:hi<2^62)(q:R (Itr lo (hi-lo).toNat) H):Ik (model X.prog X.w) X.A (Qf (.ref s.heap.objs.size)) (PIE X pins σ tg R) fv {s with heap:=s.heap.push {cls:=.type "range",data:=.fields #[.int lo t,.int hi u,.int 1 v]},toks:=tk}:=by
 refine wpAny_pyIter_range (IsRange.new ..) (small_one h1 h2 z B) ?_;have j:Inv X pins σ H {s with heap:=s.heap.push {cls:=.type "range",data:=.fields #[.int lo t,.int hi u,.int 1 v]},toks:=tk}:=I.kept λb o e=>tv _ e
 refine⟨(s.heap.push {cls:=.type "range",data:=.fields #[.int lo t,.int hi u,.int 1 v]}).objs.size,[(s.heap.push {cls:=.type "range",data:=.fields #[.int lo t,.int hi u,.int 1 v]}).objs.size],_,_,H,rfl,
  j.kept (t':=tk) λb o e=>tv _ e,qX _ lo (hi-lo).toNat,?_,λb F=>?_,q⟩
 ·have J:lo+((0:Nat):Int)*1=lo:=by simp
  have L:(((hi-lo).toNat:Nat):Int)-((0:Nat):Int)=Mo lo hi 1:=by rw[rangeSize_one];split<;>lia
  show IsRangeIter _ _ (lo+((0:Nat):Int)*1) ((((hi-lo).toNat:Nat):Int)-((0:Nat):Int)) 1;rw[J,L];exact I9 _ rfl
 ·have e:b=(s.heap.push {cls:=.type "range",data:=.fields #[.int lo t,.int hi u,.int 1 v]}).objs.size:=by simpa using F
  subst e;exact j.fpOk (HW _) (j.hok.fresh (HW _))
noncomputable def CC(ta:TA):TI:=λσ H R=>ta σ H λvs H1=>∃j:Int,vs=[.int j] /\ -(2^62)<=j/\j<2^62/\R (Itr 0 j.toNat) H1
noncomputable def CD(ta:TA):TI:=λσ H R=>ta σ H λvs H1=>∃i j:Int,vs=[.int i,.int j]/\(-(2^62)<=i/\i<2^62 /\ -(2^62)<=j/\j<2^62)/\R (Itr i (j-i).toNat) H1
theorem t7{a:Expr}{p:Pos}(B:Gl X "range")(hm:X.mg "range"=Z)(F:PA X [a] ta)(hs:IG [a] X.env=[(R9,eval a X.env)]:=by rfl):PI X tg (.Call (.Name "range" p) [a] [] pos) (CC ta):=by
 intro pins s σ H R I h;refine Call_ (cV I B hm RP (Jl (thn (F pos pins s σ H _ I h) λus s1 g9=>?_) hs rfl));obtain⟨vs,H1,J,L,z⟩:=g9;obtain⟨j,e,z,O,q⟩:=z;subst e
 cases L with
 |cons r rr=>
  cases rr
  obtain⟨t,rfl⟩:=r;exact call_range_1 (mQ J ∅ ∅ z O (by simpa using q))
theorem t8{a b:Expr}{p:Pos}(F:Gl X "range")(hm:X.mg "range"=Z)(J:PA X [a,b] ta)(hs:IG [a,b] X.env=[(R9,eval a X.env),(R9,eval b X.env)]:=by rfl)(z:IG [b] X.env=[(R9,eval b X.env)]:=by rfl):
 PI X tg (.Call (.Name "range" p) [a,b] [] pos) (CD ta):=by
 intro pins s σ H R I h;refine Call_ (cV I F hm RP (Jl (thn (J pos pins s σ H _ I h) λus s1 g9=>?_) (by rw[hs,z]) (by rw[z];rfl)));obtain⟨vs,H1,L,O,B⟩:=g9
 obtain⟨i,j,e,⟨B,U,Y,F2⟩,q⟩:=B;subst e
 cases O with
 |cons r rr=>
  cases rr with
  |cons r' rr=>
   cases rr
   obtain⟨t,rfl⟩:=r;obtain⟨t',rfl⟩:=r';exact call_range_2 (mQ L B U Y F2 q)
noncomputable def AN(wi:TI)(g:TG)(tb:TS):TS:=λD σ H=>wi σ H λJ H1=>∃W:Nat->Nat->St->Hp->Prop,(∃m,W 0 m σ H1)/\∀i m σ H,W i m σ H->
 (J.stop i H/\D.nx σ H)∨(J.go i H/\∃N:St->Hp->Prop,(∀σ' H',N σ' H'->∃m',m'<m/\W (i+1) m' σ' H')/\∀x H',J.yld i H x H'->g x σ H' λσ2 H2=>tb {D with nx:=N,ct:=N,bk:=D.nx} σ2 H2)
noncomputable def iM(fp:List SS)(h:Heap):List (SS×Obj):=fp.filterMap λb=>(h.get? b).map λo=>(b,o)
theorem dq{o:Obj}(j:b∈fp)(e:h.get? b=E o):(b,o)∈iM fp h:=Qg.mpr ⟨b,j,by rw[e];rfl⟩
theorem t9{p:SS×Obj}(j:p∈iM fp h):p.1∈fp/\h.get? p.1=E p.2:=by
 obtain⟨b,z,e⟩:=Qg.mp j
 cases q:h.get? b with
 |none=>rw[q]at e;cases e
 |some o=>rw[q]at e;have e':(b,o)=p:=Ir.inj e;subst e';exact⟨z,q⟩
theorem Inv.pinned(I:Inv X pins σ H s)(hf:∀b∈fp,cr X pins H b)(ho:∀b∈fp,∃o,s.heap.get? b=E o/\∀v,o.data≠.cell v):Inv X (pins++iM fp s.heap) σ H s:=
 I.pins_of λp B=>(Ie.mp B).elim (λz=>I.pin p (Iw _ z)) λz=>by obtain⟨j,e⟩:=t9 z;obtain⟨f0,f1,f2,_⟩:=hf p.1 j;obtain⟨o,e',d⟩:=ho p.1 j;rw[e]at e';cases e';exact⟨e,f0,f1,f2,d⟩
theorem Inv.unpinned{pl:List (SS×Obj)}(I:Inv X (pins++pl) σ H s):Inv X pins σ H s:=I.pins_of λp j=>I.pin p (Iw _ (Km _ j))
theorem AO{iter:Expr}{wi:TI}{g:TG}{tb:TS}(U:PassesOwn (model X.prog X.w) X.A X.env X.xe)(hc:X.calm=N2)(hi:PI X tg iter wi)(hg:PG X tg g)(j:PSs X body tb)(hs:∀x,Ks iter X.env x=pure x:=by intro _;rfl):PS X (.For tg iter body [] pos) (AN wi g tb):=by
 intro pins s σ H D I h;refine wpAny_For (thn (hi pins s σ H _ I h) λv s1 h1=>thn h1 λitv s2 h2=>?_) hs;obtain⟨it,fp,tn,J,H2,e,I2,T,Gp,f2,W,⟨m0,w0⟩,turn⟩:=h2;subst e;have stat:∀{H':Hp},(∀b∈fp,H' b=Z)->∀b∈fp,cr X pins H' b:=λhn b j=>⟨hn b j,(f2 b j).2⟩;refine codeAny_forLoop_any (λn s'=>∃i σ' H',Inv X pins σ' H' s'/\tn i s'.heap/\(∀b∈fp,H' b=Z)/\W i n σ' H') ?_ m0 ⟨0,σ,H2,I2,Gp,λb j=>(f2 b j).1,w0⟩;rintro n s3 ⟨i,σ3,H3,I3,Y,F2,w3⟩
 rcases turn i n σ3 H3 w3 with⟨stop,qn⟩|⟨go,N,hN,step⟩
 ·refine L4 U (thn (T.done X rfl rfl rfl hc i pins s3 σ3 H3 X.xe I3 (stat F2) Y stop) λr s4 L=>?_);obtain⟨hr,I4⟩:=L;subst hr;exact OT ⟨σ3,H3,I4,qn⟩
 ·refine L4 U (thn (T.item X rfl rfl rfl hc i pins s3 σ3 H3 X.xe I3 (stat F2) Y go) fun r s4 L=>?_);obtain⟨u,hr,h4⟩:=L;subst hr;refine L4 U (thn h4 fun _ s5 L=>?_);obtain⟨x,H5,I5,r5,y5,O,Gq⟩:=L;have Gr:=I5.pinned (stat Gq) (T.obj _ _ O);refine L4 U (thn (hg _ s5 σ3 H5 x u _ Gr r5 (step x H5 y5)) fun _ s6 L=>?_);obtain⟨σ6,H6,I6,q6⟩:=L;refine L4 U (thn (j _ s6 σ6 H6 _ I6 q6) fun f s7 F=>?_);have again:∀{σ7:St} {z:Hp},Inv X (pins++iM fp s5.heap) σ7 z s7->N σ7 z->∃m,m<n/\∃i σ' H',Inv X pins σ' H' s7/\tn i s7.heap/\(∀b∈fp,H' b=Z)/\W i m σ' H':=fun {σ7 z} B n7=>by
   obtain⟨m',hm,w7⟩:=hN σ7 z n7;refine⟨m',hm,i+1,σ7,z,B.unpinned,T.keep _ _ _ O λb j o e=>(B.pin (b,o) (Iw _ (Iw _ (dq j e)))).1,λb j=>?_,w7⟩;obtain⟨o,e,d⟩:=T.obj _ _ O b j;exact(B.pin (b,o) (Iw _ (Iw _ (dq j e)))).2.1
  cases f with
  |next=>obtain⟨σ7,z,B,n7⟩:=F;exact again B n7
  |cont=>obtain⟨σ7,z,B,n7⟩:=F;exact again B n7
  |brk=>obtain⟨σ7,z,B,F⟩:=F;exact⟨σ7,z,B.unpinned,F⟩
  |ret v=>obtain⟨x7,σ7,z,B,r7,F⟩:=F;exact⟨x7,σ7,z,B.unpinned,r7,F⟩
end
end
variable{f:q7->q7->Sem q7}
section
noncomputable abbrev R2:=V->V->Hp->VK->Prop
def OpR(X:Cx)(f:q7->q7->Sem q7)(r:R2):Prop:=
 ∀(pins:List (SS×Obj)) (s:D1) (σ:St) (H:Hp) (x y:V) (v u:q7) (Q:VK),Inv X pins σ H s->RelV x v->RelV y u->r x y H Q->
  Ik (model X.prog X.w) X.A (f v u) (EP X pins σ Q) X.xe s
def UnR(X:Cx)(f:q7->Sem q7)(r:V->Hp->VK->Prop):Prop:=
 ∀(pins:List (SS×Obj)) (s:D1) (σ:St) (H:Hp) (x:V) (v:q7) (Q:VK),Inv X pins σ H s->RelV x v->r x H Q->
  Ik (model X.prog X.w) X.A (f v) (EP X pins σ Q) X.xe s
def CallR(X:Cx)(f:q7)(r:List V->Hp->VK->Prop):Prop:=
 ∀(pins:List (SS×Obj)) (s:D1) (σ:St) (H:Hp) (xs:List V) (us:List q7) (Q:VK),Inv X pins σ H s->Vals xs us->r xs H Q->
  Ik (model X.prog X.w) X.A (call f us) (EP X pins σ Q) X.xe s
def E1(X:Cx)(r:V->Hp->(Bool->Hp->Prop)->Prop):Prop:=
 ∀(pins:List (SS×Obj)) (s:D1) (σ:St) (H:Hp) (x:V) (v:q7) (Q:Bool->Hp->Prop),Inv X pins σ H s->RelV x v->r x H Q->
  Ik (model X.prog X.w) X.A (truthy v) (TP X pins σ Q) X.xe s
noncomputable def tOp(r:R2)(ta tb:TE):TE:=λσ H Q=>ta σ H λx H1=>tb σ H1 λy H2=>r x y H2 Q
noncomputable def tUn(r:V->Hp->VK->Prop)(ta:TE):TE:=λσ H Q=>ta σ H λx H1=>r x H1 Q
noncomputable def rI(C:Int->Int->Prop)(g:Int->Int->V):R2:=λx y H Q=>∃i j,x=.int i/\y=.int j/\C i j/\Q (g i j) H
noncomputable def rI0(g:Int->Int->V):R2:=λx y H Q=>∃i j,x=.int i/\y=.int j/\Q (g i j) H
noncomputable def rU(g:Int->V):V->Hp->VK->Prop:=λx H Q=>∃i,x=.int i/\Q (g i) H
section
variable{X:Cx}{a b c:Expr}{ta tb tc:TE}{pos:Pos}
theorem vS(z:PE X a ta)(B:PE X b tb){R:V->V->Hp->Prop}(I:Inv X pins σ H s)(h:ta σ H λx H1=>tb σ H1 λy H2=>R x y H2){Q:q7->D1->Prop}(hf:∀v u s2 x y H2,Inv X pins σ H2 s2->RelV x v->RelV y u->R x y H2->Ik (model X.prog X.w) X.A (f v u) Q X.xe s2):
 Ik (model X.prog X.w) X.A (eval a X.env) (λv s₁=>Ik (model X.prog X.w) X.A (eval b X.env) (λu s₂=>Ik (model X.prog X.w) X.A (f v u) Q X.xe s₂) X.xe s₁) X.xe s:=by
 refine thn (z pins s σ H _ I h) λv s1 j=>?_;obtain⟨x,H1,F,J,L⟩:=j;refine thn (B pins s1 σ H1 _ F L) λu s2 j=>?_;obtain⟨y,H2,O,U,Y⟩:=j;exact hf v u s2 x y H2 O J U Y
theorem CF{op:Mt}{r:R2}(ho:OpR X (JT op) r)(j:PE X a ta)(z:PE X b tb):PE X (.BinOp a op b pos) (tOp r ta tb):=by intro pins s σ H Q I h;exact wpAny_BinOp (vS j z I h λv u s2 x y H2 B rx ry q=>ho pins s2 σ H2 x y v u Q B rx ry q)
theorem CG{op:UnaryOp}{r:V->Hp->VK->Prop}(ho:UnR X (unaryOp op) r)(j:PE X a ta):PE X (.UnaryOp op a pos) (tUn r ta):=by intro pins s σ H Q I h;exact UnaryOp_ (thn (j pins s σ H _ I h) λv s1 z=>(by obtain⟨x,H1,B,F,J⟩:=z;exact ho pins s1 σ H1 x v Q B F J))
theorem opI{C:Int->Int->Prop}{g:Int->Int->Int}(rule:∀(i j:Int) (t u:Tok) (s:D1) (Q:q7->D1->Prop) (fv:q7->D1->Prop),C i j->Q (.int (g i j) s.toks) {s with toks:=s.toks+1}->Ik (model X.prog X.w) X.A (f (.int i t) (.int j u)) Q fv s):
 OpR X f (rI C λi j=>.int (g i j)):=by
 intro pins s σ H x y v u Q I rx ry h;obtain⟨i,j,rfl,rfl,z,q⟩:=h;obtain⟨t,rfl⟩:=rx;obtain⟨t',rfl⟩:=ry;exact rule i j t t' s _ _ z ⟨.int (g i j),H,I.tok _,⟨_,rfl⟩,q⟩
theorem qY{g:Int->Int->Int}(rule:∀(i j:Int) (t u:Tok) (s:D1) (Q:q7->D1->Prop) (fv:q7->D1->Prop),Q (.int (g i j) s.toks) {s with toks:=s.toks+1}->Ik (model X.prog X.w) X.A (f (.int i t) (.int j u)) Q fv s):
 OpR X f (rI0 λi j=>.int (g i j)):=by
 intro pins s σ H x y v u Q I rx ry h;obtain⟨i,j,rfl,rfl,q⟩:=h;obtain⟨t,rfl⟩:=rx;obtain⟨t',rfl⟩:=ry;exact rule i j t t' s _ _ ⟨.int (g i j),H,I.tok _,⟨_,rfl⟩,q⟩
theorem qZ{g:Int->Int->Bool}(rule:∀(i j:Int) (t u:Tok) (s:D1) (Q:q7->D1->Prop) (fv:q7->D1->Prop),Q (.bool (g i j)) s->Ik (model X.prog X.w) X.A (f (.int i t) (.int j u)) Q fv s):
 OpR X f (rI0 λi j=>.bl (g i j)):=by
 intro pins s σ H x y v u Q I rx ry h;obtain⟨i,j,rfl,rfl,q⟩:=h;obtain⟨t,rfl⟩:=rx;obtain⟨t',rfl⟩:=ry;exact rule i j t t' s _ _ ⟨.bl (g i j),H,I,rfl,q⟩
def E2(i j:Int):Prop:=0<=j/\j<=1000000/\i.natAbs<2^64
theorem op_add:OpR X (JT .Add) (rI0 λi j=>.int (i+j)):=qY λ_ _ _ _ _ _ _ q=>add_int q
theorem AQ:OpR X (JT .Sub) (rI0 λi j=>.int (i-j)):=qY λ_ _ _ _ _ _ _ q=>sub_int q
theorem AR:OpR X (JT .Mod) (rI (λ_ j=>0<j) λi j=>.int (i%j)):=opI λi j _ _ _ _ _ z q=>by have h1:(0:Int)<j:=z;exact mod_int' ∅ (by rw[Int.fmod_eq_emod_of_nonneg i ∅];exact q)
theorem AS:OpR X (JT .Pow) (rI E2 λi j=>.int (i^j.toNat)):=opI λ_ _ _ _ _ _ _ z q=>pow_int_small z.1 z.2.1 z.2.2 q
theorem yL:OpR X (Mn .Add) (rI0 λi j=>.int (i+j)):=qY λ_ _ _ _ _ _ _ q=>iadd_int q
theorem yM:OpR X (Mn .Sub) (rI0 λi j=>.int (i-j)):=qY λ_ _ _ _ _ _ _ q=>isub_int q
theorem unI{f:q7->Sem q7}{g:Int->Int}(rule:∀(i:Int) (t:Tok) (s:D1) (Q:q7->D1->Prop) (fv:q7->D1->Prop),Q (.int (g i) s.toks) {s with toks:=s.toks+1}->Ik (model X.prog X.w) X.A (f (.int i t)) Q fv s):
 UnR X f (rU λi=>.int (g i)):=by
 intro pins s σ H x v Q I rx h;obtain⟨i,rfl,q⟩:=h;obtain⟨t,rfl⟩:=rx;exact rule i t s _ _ ⟨.int (g i),H,I.tok _,⟨_,rfl⟩,q⟩
theorem AT:UnR X (unaryOp .USub) (rU λi=>.int (-i)):=unI λ_ _ _ _ _ q=>neg_int q
end
section
variable{X:Cx}{a b c:Expr}{ta tb tc:TE}{pos:Pos}
theorem CH:OpR X (Ku .Lt) (rI0 λi j=>.bl (decide (i<j))):=qZ λ_ _ _ _ _ _ _ q=>lt_int q
theorem CI:OpR X (Ku .LtE) (rI0 λi j=>.bl (decide (i<=j))):=qZ λ_ _ _ _ _ _ _ q=>le_int q
theorem CJ:OpR X (Ku .Gt) (rI0 λi j=>.bl (decide (j<i))):=qZ λ_ _ _ _ _ _ _ q=>gt_int q
theorem CK:OpR X (Ku .GtE) (rI0 λi j=>.bl (decide (j<=i))):=qZ λ_ _ _ _ _ _ _ q=>ge_int q
theorem OpR.or{r r':R2}(h:OpR X f r)(h':OpR X f r'):OpR X f (λx y H Q=>r x y H Q∨r' x y H Q):=by
 intro pins s σ H x y v u Q I rx ry q
 rcases q with q|q
 ·exact h pins s σ H x y v u Q I rx ry q
 ·exact h' pins s σ H x y v u Q I rx ry q
theorem yN{op:CmpOp}{r:R2}(ho:OpR X (Ku op) r)(j:PE X a ta)(z:PE X b tb)(hm:Mc op b=R9):PE X (.Compare a [op] [b] pos) (tOp r ta tb):=by intro pins s σ H Q I h;exact wpAny_Compare1 (vS j z I h λv u s2 x y H2 B rx ry q=>ho pins s2 σ H2 x y v u Q B rx ry q) hm
noncomputable def xY(t:TE):TT:=λσ H Q=>t σ H λx H'=>∃k,x=.bl k/\Q k H'
theorem yO{op:CmpOp}{r:R2}(ho:OpR X (Ku op) r)(j:PE X a ta)(B:PE X b tb)(hm:Mc op b=R9):PT X (.Compare a [op] [b] pos) (xY (tOp r ta tb)):=by
 intro pins s σ H Q I h;refine wpAny_isTrue_Compare1 (thn (j pins s σ H _ I h) λv s1 ⟨x,H1,F,J,L⟩=>thn (B pins s1 σ H1 _ F L) λu s2 ⟨y,H2,O,U,Y⟩=>thn (ho pins s2 σ H2 x y v u _ O J U Y) λc s3 ⟨z,F2,I3,r3,k,e,q3⟩=>?_) hm
 subst e
 cases r3
 exact L7 ⟨F2,I3,q3⟩
def vT(K:Frag)(x:V)(H:Hp)(k:Bool):Prop:=
 match x with
 |.non=>k=R9
 |.bl b=>k=b
 |.int i=>k=(i != 0)
 |.str y=>y.length<=HZ/\k=((y.length:Int) != 0)
 |.byt y=>y.size<=HZ/\k=((y.size:Int) != 0)
 |.ref p=>(∃xs,SqL K H p xs/\k = !xs.isEmpty)∨(∃xs,SqT K H p xs/\k = !xs.isEmpty)∨∃kvs,H p=E (.dK kvs)/\k = !kvs.isEmpty
 |_=>False
theorem r6{κ:Type}{kvs:List (κ×V)}{vs:List (κ×q7)}(r:KV kvs vs):(!vs.isEmpty) = !kvs.isEmpty:=by cases r<;>rfl
theorem iN{xs:List V}{its:List q7}(r:Vals xs its):(!its.toArray.isEmpty) = !xs.isEmpty:=by cases r<;>simp
theorem fP:(HZ:Nat)<2^63:=by rw[z4];decide
theorem AU:E1 X (λx H Q=>∃k,vT X.K x H k/\Q k H):=by
 intro pins s σ H x v Q I rx h;obtain⟨k,e,q⟩:=h;have F:=fP;have hs:HZ=16777216:=z4
 cases x with
 |non=>
  cases rx
  have e':k=R9:=e;subst e';exact truthy_none ⟨H,I,q⟩
 |bl b=>
  cases rx
  have e':k=b:=e;subst e';exact L7 ⟨H,I,q⟩
 |int i=>obtain⟨t,rfl⟩:=rx;have e':k=(i != 0):=e;subst e';exact PySem.P.truthy_int ⟨H,I,q⟩
 |str y=>obtain⟨t,rfl⟩:=rx;obtain⟨z,e'⟩:y.length<=HZ/\k=((y.length:Int) != 0):=e;subst e';exact PySem.P.truthy_str ∅ ⟨H,I.tok _,q⟩
 |byt y=>obtain⟨t,rfl⟩:=rx;obtain⟨z,e'⟩:y.size<=HZ/\k=((y.size:Int) != 0):=e;subst e';exact PySem.W.truthy_bytes ∅ ⟨H,I.tok _,q⟩
 |ref p=>
  cases rx
  have e':(∃xs,SqL X.K H p xs/\k = !xs.isEmpty)∨(∃xs,SqT X.K H p xs/\k = !xs.isEmpty)∨∃kvs,H p=E (.dK kvs)/\k = !kvs.isEmpty:=e
  rcases e' with⟨xs,hx,e'⟩|⟨xs,hx,e'⟩|⟨kvs,hx,e'⟩
  ·subst e';obtain⟨its,r,pl,j⟩:=I.list hx;have hlen:=r.length;exact wpAny_truthy_list pl.isList (by simp only[Ia];lia) ⟨H,I.tok _,by rw[iN r];exact q⟩
  ·subst e';obtain⟨its,r,pl,j⟩:=I.tuple hx;have hlen:=r.length;exact truthy_tuple pl (by simp only[Ia];lia) ⟨H,I.tok _,by rw[iN r];exact q⟩
  ·subst e';obtain⟨j,B,vs,r,m⟩:kvs.length<=HZ/\(p==JW)=R9/\∃vs,KV kvs vs/\s.heap.DictOf (aF X.prog X.w) p vs:=I.hok p _ hx;have hlen:kvs.length=vs.length:=Lb r;exact wpAny_truthy_dict B m ∅ ⟨H,I.tok _,by rw[r6 r];exact q⟩
 |_=>exact(show False from e).elim
theorem vU(j:PE X a ta)(he:∀whole,isTrue a X.env whole=(do let v <-whole;O0 a.pos;holding [v] (truthy v))):
 PT X a (λσ H Q=>ta σ H λx H'=>∃k,vT X.K x H' k/\Q k H'):=by
 intro pins s σ H Q I h;exact isTrue_plain (thn (j pins s σ H _ I h) λv s1 z=>(by obtain⟨x,H1,B,F,J⟩:=z;exact AU pins s1 σ H1 x v Q B F J)) (he _)
theorem r8:OpR X (JT .Add) (λx y H Q=>∃i j,x=.str i/\y=.str j/\i.length+j.length<=HZ/\Q (.str (i++j)) H):=by intro pins s σ H x y v u Q I rx ry h;obtain⟨i,j,rfl,rfl,z,q⟩:=h;obtain⟨t,rfl⟩:=rx;obtain⟨t',rfl⟩:=ry;exact add_str (λt' tk=>⟨.str (i++j),H,I.tok _,⟨_,rfl⟩,q⟩) z
theorem eA{x:V}(r:Vals [x] us):∃u,us=[u]/\RelV x u:=by
 cases r with
 |cons j z=>cases z;exact⟨_,rfl,j⟩
theorem xZ{x y:V}(r:Vals [x,y] us):∃u w',us=[u,w']/\RelV x u/\RelV y w':=by
 cases r with
 |cons j z=>
  cases z with
  |cons B F=>cases F;exact⟨_,_,rfl,j,B⟩
theorem vW:CallR X (.builtin "abs") (λxs H Q=>∃i,xs=[.int i]/\Q (.int (if i<0 then -i else i)) H):=by intro pins s σ H xs us Q I r h;obtain⟨i,rfl,q⟩:=h;obtain⟨u,rfl,t,rfl⟩:=eA r;exact call_abs_int λu tk=>⟨.int (if i<0 then -i else i),H,I.tok _,⟨_,rfl⟩,q⟩
theorem tf(B:X.calm=N2):CallR X (.builtin "max") (λxs H Q=>∃i j,xs=[.int i,.int j]/\Q (.int (if j > i then j else i)) H):=by
 intro pins s σ H xs us Q I r h;obtain⟨i,j,rfl,q⟩:=h;obtain⟨u,w',rfl,⟨t,rfl⟩,⟨t',rfl⟩⟩:=xZ r;refine max_two_ints (I.ok.hd B) λh' tk k=>⟨_,H,I.kept k,?_,q⟩
 by_cases z:j > i
 ·rw[if_pos z,if_pos z];exact⟨_,rfl⟩
 ·rw[if_neg z,if_neg z];exact⟨_,rfl⟩
theorem tj(B:X.calm=N2):CallR X (.builtin "min") (λxs H Q=>∃i j,xs=[.int i,.int j]/\Q (.int (if j<i then j else i)) H):=by
 intro pins s σ H xs us Q I r h;obtain⟨i,j,rfl,q⟩:=h;obtain⟨u,w',rfl,⟨t,rfl⟩,⟨t',rfl⟩⟩:=xZ r;refine min_two_ints (I.ok.hd B) λh' tk k=>⟨_,H,I.kept k,?_,q⟩
 by_cases z:j<i
 ·rw[if_pos z,if_pos z];exact⟨_,rfl⟩
 ·rw[if_neg z,if_neg z];exact⟨_,rfl⟩
theorem tm:CallR X (.type "int") (λxs H Q=>(∃i,xs=[.int i]/\Q (.int i) H)∨∃k,xs=[.bl k]/\Q (.int (if k then 1 else 0)) H):=by
 intro pins s σ H xs us Q I r h
 rcases h with⟨i,rfl,q⟩|⟨k,rfl,q⟩
 ·obtain⟨u,rfl,t,rfl⟩:=eA r;exact call_int_int ⟨.int i,H,I,⟨_,rfl⟩,q⟩
 ·obtain⟨u,rfl,j⟩:=eA r
  cases j
  exact call_int_bool ⟨.int (if k then 1 else 0),H,I.tok _,⟨_,rfl⟩,q⟩
def E3(K:Frag)(x:V)(H:Hp)(n:Nat):Prop:=
 match x with
 |.str y=>y.length<=HZ/\n=y.length
 |.byt y=>y.size<=HZ/\n=y.size
 |.ref p=>(∃xs,SqL K H p xs/\n=xs.length)∨∃xs,SqT K H p xs/\n=xs.length
 |_=>False
theorem vX:CallR X (.builtin "len") (λxs H Q=>∃x n,xs=[x]/\E3 X.K x H n/\Q (.int n) H):=by
 intro pins s σ H xs us Q I r h;obtain⟨x,n,rfl,e,q⟩:=h;obtain⟨u,rfl,rx⟩:=eA r;have B:=fP;have hs:HZ=16777216:=z4
 cases x with
 |str y=>obtain⟨t,rfl⟩:=rx;obtain⟨j,e'⟩:y.length<=HZ/\n=y.length:=e;subst e';exact len_str ∅ ⟨.int _,H,I.tok _,⟨_,rfl⟩,q⟩
 |byt y=>obtain⟨t,rfl⟩:=rx;obtain⟨j,e'⟩:y.size<=HZ/\n=y.size:=e;subst e';exact PySem.W.len_bytes ∅ ⟨.int _,H,I.tok _,⟨_,rfl⟩,q⟩
 |ref p=>
  cases rx
  have e':(∃xs,SqL X.K H p xs/\n=xs.length)∨∃xs,SqT X.K H p xs/\n=xs.length:=e
  rcases e' with⟨xs,hx,e'⟩|⟨xs,hx,e'⟩
  ·subst e';obtain⟨its,r',pl,z⟩:=I.list hx;have hlen:=r'.length;exact Calls.call_len_list pl.isList (by simp only[Ia];lia) ⟨.int xs.length,H,I.tok _,⟨_,by simp only[Ia];rw[hlen]⟩,q⟩
  ·subst e';obtain⟨its,r',pl,z⟩:=I.tuple hx;have hlen:=r'.length;exact len_tuple pl (by simp only[Ia];lia) ⟨.int xs.length,H,I.tok _,⟨_,by simp only[Ia];rw[hlen]⟩,q⟩
 |_=>exact(show False from e).elim
end
end
section
theorem SH{o:Option q7}(r:RelO (E v) o):∃u,o=E u/\RelV v u:=by
 cases o with
 |none=>exact(show False from r).elim
 |some u=>exact⟨u,rfl,r⟩
end
variable{ps:List Str}
section
structure Room(k:Nat)(A:Ji):Prop where
 hd:A.handled=Z
 dp:A.depth+3*k+5<recursionLimit
 un:A.units+16*k+200<Lk
theorem Room.deeper{k:Nat}(r:Room (k+1) A)(env:Env):Room k (A.deeper env):=⟨r.hd,by have:=r.dp;show A.depth+1+3*k+5<_;lia,by have:=r.un;show A.units+3+16*k+200<_;lia⟩
theorem Room.depth{k:Nat}(r:Room k A):A.depth<recursionLimit:=by have:=r.dp;lia
theorem Room.units{k:Nat}(r:Room k A):A.units+64<Lk:=by have:=r.un;lia
noncomputable def AV:TA:=λ_ H Q=>Q [] H
noncomputable def y0(ta:TE)(tr:TA):TA:=λσ H Q=>ta σ H λx H1=>tr σ H1 λxs H2=>Q (x::xs) H2
section
variable{X:Cx}{e:Expr}{es:List Expr}{te:TE}{t:TA}{pos:Pos}
theorem AW:PA X [] AV:=λ_ _ _ _ H Q I h=>Mv ⟨[],H,I,.nil,h⟩
theorem yP(z:PE X e te)(B:PA X es t)(hs:IG (e::es) X.env=(R9,eval e X.env)::IG es X.env:=by rfl):PA X (e::es) (y0 te t):=by intro pos pins s σ H Q I h;rw[hs];show Ik _ _ (spliced ((R9,eval e X.env)::Ms pos (IG es X.env))) _ _ s;refine Lr (thn (z pins s σ H _ I h) λu s1 j=>?_);obtain⟨x,H1,F,J,L⟩:=j;exact thn (B pos pins s1 σ H1 _ F L) λus s2 j=>(by obtain⟨xs,H2,O,U,Y⟩:=j;exact⟨x::xs,H2,O,.cons J U,Y⟩)
noncomputable def E4(t:TA):TE:=λσ H Q=>t σ H λxs H1=>xs.length<=HZ/\∀p,H1 p=Z->Q (.ref p) (upd H1 p (.tup xs))
noncomputable def E5(t:TA):TE:=λσ H Q=>t σ H λxs H1=>xs.length<=HZ/\∀p,H1 p=Z->Q (.ref p) (upd H1 p (.lst xs))
theorem AX{B}(h:PA X es t):PE X (.Tuple es B pos) (E4 t):=by
 intro pins s σ H Q I hq;refine wpAny_Tuple_spliced (thn (h pos pins s σ H _ I hq) λus s1 ⟨xs,H1,j,r,z,q⟩=>⟨by rw[<-r.length];exact z,?_⟩)
 have hf:H1 s1.heap.objs.size=Z:=j.hok.fresh (HW _);refine⟨.ref s1.heap.objs.size,upd H1 s1.heap.objs.size (.tup xs),j.laid (t':=s1.toks) (λb u e=>tv _ e) (HW _) ?_,rfl,q _ hf⟩;exact⟨z,us,r,⟨_,I9 _ rfl,rfl,_,rfl⟩⟩
theorem AY(h:PA X es t):PE X (.List es pos) (E5 t):=by
 intro pins s σ H Q I hq;refine wpAny_List_spliced (thn (h pos pins s σ H _ I hq) λus s1 ⟨xs,H1,j,r,z,q⟩=>⟨by rw[<-r.length];exact z,?_⟩)
 have hf:H1 s1.heap.objs.size=Z:=j.hok.fresh (HW _);refine⟨.ref s1.heap.objs.size,upd H1 s1.heap.objs.size (.lst xs),j.laid (t':=s1.toks) (λb u e=>tv _ e) (HW _) ?_,rfl,q _ hf⟩;exact⟨z,us,0,r,I9 _ rfl⟩
end
noncomputable abbrev Sp:=List V->Hp->VK->XK->Prop
noncomputable abbrev CXT:=List Env->Hp->D1->XK->q7->D1->Prop
structure jH(P:Iy)(w:IY)(K:Frag)(mg:Str->Option q7)(base:Heap)(A:Ji)(outer:List Env)(s:D1)(H:Hp):Prop where
 frames:A.frames=E outer
 mod:Mod K mg base
 bs:∀b o,base.get? b=E o->s.heap.get? b=E o/\H b=Z
 bsz:base.objs.size<=s.heap.objs.size
 funs:s.heap.FunFrames base outer
 frf:∀b∈frs outer,H b=Z
 hok:HOk P w H s.heap
 bare:NY s.gens
def CE(outer:List Env)(P:Iy)(w:IY)(H:Hp)(s:D1)(Q:VK)(u:q7)(s':D1):Prop:=∃v H',s'.os=s.os/\NY s'.gens/\Un (frs outer) [] H H' s.heap s'.heap/\HOk P w H' s'.heap/\RelV v u/\Q v H'
def CR(CX:CXT)(outer:List Env)(P:Iy)(w:IY)(H:Hp)(s:D1)(Q:VK)(fv:XK)(r:RQ)(s':D1):Prop:=
 match r with
 |.ok (.ret u)=>CE outer P w H s Q u s'
 |.ok _=>False
 |.error e=>CX outer H s fv e s'
structure dh(P:Iy)(w:IY)(K:Frag)(mg:Str->Option q7)(base:Heap)(CX:CXT)(k:Nat)(f:SS)(fd:LA)(ps:List Str)(sp:Sp):Prop where
 len:∀vs H Q fv,sp vs H Q fv->vs.length=ps.length
 run:∀(A:Ji) (outer:List Env) (s:D1) (H:Hp) (args:Args) (us:List q7) (vs:List V) (Q:VK) (fv:XK),Room k A->jH P w K mg base A outer s H->PF s fd args (ps.zip us)->Vals vs us->sp vs H Q fv->
  Mf (model P w) A (.call (.ref f) args) (CR CX outer P w H s Q fv) s
section
variable{X:Cx}{pins:List (SS×Obj)}{σ:St}{H:Hp}{s s':D1}
theorem Inv.env0(I:Inv X pins σ H s):jH X.prog X.w X.K X.mg X.base X.A X.stack s H:=⟨I.ok.frames,I.ok.mod,I.bs,IW I.ok.bsz I.sz,I.stack,I.stkFree,I.hok,I.bare⟩
theorem Inv.after{Q:VK}(I:Inv X pins σ H s)(h:CE X.stack X.prog X.w H s Q u s'):EP X pins σ Q u s':=by obtain⟨v,H',os,bare,un,hok,r,q⟩:=h;obtain⟨j,g,d,t,os'⟩:=s';obtain rfl:os'=s.os:=os;exact⟨v,H',I.call (h':=j) (g':=g) (d':=d) (t':=t) (ch:=[]) un hok bare (λb z=>absurd z (by simp)),r,q⟩
end
noncomputable def y4(sp:Sp)(dvs:List V)(fv:XK)(t:TA):TE:=λσ H Q=>t σ H λvs H1=>sp (vs++dvs) H1 Q fv
def Binds(K:Frag)(fd:LA)(ps:List Str)(ds:List q7):Prop:=∀(s:D1) (us:List q7),K.In s.heap->(us++ds).length=ps.length->PF s fd ⟨us,[]⟩ (ps.zip (us++ds))
theorem Binds.all{fd:LA}(h:∀us:List q7,us.length=ps.length->bindArgs fd ⟨us,[]⟩=pure (ps.zip us)):Binds K fd ps []:=λs us _ j=>by rw[Jt]at j⊢;exact .of_eq (h us j)
def iO(CX:CXT)(X:Cx)(fv:XK):Prop:=∀(pins:List (SS×Obj)) (σ:St) (H:Hp) (s:D1) (e:q7) (s':D1),Inv X pins σ H s->CX X.stack H s fv e s'->X.xe e s'
section
variable{X:Cx}{CX:CXT}{k:Nat}{f C:SS}{fd:LA}{ps:List Str}{sp:Sp}{dvs:List V}{ds:List q7}{fv:XK}{x m:Str}{p pos apos:Pos}{e o:Expr}{es:List Expr}{ta:TE}{t:TA}
theorem tq{Q:VK}{vs:List V}(F:dh X.prog X.w X.K X.mg X.base CX k f fd ps sp)(B:Room k X.A)(J:Binds X.K fd ps ds)(hd:Vals dvs ds)(hx:iO CX X fv)(I:Inv X pins σ H s)(r:Vals vs us)(h:sp (vs++dvs) H Q fv):Ik (model X.prog X.w) X.A (call (.ref f) us) (EP X pins σ Q) X.xe s:=by
 have z:Vals (vs++dvs) (us++ds):=r.append hd;have L:(us++ds).length=ps.length:=by rw[<-z.length];exact F.len _ _ _ _ h
 refine wpAny_call (Mw (F.run X.A X.stack s H ⟨us,[]⟩ (us++ds) (vs++dvs) Q fv B I.env0 (J s us I.kIn L) z h) λr s' j=>?_)
 cases r with
 |error e=>exact hx pins σ H s e s' I j
 |ok fl=>
  cases fl with
  |ret u=>exact I.after j
  |next=>exact False.elim j
  |brk=>exact False.elim j
  |cont=>exact False.elim j
theorem yQ(F:dh X.prog X.w X.K X.mg X.base CX k f fd ps sp)(J:Room k X.A)(L:Gl X x)(hm:X.mg x=E (.ref f))(O:KO X.K (.ref f)=N2)(U:Binds X.K fd ps ds)(hd:Vals dvs ds)(hx:iO CX X fv)(Y:PA X (e::es) t)(j:(x==("__debug__":Str))=R9:=by decide)(he:IG (e::es) X.env=(R9,eval e X.env)::IG es X.env:=by rfl)(z:(Ms pos (IG es X.env)).any (·.1)=R9:=by rfl):
 PE X (.Call (.Name x p) (e::es) [] pos) (y4 sp dvs fv t):=by
 intro pins s σ H Q I h;refine KP (jG I L hm ?_ j);refine PySem.W.callWith_K (h₀:=X.base) I.ok.mod.kin O (thn (Y pos pins s σ H _ I h) λus s1 ⟨vs,H1,B,r,q⟩=>⟨B.kIn,?_⟩) he z;exact tq F J U hd hx B r q
theorem vY(F:dh X.prog X.w X.K X.mg X.base CX k f fd ps sp)(z:Room k X.A)(B:Gl X x)(hm:X.mg x=E (.ref f))(J:KO X.K (.ref f)=N2)(L:Binds X.K fd ps ds)(hd:Vals dvs ds)(hx:iO CX X fv)(j:(x==("__debug__":Str))=R9:=by decide):PE X (.Call (.Name x p) [] [] pos) (y4 sp dvs fv AV):=by intro pins s σ H Q I h;refine KP (jG I B hm ?_ j);exact PySem.W.callWith_K0 I.kIn J (tq (us:=[]) F z L hd hx I .nil h)
end
structure gy(N P:List Str)(sc:Scope):Prop where
 kind:sc.kind=.function
 co:sc.isCoroutine=R9
 gen:sc.isGenerator=R9
 nd:N.Nodup
 pre:N.take P.length=P
 par:∀x∈P,sc.names.lookup x=E .local∨sc.names.lookup x=E .cell
 nofree:∀y∈sc.names,y.2≠.free
theorem kH{KI:Str->Option Ll}{x:Str}:∀{binds:List (Str×q7)} {m:Str->Option q7},(∀v,(x,v)∉binds)->RT KI binds m x=m x
 |[],_,_=>rfl
 |(n,v)::r,m,h=>by
  unfold RT;rw[kH λw hw=>h w (HR _ hw)]
  split
  ·have:x≠n:=by rintro rfl;exact h v I0
   simp[this]
  ·rfl
theorem kI{KI:Str->Option Ll}{x:Str}:∀{binds:List (Str×q7)} {m:Str->Option q7},(∀v,(x,v)∉binds)->RU KI binds m x=m x
 |[],_,_=>rfl
 |(n,v)::r,m,h=>by
  unfold RU;rw[kI λw hw=>h w (HR _ hw)]
  split
  ·rfl
  ·have:x≠n:=by rintro rfl;exact h v I0
   simp[this]
theorem kJ{KI:Str->Option Ll}{x:Str}{v:q7}:∀{P:List Str} {vs:List q7} {i:Nat} {m:Str->Option q7},P.Nodup->P[i]?=E x->vs[i]?=E v->KI x=E .local->
 RT KI (P.zip vs) m x=E v
 |[],_,_,_,_,h,_,_=>by simp at h
 |_::_,[],_,_,_,_,h,_=>by simp at h
 |p::P,w::vs,0,m,nd,h1,h2,j=>by simp at h1 h2;subst h1;subst h2;show RT KI ((p,w)::P.zip vs) m p=_;unfold RT;rw[kH λv z=>(JK.mp nd).1 (Nl z).1,if_pos j];simp
 |p::P,w::vs,i+1,m,nd,h1,h2,j=>by show RT KI ((p,w)::P.zip vs) m x=_;unfold RT;exact kJ (i:=i) (JK.mp nd).2 (by simpa using h1) (by simpa using h2) j
theorem kK{KI:Str->Option Ll}{x:Str}{v:q7}:∀{P:List Str} {vs:List q7} {i:Nat} {m:Str->Option q7},P.Nodup->P[i]?=E x->vs[i]?=E v->KI x≠E .local->
 RU KI (P.zip vs) m x=E v
 |[],_,_,_,_,h,_,_=>by simp at h
 |_::_,[],_,_,_,_,h,_=>by simp at h
 |p::P,w::vs,0,m,nd,h1,h2,j=>by simp at h1 h2;subst h1;subst h2;show RU KI ((p,w)::P.zip vs) m p=_;unfold RU;rw[kI λv z=>(JK.mp nd).1 (Nl z).1,if_neg j];simp
 |p::P,w::vs,i+1,m,nd,h1,h2,j=>by show RU KI ((p,w)::P.zip vs) m x=_;unfold RU;exact kK (i:=i) (JK.mp nd).2 (by simpa using h1) (by simpa using h2) j
noncomputable def cT(N:List Str)(vs:List V):St:=vs.map E++HN (N.length-vs.length) Z
noncomputable def i9(CX:CXT)(P:Iy)(w:IY)(K:Frag)(mg:Str->Option q7)(base:Heap)(N:List Str)(qual:Str)(scope:Scope)(f:SS)(cd:q7)(A:Ji)(outer:List Env)(s:D1)(H:Hp)(fv:XK):Cx where
 prog:=P
 w:=w
 K:=K
 mg:=mg
 base:=base
 A:=A.deeper (Pc qual scope s.heap.objs.size f cd)
 N:=N
 s₀:=s
 H₀:=H
 env:=Pc qual scope s.heap.objs.size f cd
 outer:=outer
 stack:=Pc qual scope s.heap.objs.size f cd::outer
 ex:=[]
 calm:=N2
 fn:=λ_=>N2
 pn:=[]
 xe:=λe s'=>Ik (model P w) (A.deeper (Pc qual scope s.heap.objs.size f cd)) (leaving (Pc qual scope s.heap.objs.size f cd) e) (λ_ s''=>CX outer H s fv e s'') (λe' s''=>CX outer H s fv e' s'') s'
theorem mR{sc:Scope}{n:Nat}(h:sc.names.lookup x=E .cell):∃c,(Kv n sc.names []).lookup x=E c:=by have q:=Mx sc.names n [] (.inl h);exact Le.mp q
theorem tu{CX:CXT}{mg:Str->Option q7}{base:Heap}{qual:Str}{scope:Scope}{f:SS}{cd:q7}{outer:List Env}{s1:D1}{fv:XK}{vs:List V}(S:gy N ps scope)(hd:A.handled=Z)(j:jH P w K mg base A outer s H)(Y:vs.length=ps.length)(r:Vals vs us)(x:InCallC s s.heap.objs.size (RT (Pc qual scope s.heap.objs.size f cd).kindOf (ps.zip us) λ_=>Z) (Kv (s.heap.objs.size+1) scope.names []) (RU (Pc qual scope s.heap.objs.size f cd).kindOf (ps.zip us) λ_=>Z) s1):
 Inv (i9 CX P w K mg base N qual scope f cd A outer s H fv) [] (cT N vs) H s1:=by
 have O:ps.length<=N.length:=by have:=congrArg Pe S.pre;rw[IJ]at this;lia
 obtain⟨h1,tk,rfl,J⟩:=x.done;have noA:∀b:SS,b∉(i9 CX P w K mg base N qual scope f cd A outer s H fv).ex:=λb z=>absurd (show b∈([]:List SS)from z) (by simp)
 refine⟨⟨j.mod,S.kind,rfl,rfl,HW _,λy z c h1 h2=>?_,λy B=>?_,λy c _ h=>?_,λ_=>hd,Around.frames_deeper j.frames,.inr ⟨rfl,rfl⟩,λb z=>absurd z (noA b),j.bs,j.bsz,λb _ _=>noA b,λb z=>absurd z (noA b),j.funs,j.frf⟩,
  rfl,j.bare,Un.kept J,⟨_,x.toInCall.ns,λi y v h1 h2 F2=>?_⟩,λy c h=>⟨_,x.cell y c h⟩,j.hok.fresh (HW _),λy c h=>?_,λp F=>absurd (show p∈([]:List (SS×Obj))from F) (by simp),j.hok.kept J,?_⟩
 ·exact name_of_addr x.apart (JP h1) (JP h2)
 ·have B:scope.names.lookup y=E .cell∨scope.names.lookup y=E .free:=B
  rcases B with B|B
  ·exact mR B
  ·exact absurd rfl (S.nofree _ (JP B))
 ·exact LS (x.above y c (JP h))
 ·have hi:i<vs.length:=by
   unfold cT at h2
   by_cases hi:i<vs.length
   ·exact hi
   ·rw[HP (by simpa using hi)]at h2
    rw[Jd]at h2
    split at h2<;>cases h2
  have U:vs[i]?=E v:=by
   unfold cT at h2;rw[HX (by simpa using hi),I8]at h2
   cases e:vs[i]? with
   |none=>rw[e]at h2;cases h2
   |some a=>rw[e]at h2;cases h2;rfl
  obtain⟨u,L,rv⟩:=r.get U;have F:ps[i]?=E y:=by rw[<-S.pre,Kk ∅];exact h1
  have ndP:ps.Nodup:=by rw[<-S.pre];exact S.nd.sublist (List.take_sublist _ _)
  refine⟨u,rv,?_⟩
  rcases S.par y (Ib F)with k|k
  ·exact .inl ⟨k,kJ ndP F L k⟩
  ·obtain⟨c,e⟩:=mR (n:=s.heap.objs.size+1) k;refine .inr ⟨.inl k,c,e,?_⟩;have q:=x.cell y c e;rw[kK ndP F L (by show scope.names.lookup y≠_;rw[k];decide)]at q
   exact q
 ·exact j.hok.fresh (LS (x.above y c (JP h)))
 ·unfold cT;show _=N.length;rw[hQ,hG,KU];lia
theorem CL {CX:CXT}{mg:Str->Option q7}{base:Heap}{k:Nat}{f:SS}{name qual:Str}{params:Arguments}{scope:Scope}{dV kV doc pm cdv ct oc:q7}{an od:Option SS}{osl:Array (Option q7)}{sp:Sp}(lk:K.lookup f=E ⟨oc,od,.func (Ls name qual params body scope dV kV doc pm an cdv ct),osl⟩)(L:NL K cdv qual=N2)(S:gy N ps scope)(len:∀vs H Q fv,sp vs H Q fv->vs.length=ps.length)(j:∀(A:Ji) (outer:List Env) (s:D1) (H:Hp) (vs:List V) (Q:VK) (fv:XK),Room k (A.deeper (Pc qual scope s.heap.objs.size f cdv))->sp vs H Q fv->
   ∃t,PSs (i9 CX P w K mg base N qual scope f cdv A outer s H fv) body t/\t {nx:=λ_ H'=>Q .non H',rt:=Q} (cT N vs) H):
 dh P w K mg base CX (k+1) f (Ls name qual params body scope dV kV doc pm an cdv ct) ps sp:=by
 refine⟨len,λA outer s H args us vs Q fv O B U r F=>?_⟩;have Y:=len _ _ _ _ F;have KX:K.In s.heap:=B.mod.kin.keeps λb o e=>(B.bs b o e).1;have lim:s.heap.NoLimit:=B.mod.nolimit.keeps λb o e=>(B.bs b o e).1;have z:∀y∈ps.zip us,scope.names.lookup y.1=E .local∨(scope.names.lookup y.1=E .cell/\((Kv (s.heap.objs.size+1) scope.names []).lookup y.1).isSome=N2):=λ⟨n,v⟩ hy=>by
  rcases S.par n (Nl hy).1 with q|q
  ·exact .inl q
  ·exact .inr ⟨q,Mx _ _ _ (.inl q)⟩
 refine codeAny_call_function O.depth (KX _ _ lk) rfl S.co S.gen rfl (PySem.W.codeRec_of KX L) (U _ _ _ _ ?_);refine wpAny_newFunctionEnv_cells S.kind z λenv he s1 x=>?_;subst he;refine⟨lim.keeps x.toInCall.keep,codeAny_func ?_⟩;obtain⟨t,F2,hq⟩:=j A outer s H vs Q fv (O.deeper _) F;have I:Inv (i9 CX P w K mg base N qual scope f cdv A outer s H fv) [] (cT N vs) H s1:=tu S O.hd B Y r x;refine Kf (F2 [] s1 (cT N vs) H _ I hq) (λfl s' hs=>?_) λe s' hs=>hs;have fin:∀{σ':St} {H':Hp} {v:V} {u:q7},Inv (i9 CX P w K mg base N qual scope f cdv A outer s H fv) [] σ' H' s'->RelV v u->Q v H'->CE outer P w H s Q u s':=λ{σ' H' v u} J rv q=>⟨v,H',J.os,J.bare,J.base,J.hok,rv,q⟩
 cases fl with
 |ret u=>obtain⟨v,σ',H',J,rv,q⟩:=hs;exact fin J rv q
 |next=>obtain⟨σ',H',J,q⟩:=hs;exact fin (v:=V.non) (u:=LP) J rfl q
 |brk=>obtain⟨_,_,_,q⟩:=hs;exact False.elim q
 |cont=>obtain⟨_,_,_,q⟩:=hs;exact False.elim q
end
section
section
variable{X:Cx}{x:Str}{p pos:Pos}{e:Expr}{es:List Expr}{t:TA}{id T:String}{r:List V->Hp->VK->Prop}
noncomputable def tCB(r:List V->Hp->VK->Prop)(t:TA):TE:=λσ H Q=>t σ H λvs H1=>r vs H1 Q
theorem cN(B:CallR X (.builtin id) r)(F:Gl X x)(hm:X.mg x=Z)(J:Nx x=E (.builtin id))(L:PA X (e::es) t)(O:x≠"__name__":=by decide)(j:(x==("__debug__":Str))=R9:=by decide)(he:IG (e::es) X.env=(R9,eval e X.env)::IG es X.env:=by rfl)(z:(Ms pos (IG es X.env)).any (·.1)=R9:=by rfl):PE X (.Call (.Name x p) (e::es) [] pos) (tCB r t):=by intro pins s σ H Q I h;refine KP (cV I F hm J ?_ O j);exact PyProof.Rows.callWith_builtin1 (thn (L pos pins s σ H _ I h) λus s1 U=>(by obtain⟨vs,H1,Y,F2,q1⟩:=U;exact B pins s1 σ H1 vs us Q Y F2 q1)) he z
theorem eB(B:CallR X (.type T) r)(F:Gl X x)(hm:X.mg x=Z)(J:Nx x=E (.type T))(L:PA X (e::es) t)(O:x≠"__name__":=by decide)(j:(x==("__debug__":Str))=R9:=by decide)(he:IG (e::es) X.env=(R9,eval e X.env)::IG es X.env:=by rfl)(z:(Ms pos (IG es X.env)).any (·.1)=R9:=by rfl):PE X (.Call (.Name x p) (e::es) [] pos) (tCB r t):=by intro pins s σ H Q I h;refine KP (cV I F hm J ?_ O j);exact Jl (thn (L pos pins s σ H _ I h) λus s1 U=>(by obtain⟨vs,H1,Y,F2,q1⟩:=U;exact B pins s1 σ H1 vs us Q Y F2 q1)) he z
end
end
end L2
namespace HT
open PySem PyProof.Rows
section
variable{prog:Iy}{w:IY}{A:Ji}{fv:q7->D1->Prop}{s:D1}
theorem cat_tup{t b:SS}{vs ws:List q7}{Q:q7->D1->Prop}(F2:IsTup s.heap t vs.toArray)(hb:IsTup s.heap b ws.toArray)(L:vs≠[])(h1:ws=[]->Q (.ref t) s)(h2:ws≠[]->Q (.ref s.heap.objs.size) {s with heap:=s.heap.push {cls:=.type "tuple",data:=.seq (vs++ws).toArray}})(hsz:vs.length+ws.length<=HZ):Ik (model prog w) A (JT .Add (.ref t) (.ref b)) Q fv s:=by
 obtain⟨⟨cls,dd,data,sl⟩,ho,O,n,hd⟩:=id F2;obtain⟨⟨U,z,data2,B⟩,j,J,Y,hd2⟩:=id hb;simp only at O hd J hd2;subst O hd J hd2;have e:vs.toArray++ws.toArray=(vs++ws).toArray:=by simp
 by_cases hw:ws=[]
 ·exact Qt ⟨_,ho,rfl⟩ ⟨_,j,rfl⟩ Oq Q1 My Mp (Md _ _)
   (tuple_addW1 t b vs.toArray ws.toArray n Y dd z sl B (by simpa using L) (by simp[hw])) ⟨ho,j,h1 hw⟩
 ·refine Qt ⟨_,ho,rfl⟩ ⟨_,j,rfl⟩ Oq Q1 My Mp (Md _ _)
   (tuple_addW2 t b vs.toArray ws.toArray n Y dd z sl B (by simpa using L) (by simpa using hw) (by rw[Ia,Ia];exact hsz)) ⟨ho,j,?_⟩
  rw[e];exact h2 hw
noncomputable def sIx(n d:Nat):Option Int->Nat
 |none=>d
 |some v=>if v<0 then(v+(n:Int)).toNat else min v.toNat n
theorem sIx_none(n d:Nat):sIx n d Z=d:=rfl
theorem sIx_nat(n d k:Nat):sIx n d (E (k:Int))=min k n:=by
 show(if(k:Int)<0 then((k:Int)+(n:Int)).toNat else min (k:Int).toNat n)=min k n
 rw[if_neg ∅,Il]
theorem AZ(n d:Nat)(hd:d<=n)(o:Option Int):sIx n d o<=n:=by
 cases o with
 |none=>exact hd
 |some v=>
  show(if v<0 then(v+(n:Int)).toNat else min v.toNat n)<=n
  by_cases hv:v<0
  ·rw[if_pos hv];lia
  ·rw[if_neg hv];exact Nat.min_le_right _ _
theorem pU(v:Int)(n d:Nat):(if v<0 then max (v+(n:Int)) 0 else min v (n:Int))=((sIx n d (E v):Nat):Int):=by
 show(if v<0 then max (v+(n:Int)) 0 else min v (n:Int))=(((if v<0 then(v+(n:Int)).toNat else min v.toNat n):Nat):Int)
 by_cases hv:v<0
 ·simp only[if_pos hv];lia
 ·simp only[if_neg hv];lia
theorem r9(lo hi:Option Int)(n:Nat):LZ lo hi 1 (n:Int)=(((sIx n 0 lo:Nat):Int),((sIx n n hi:Nat):Int)):=by
 have h1:¬((1:Int)<0):=∅
 unfold LZ;simp only[h1,if_false];refine Ou ?_ ?_
 ·cases lo with
  |none=>rfl
  |some v=>exact pU v n 0
 ·cases hi with
  |none=>rfl
  |some v=>exact pU v n n
theorem rc(i j:Nat):KZ (i:Int) (j:Int) 1=j-i:=by
 unfold KZ;have h1:(1:Int) > 0:=∅
 simp only[h1,if_true,Int.ediv_one]
 split<;>lia
theorem iP{v:q7}{o:Option Int}{Q:Option Int->D1->Prop}(p:OG v o)(h:Q o s):Ik (model prog w) A (Builtin.Slice.slicePartIndex v) Q fv s:=by
 cases p with
 |none=>exact slicePart_none h
 |int i t=>exact slicePart_int h
theorem dU{sl:SS}{vl vu:q7}{lo hi:Option Int}{n:Nat}{Q:Int×Int×Nat->D1->Prop}(hs:s.heap.IsSliceOf sl vl vu .none)(pl:OG vl lo)(pu:OG vu hi)(h:Q (((sIx n 0 lo:Nat):Int),1,sIx n n hi-sIx n 0 lo) s):Ik (model prog w) A (NM (.ref sl) (pure (n:Int))) Q fv s:=by
 obtain⟨os,j,B,z⟩:=id hs;unfold NM Builtin.Slice.sliceFields;refine gV (gV (Je j z (x:=vl) rfl (gV (Je j z (x:=vu) rfl (gV (Je j z (x:=.none) rfl (D2 ?_)))))));refine gV (slicePart_none ?_);show Ik _ _ (if((1:Int)==0)=N2 then _ else _) _ _ s
 rw[if_neg (by decide)]
 refine gV (iP pl (gV (iP pu (gV (D2 ?_)))));show Ik _ _ (match LZ lo hi 1 (n:Int)with|(lo,hi)=>pure (lo,(1:Int),KZ lo hi 1)) _ _ s
 rw[r9 lo hi n];show Ik _ _ (pure (((sIx n 0 lo:Nat):Int),(1:Int),KZ ((sIx n 0 lo:Nat):Int) ((sIx n n hi:Nat):Int) 1)) _ _ s;rw[rc];exact D2 h
theorem vZ(xs:Array q7)(i k:Nat):((HV k).filterMap λ(m:Nat)=>xs[((i:Int)+(m:Int)*1).toNat]?).toArray=((xs.toList.drop i).take k).toArray:=by
 have e:(λ(m:Nat)=>xs[((i:Int)+(m:Int)*1).toNat]?)=λm=>xs[i+m]?:=by
  funext m
  have:((i:Int)+(m:Int)*1).toNat=i+m:=∅
  rw[this]
 rw[e];have:=pick_run xs i k;rw[List.filterMap_map]at this;have j:((λx=>xs[x]?)∘λx=>i+x)=λm=>xs[i+m]?:=rfl;rw[j]at this;rw[this]
theorem getItem_tuple_cut{t sl:SS}{items:Array q7}{vl vu:q7}{lo hi:Option Int}{Q:q7->D1->Prop}(z:IsTup s.heap t items)(hs:s.heap.IsSliceOf sl vl vu .none)(pl:OG vl lo)(pu:OG vu hi)(hw:¬(sIx items.size 0 lo=0/\sIx items.size items.size hi=items.size))(h:Q (.ref s.heap.objs.size) {s with heap:=s.heap.push {cls:=.type "tuple",data:=.seq ((items.toList.drop (sIx items.size 0 lo)).take (sIx items.size items.size hi-sIx items.size 0 lo)).toArray}})(hsz:items.size<=HZ):Ik (model prog w) A (OH (.ref t) (.ref sl)) Q fv s:=by
 have j:sizeOk (.seq ((items.toList.drop (sIx items.size 0 lo)).take (sIx items.size items.size hi-sIx items.size 0 lo)).toArray):=by show((items.toList.drop (sIx items.size 0 lo)).take (sIx items.size items.size hi-sIx items.size 0 lo)).toArray.size<=HZ;rw[Ia,IJ,JN,Jw];lia
 have U:sIx items.size items.size hi<=items.size:=AZ _ _ (HW _) hi;obtain⟨os,B,F,O⟩:=id hs;have J:s.TypeIs (.ref sl) "slice":=⟨os,B,F⟩;unfold OH
 try with_reducible refine Ju ?_
 first|refine gV (D2 ?_)|skip
 refine gV (Qu z.typeIs (by decide) ?_)
 refine gV (J0 (name:=IF "__getitem__") z.typeIs Kd
  (Jj Kd z.typeIs PQ ?_ (Qh _ _)))
 show Ik _ _ (NN (.ref t)>>=_) _ _ s;refine gV (tupleItemsOf_ z ?_);refine gV (L8 J ?_);rw[if_pos (by decide)]
 refine gV (dU hs pl pu ?_);have L:¬((((sIx items.size 0 lo:Nat):Int)==0&&(1:Int)==1&&(sIx items.size items.size hi-sIx items.size 0 lo)==items.size)=N2):=by intro q;rw[D0,D0]at q;have Y:((sIx items.size 0 lo:Nat):Int)=0:=eq_of_beq q.1.1;have F2:sIx items.size items.size hi-sIx items.size 0 lo=items.size:=eq_of_beq q.2;exact hw ⟨∅,∅⟩
 show Ik _ _ (if(((sIx items.size 0 lo:Nat):Int)==0&&(1:Int)==1&&(sIx items.size items.size hi-sIx items.size 0 lo)==items.size)=N2 then _ else _) _ _ s
 rw[if_neg L,vZ]
 first
  |exact gV (m:=Lf _) (JQ (D2 ⟨_,rfl,D2 h⟩) j)
  |exact gV (m:=Lf _) (JQ (gV (D2 (D2 ⟨_,rfl,D2 h⟩))) j)
  |exact gV (gV (m:=Lf _) (JQ (D2 (D2 ⟨_,rfl,D2 h⟩)) j))
  |exact gV (gV (m:=Lf _) (JQ (D2 ⟨_,rfl,D2 h⟩) j))
end
end HT
namespace L2
open PySem PySem.Spec PyProof.Rows
variable{xs:List V}
section
noncomputable abbrev TO:=St->Hp->(Option Int->Hp->Prop)->Prop
def PO(X:Cx)(e:Option Expr)(t:TO):Prop:=
 ∀(pins:List (SS×Obj)) (s:D1) (σ:St) (H:Hp) (Q:Option Int->Hp->Prop),Inv X pins σ H s->t σ H Q->
  Ik (model X.prog X.w) X.A (evalPart e X.env) (λu s'=>∃o H',Inv X pins σ H' s'/\OG u o/\Q o H') X.xe s
noncomputable def yR:TO:=λ_ H Q=>Q Z H
noncomputable def CM(t:TE):TO:=λσ H Q=>t σ H λx H1=>∃i,x=.int i/\Q (E i) H1
section
variable{X:Cx}{e:Expr}{te:TE}{lo hi:Option Expr}{tl th:TO}{pos p2:Pos}
theorem yS:PO X Z yR:=by intro pins s σ H Q I h;rw[evalPart_none];exact D2 ⟨Z,H,I,.none,h⟩
theorem yT(h:PE X e te):PO X (E e) (CM te):=by intro pins s σ H Q I hw;rw[evalPart_some];refine thn (h pins s σ H _ I hw) λu s1 j=>?_;obtain⟨x,H1,z,B,F⟩:=j;obtain⟨i,rfl,q⟩:=F;obtain⟨t,rfl⟩:=B;exact⟨E i,H1,z,.int i t,q⟩
def SlR(X:Cx)(r:V->Option Int->Option Int->Hp->VK->Prop):Prop:=
 ∀(pins:List (SS×Obj)) (s:D1) (σ:St) (H:Hp) (x:V) (v vl vu:q7) (lo hi:Option Int) (sl:SS) (Q:VK),Inv X pins σ H s->RelV x v->s.heap.IsSliceOf sl vl vu .none->OG vl lo->OG vu hi->r x lo hi H Q->
  ∃T id,typeLookup (.type T) "__getitem__"=pure (E (.builtin id))/\s.TypeIs v T/\Ik (model X.prog X.w) X.A (OH v (.ref sl)) (EP X pins σ Q) X.xe s
theorem SlR.or{r r':V->Option Int->Option Int->Hp->VK->Prop}(h:SlR X r)(h':SlR X r'):SlR X (λx lo hi H Q=>r x lo hi H Q∨r' x lo hi H Q):=by
 intro pins s σ H x v vl vu lo hi sl Q I rx hs pl pu q
 rcases q with q|q
 ·exact h pins s σ H x v vl vu lo hi sl Q I rx hs pl pu q
 ·exact h' pins s σ H x v vl vu lo hi sl Q I rx hs pl pu q
noncomputable def tSl(r:V->Option Int->Option Int->Hp->VK->Prop)(te:TE)(tl th:TO):TE:=λσ H Q=>te σ H λx H1=>tl σ H1 λl H2=>th σ H2 λu H3=>r x l u H3 Q
theorem w4{r:V->Option Int->Option Int->Hp->VK->Prop}(B:SlR X r)(he:PE X e te)(F:PO X lo tl)(J:PO X hi th):PE X (.Subscript e (.Slice lo hi Z p2) pos) (tSl r te tl th):=by
 intro pins s σ H Q I h;refine Subscript_ (thn (he pins s σ H _ I h) λv s1 j=>?_);obtain⟨x,H1,L,O,U⟩:=j;refine wpAny_Slice (thn (F pins s1 σ H1 _ L U) λvl s2 ⟨l,H2,Y,pl,F2⟩=>thn (J pins s2 σ H2 _ Y F2) λvu s3 j=>?_);obtain⟨u,z,I3,pu,q3⟩:=j;rw[evalPart_none];refine D2 ?_;have I4:Inv X pins σ z {s3 with heap:=s3.heap.push {cls:=.type "slice",data:=.fields #[vl,vu,.none]}}:=I3.kept (t':=s3.toks) λb ob q=>tv _ q
 obtain⟨T,id,hT,ht,hg⟩:=B pins {s3 with heap:=s3.heap.push {cls:=.type "slice",data:=.fields #[vl,vu,.none]}} σ z x v vl vu l u s3.heap.objs.size Q I4 O (Heap.IsSliceOf.new ..) pl pu q3
 show Ik (model X.prog X.w) X.A (subscriptTail e (.Slice lo hi Z p2) v (.ref s3.heap.objs.size)) (EP X pins σ Q) X.xe {s3 with heap:=s3.heap.push {cls:=.type "slice",data:=.fields #[vl,vu,.none]}}
 exact tail_any (ops:=[.ref s3.heap.objs.size,v]) ht hT hg (by with_unfolding_all rfl)
noncomputable def fQ(xs:List V)(lo hi:Option Int):List V:=(xs.drop (HT.sIx xs.length 0 lo)).take (HT.sIx xs.length xs.length hi-HT.sIx xs.length 0 lo)
theorem gZ(xs:List V)(lo hi:Option Int):(fQ xs lo hi).length<=xs.length:=by unfold fQ;rw[IJ,JN];lia
noncomputable def E6(K:Frag):V->Option Int->Option Int->Hp->VK->Prop:=λx lo hi H Q=>∃a xs,x=.ref a/\SqT K H a xs /\
 ¬(HT.sIx xs.length 0 lo=0/\HT.sIx xs.length xs.length hi=xs.length)/\∀p,H p=Z->Q (.ref p) (upd H p (.tup (fQ xs lo hi)))
theorem sl_tup:SlR X (E6 X.K):=by
 intro pins s σ H x v vl vu lo hi sl Q I rx hs pl pu h;obtain⟨a,xs,rfl,hx,hw,q⟩:=h
 cases rx
 obtain⟨its,r,j,z⟩:=I.tuple hx;have hlen:its.toArray.size=xs.length:=by rw[Ia];exact r.length.symm
 refine⟨"tuple",_,PyProof.Rows.slot_tuple_getitem.lookup,j.typeIs,?_⟩;refine HT.getItem_tuple_cut j hs pl pu (by rw[hlen];exact hw) ?_ (by rw[hlen];exact z)
 rw[hlen];refine⟨.ref s.heap.objs.size,_,I.laid (t':=s.toks) (o:=.tup (fQ xs lo hi)) (λb ob q=>tv _ q) (HW _) ?_,rfl,q _ (I.hok.fresh (HW _))⟩;exact⟨IW (gZ xs lo hi) z,_,(r.drop (HT.sIx xs.length 0 lo)).take (HT.sIx xs.length xs.length hi-HT.sIx xs.length 0 lo),NH _ _⟩
noncomputable def y6(K:Frag):R2:=λx y H Q=>∃a b xs ys,x=.ref a/\y=.ref b/\SqT K H a xs/\SqT K H b ys/\xs≠[]/\xs.length+ys.length<=HZ /\
 (ys=[]->Q (.ref a) H)/\(ys≠[]->∀p,H p=Z->Q (.ref p) (upd H p (.tup (xs++ys))))
theorem Vals.nil_iff{us:List q7}(r:Vals xs us):us=[]↔xs=[]:=by
 cases r with
 |nil=>simp
 |cons _ _=>simp
theorem op_catT:OpR X (JT .Add) (y6 X.K):=by
 intro pins s σ H x y v u Q I rx ry h;obtain⟨a,b,xs,ys,rfl,rfl,L,O,hx,F,U,Y⟩:=h
 cases rx
 cases ry
 obtain⟨its,B,F2,_⟩:=I.tuple L;obtain⟨J,j,p2,_⟩:=I.tuple O;refine HT.cat_tup F2 p2 (λz=>hx (B.nil_iff.mp z)) (λz=>⟨.ref a,H,I,rfl,U (j.nil_iff.mp z)⟩) (λz=>?_) (by rw[<-B.length,<-j.length];exact F)
 refine⟨.ref s.heap.objs.size,_,I.laid (t':=s.toks) (o:=.tup (xs++ys)) (λb ob q=>tv _ q) (HW _) ?_,rfl,Y (λw=>z (j.nil_iff.mpr w)) _ (I.hok.fresh (HW _))⟩;exact⟨by rw[hQ];exact F,_,B.append j,NH _ _⟩
end
end
variable{pins:List (SS×Obj)}{σ:St}{H:Hp}{s:D1}{its:List q7}
section
noncomputable def ixN(n:Nat)(i:Int):Option Nat:=if 0<=i then(if i<n then E i.toNat else Z)else if -(n:Int)<=i then E (i+n).toNat else Z
noncomputable def atI{α:Type}(xs:List α)(i:Int):Option α:=(ixN xs.length i).bind λj=>xs[j]?
theorem jI{n:Nat}{i:Int}{j:Nat}(h:ixN n i=E j):seqIndex? i n=E j/\j<n /\ -(n:Int)<=i/\i<n:=by
 unfold ixN at h
 by_cases h0:0<=i
 ·rw[if_pos h0]at h
  by_cases h1:i<n
  ·rw[if_pos h1]at h;have e:i.toNat=j:=Ir.inj h;exact⟨by rw[Rh h0 h1,e],∅,∅,h1⟩
  ·rw[if_neg h1]at h;cases h
 ·rw[if_neg h0]at h
  by_cases h1:-(n:Int)<=i
  ·rw[if_pos h1]at h;have e:(i+n).toNat=j:=Ir.inj h;exact⟨by rw[Qv ∅ h1,e],∅,h1,∅⟩
  ·rw[if_neg h1]at h;cases h
theorem pV{α:Type}{xs:List α}{i:Int}{v:α}(h:atI xs i=E v):∃j,seqIndex? i xs.length=E j/\xs[j]?=E v/\j<xs.length /\ -(xs.length:Int)<=i/\i<xs.length:=by
 unfold atI at h
 cases e:ixN xs.length i with
 |none=>rw[e]at h;cases h
 |some j=>rw[e]at h;obtain⟨h1,h2,z,B⟩:=jI e;exact⟨j,h1,h,h2,z,B⟩
theorem w5{α:Type}(xs:List α)(v:α):atI (xs++[v]) (-1)=E v:=by
 have j:(xs++[v]).length=xs.length+1:=by simp
 have e:ixN (xs++[v]).length (-1)=E xs.length:=by
  unfold ixN;rw[j,if_neg (by decide),if_pos ∅]
  congr 1;lia
 unfold atI;rw[e];show(xs++[v])[xs.length]?=E v;simp
def jJ(b:Expr):Prop:=∀o i,subscripted b R9 o i=operate [o,i] (OH o i)
def IxR(X:Cx)(r:R2):Prop:=
 ∀(value slice:Expr) (pins:List (SS×Obj)) (s:D1) (σ:St) (H:Hp) (x y:V) (v u:q7) (Q:VK),Inv X pins σ H s->RelV x v->RelV y u->r x y H Q->
  subscripted slice R9 v u=operate [v,u] (OH v u)->Ik (model X.prog X.w) X.A (subscriptTail value slice v u) (EP X pins σ Q) X.xe s
def MtR(X:Cx)(id:String)(r:V->List V->Hp->VK->Prop):Prop:=
 ∀(pins:List (SS×Obj)) (s:D1) (σ:St) (H:Hp) (x:V) (xs:List V) (v:q7) (us:List q7) (Q:VK),Inv X pins σ H s->RelV x v->Vals xs us->r x xs H Q->
  Ik (model X.prog X.w) X.A (call (.builtin id) (v::us)) (EP X pins σ Q) X.xe s
section
variable{X:Cx}{a b:Expr}{ta tb:TE}{pos:Pos}
theorem IxR.or{r r':R2}(h:IxR X r)(h':IxR X r'):IxR X (λx y H Q=>r x y H Q∨r' x y H Q):=by
 intro value slice pins s σ H x y v u Q I rx ry q hs
 rcases q with q|q
 ·exact h value slice pins s σ H x y v u Q I rx ry q hs
 ·exact h' value slice pins s σ H x y v u Q I rx ry q hs
theorem CN{r:R2}(j:IxR X r)(z:PE X a ta)(B:PE X b tb)(hs:jJ b):PE X (.Subscript a b pos) (tOp r ta tb):=by intro pins s σ H Q I h;exact Subscript_ (vS z B I h λv u s2 x y H2 F rx ry q=>j a b pins s2 σ H2 x y v u Q F rx ry q (hs _ _))
noncomputable def E7(K:Frag):R2:=λx y H Q=>∃p xs i v,x=.ref p/\y=.int i/\SqL K H p xs/\atI xs i=E v/\Q v H
noncomputable def E8(K:Frag):R2:=λx y H Q=>∃p xs i v,x=.ref p/\y=.int i/\SqT K H p xs/\atI xs i=E v/\Q v H
theorem ix_list:IxR X (E7 X.K):=by
 intro value slice pins s σ H x y v u Q I rx ry h hs;obtain⟨p,xs,i,z,rfl,rfl,F,he,q⟩:=h
 cases rx
 obtain⟨t,rfl⟩:=ry;obtain⟨its,r,pl,U⟩:=I.list F;obtain⟨j,h1,h2,Y,J,L⟩:=pV he;obtain⟨w,ew,rw'⟩:=r.get h2;have O:=r.length;have F2:=fP;have fin:EP X pins σ Q w s:=⟨z,H,I,rw',q⟩
 by_cases h0:0<=i
 ·have B:i.toNat=j:=by
   rw[Rh h0 L]at h1;exact Ir.inj h1
  exact item_listR pl.isList h0 ∅ (by rw[B];simpa using ew) fin hs
 ·have B:(i+(its.toArray.size:Int)).toNat=j:=by
   rw[Qv ∅ J]at h1
   rw[Ia,<-O];exact Ir.inj h1
  exact OI (x:=w) pl.isList.typeIs slot_list_getitem.lookup
   (wpAny_getItem_list_neg (Q:=λr s'=>r=w/\EP X pins σ Q r s') pl.isList ∅ (by rw[Ia]<;>lia) ∅ (by rw[B];simpa using ew) ⟨rfl,fin⟩) hs
theorem ix_tup:IxR X (E8 X.K):=by
 intro value slice pins s σ H x y v u Q I rx ry h hs;obtain⟨p,xs,i,z,rfl,rfl,B,he,q⟩:=h
 cases rx
 obtain⟨t,rfl⟩:=ry;obtain⟨its,r,pl,J⟩:=I.tuple B;obtain⟨j,h1,h2,L,O,U⟩:=pV he;obtain⟨w,ew,rw'⟩:=r.get h2;have F:=r.length;have Y:=fP;have fin:EP X pins σ Q w s:=⟨z,H,I,rw',q⟩;exact OI (x:=w) pl.typeIs slot_tuple_getitem.lookup
  (getItem_tuple (j:=j) (Q:=λr s'=>r=w/\EP X pins σ Q r s') pl ∅ ∅ (by rw[Ia,<-F];exact h1) (by simpa using ew) ⟨rfl,fin⟩) hs
theorem rf(its:List q7)(n j:Nat)(u:q7):Lu (·.setIfInBounds j u) {cls:=.type "list",data:=.seq its.toArray n}={cls:=.type "list",data:=.seq (its.set j u).toArray n}:=by simp[Lu]
theorem Inv.lst{p:SS}(I:Inv X pins σ H s)(h:H p=E (.lst xs)):
 ∃(its:List q7) (n:Nat),Vals xs its/\s.heap.get? p=E {cls:=.type "list",data:=.seq its.toArray n}/\xs.length<=HZ:=by
 obtain⟨z,its,n,r,e⟩:=I.hok p _ h;exact⟨its,n,r,e,z⟩
theorem Inv.lstUpd{p:SS}{ys:List V}{its':List q7}{n n':Nat}{f:Obj->Obj}(I:Inv X pins σ H s)(h:H p=E (.lst xs))(ho:s.heap.get? p=E {cls:=.type "list",data:=.seq its.toArray n})(hf:f {cls:=.type "list",data:=.seq its.toArray n}={cls:=.type "list",data:=.seq its'.toArray n'})(r:Vals ys its')(j:ys.length<=HZ)(t:Nat):
 Inv X pins σ (upd H p (.lst ys)) {s with heap:=s.heap.update p f,toks:=t}:=by
 have e:(s.heap.update p f).get? p=E {cls:=.type "list",data:=.seq its'.toArray n'}:=by rw[P2 f ho (by rw[hf]<;>rfl),hf]
 refine I.write (x:=p) (e:=p) (by rw[h];trivial) (.inl rfl) (λb u z q=>(OJ _ _ (Ne.symm z)).trans q) ⟨_,e⟩ ?_
 exact⟨j,its',n',r,e⟩
noncomputable def y7:V->V->V->Hp->(Hp->Prop)->Prop:=λo i v H Q=>∃p xs k j,o=.ref p/\i=.int k/\H p=E (.lst xs)/\ixN xs.length k=E j/\Q (upd H p (.lst (xs.set j v)))
theorem w6:PSet X y7:=by
 intro pins s σ H o i v ov iv u Q I ro ri rv h;obtain⟨p,xs,k,j,rfl,rfl,F,O,q⟩:=h
 cases ro
 obtain⟨t,rfl⟩:=ri;obtain⟨its,n,r,ho,U⟩:=I.lst F;obtain⟨h1,h2,J,L⟩:=jI O;have z:=r.length;have Y:=fP;have I':Inv X pins σ (upd H p (.lst (xs.set j v))) {s with heap:=s.heap.update p (Lu (·.setIfInBounds j u))}:=I.lstUpd F ho (rf its n j u) (r.set rv j) (by rw[LB];exact U) s.toks
 by_cases h0:0<=k
 ·have B:k.toNat=j:=by
   rw[Rh h0 L]at h1;exact Ir.inj h1
  exact PySem.W.ki_setAt ho h0 ∅ (by rw[Ia,<-z];exact L) (by rw[B];exact⟨_,I',q⟩)
 ·have B:(k+(its.toArray.size:Int)).toNat=j:=by
   rw[Qv ∅ J]at h1
   rw[Ia,<-z];exact Ir.inj h1
  exact PySem.W.ki_setBack ho ∅ (by rw[Ia,<-z];exact J) ∅ (by rw[B];exact⟨_,I',q⟩)
theorem mU(lo hi:Option Int)(n:Nat):(Mq lo hi Z n).1=((HT.sIx n 0 lo:Nat):Int)/\(Mq lo hi Z n).2.1=((HT.sIx n n hi:Nat):Int)/\(Mq lo hi Z n).2.2=1:=by
 refine⟨?_,?_,rfl⟩
 ·cases lo with
  |none=>simp[Mq,HT.sIx]
  |some i=>
   simp only[Mq,HT.sIx,QN,show(1:Int) > 0 by decide,if_true]
   by_cases h:i<0
   ·simp only[h,if_true]<;>lia
   ·simp only[h,if_false]<;>lia
 ·cases hi with
  |none=>simp[Mq,HT.sIx]
  |some i=>
   simp only[Mq,HT.sIx,QN,show(1:Int) > 0 by decide,if_true]
   by_cases h:i<0
   ·simp only[h,if_true]<;>lia
   ·simp only[h,if_false]<;>lia
theorem lV(its:List q7)(lo hi:Option Int):slicePick its.toArray lo hi Z=((its.drop (HT.sIx its.length 0 lo)).take (HT.sIx its.length its.length hi-HT.sIx its.length 0 lo)).toArray:=by obtain⟨h1,h2,j⟩:=mU lo hi its.toArray.size;unfold slicePick;rw[h1,h2,j];simp only[sliceRange_one,pick_run,Ia]<;>rfl
noncomputable def E9(K:Frag):V->Option Int->Option Int->Hp->VK->Prop:=λx lo hi H Q=>∃a xs,x=.ref a/\SqL K H a xs/\∀p,H p=Z->Q (.ref p) (upd H p (.lst (fQ xs lo hi)))
theorem sl_list:SlR X (E9 X.K):=by
 intro pins s σ H x v vl vu lo hi sl Q I rx hs pl pu h;obtain⟨a,xs,rfl,hx,q⟩:=h
 cases rx
 obtain⟨its,r,j,z⟩:=I.list hx;have hlen:=r.length;refine⟨"list",_,slot_list_getitem.lookup,j.isList.typeIs,?_⟩;refine wpAny_getItem_list_slice j.isList hs pl pu .none (by simp) ?_ (by rw[Ia]<;>lia)
 rw[lV,<-hlen];refine⟨.ref s.heap.objs.size,_,I.laid (t':=s.toks) (o:=.lst (fQ xs lo hi)) (λb ob q=>tv _ q) (HW _) ?_,rfl,q _ (I.hok.fresh (HW _))⟩;exact⟨IW (gZ xs lo hi) z,_,0,(r.drop (HT.sIx xs.length 0 lo)).take (HT.sIx xs.length xs.length hi-HT.sIx xs.length 0 lo),I9 _ rfl⟩
theorem mV:CallR X (.type "list") (λxs H Q=>∃p ys,xs=[.ref p]/\(SqL X.K H p ys∨SqT X.K H p ys)/\∀l,H l=Z->Q (.ref l) (upd H l (.lst ys))):=by
 intro pins s σ H xs us Q I r h;obtain⟨p,ys,rfl,j,q⟩:=h;obtain⟨u,rfl,rx⟩:=eA r
 cases rx
 have fin:∀(its:List q7),Vals ys its->ys.length<=HZ->∀(h':Heap) (c':Nat),(∀b o',s.heap.get? b=E o'->h'.get? b=E o')->
  h'.get? s.heap.objs.size=E {cls:=.type "list",dict:=Z,data:=.seq its.toArray c',slots:=#[]}->EP X pins σ Q (.ref s.heap.objs.size) {s with heap:=h'}:=λits r' z h' c' kp e=>
  ⟨.ref s.heap.objs.size,_,I.laid (t':=s.toks) kp (HW _) (show ObjOk X.prog X.w _ h' _ (.lst ys)from⟨z,its,c',r',e⟩),rfl,q _ (I.hok.fresh (HW _))⟩
 rcases j with j|j
 ·obtain⟨its,r',pl,z⟩:=I.list j;have hlen:=r'.length;obtain⟨o,ho,B,n,hd⟩:=pl.isList;exact call_list_seq p (.inl rfl) ho B hd (λh' c' kp e=>fin its r' z h' c' kp e) (by simp only[Ia]<;>lia)
 ·obtain⟨its,r',pl,z⟩:=I.tuple j;have hlen:=r'.length;obtain⟨o,ho,B,n,hd⟩:=pl;exact call_list_seq p (.inr rfl) ho B hd (λh' c' kp e=>fin its r' z h' c' kp e) (by simp only[Ia]<;>lia)
theorem lW:CallR X (.type "tuple") (λxs H Q=>∃p ys,xs=[.ref p]/\((SqL X.K H p ys/\∀l,H l=Z->Q (.ref l) (upd H l (.tup ys)))∨(SqT X.K H p ys/\Q (.ref p) H))):=by
 intro pins s σ H xs us Q I r h;obtain⟨p,ys,rfl,h⟩:=h;obtain⟨u,rfl,rx⟩:=eA r
 cases rx
 rcases h with⟨j,q⟩|⟨j,q⟩
 ·obtain⟨its,r',pl,z⟩:=I.list j;have hlen:=r'.length;refine call_tuple_list pl.isList (λh' kp=>?_) (by simp only[Ia]<;>lia)
  have B:Inv X pins σ H {s with heap:=h'}:=I.kept (t':=s.toks) kp
  have F:Inv X pins σ (upd H h'.objs.size (.tup ys)) {s with heap:=h'.push {cls:=.type "tuple",data:=.seq its.toArray}}:=B.laid (t':=s.toks) (λb o e=>tv _ e) (HW _) (show ObjOk X.prog X.w _ _ _ (.tup ys)from⟨z,its,r',NH _ _⟩)
  exact⟨.ref h'.objs.size,_,F,rfl,q _ (B.hok.fresh (HW _))⟩
 ·obtain⟨its,r',pl,z⟩:=I.tuple j;exact call_tuple_same pl ⟨.ref p,H,I,rfl,q⟩
def tyV(K:Frag)(T:String)(x:V)(H:Hp):Prop:=match x with
 |.str _=>T="str"
 |.int _=>T="int"
 |.ref p=>(T="list"/\∃xs,SqL K H p xs)∨(T="tuple"/\∃o,K.lookup p=E o/\o.cls=.type "tuple"/\o.dict=Z) ∨
  (T="dict"/\((∃kvs,H p=E (.dK kvs))∨∃kvs,H p=E (.dT kvs)))∨(T="set"/\∃S n,H p=E (.set S n))
 |_=>False
theorem B0{T:String}{x:V}{v:q7}(I:Inv X pins σ H s)(r:RelV x v)(ty:tyV X.K T x H):
 s.TypeIs v T/\∀a,v=.ref a->∃ob,s.heap.get? a=E ob/\ob.dict=Z:=by
 cases x with
 |str z=>
  obtain⟨t,rfl⟩:=r
  cases(show T="str" from ty)
  exact⟨typeIs_str s z t,λ_ e=>nomatch e⟩
 |int i=>
  obtain⟨t,rfl⟩:=r
  cases(show T="int" from ty)
  exact⟨OK s i t,λ_ e=>nomatch e⟩
 |ref p=>
  cases r
  rcases ty with⟨rfl,xs,F⟩|⟨rfl,o,j,J,hd⟩|⟨rfl,j⟩|⟨rfl,S,n,j⟩
  ·obtain⟨its,_,pl,_⟩:=I.list F;refine⟨pl.isList.typeIs,λa e=>?_⟩
   cases e
   obtain⟨o,n,e,c,hd,_⟩:=pl;exact⟨o,e,hd⟩
  ·refine⟨⟨o,I.kIn p o j,J⟩,λa e=>?_⟩
   cases e
   exact⟨o,I.kIn _ o j,hd⟩
  ·have z:∃o,s.heap.get? p=E o/\o.ExactDict:=by
    rcases j with⟨kvs,j⟩|⟨kvs,j⟩
    ·obtain⟨_,_,_,_,o,_,_,e,ex,_⟩:=I.hok p _ j;exact⟨o,e,ex⟩
    ·obtain⟨_,_,_,_,o,_,_,e,ex,_⟩:=I.hok p _ j;exact⟨o,e,ex⟩
   obtain⟨o,e,ex⟩:=z;refine⟨⟨o,e,ex.1⟩,λa B=>?_⟩
   cases B
   exact⟨o,e,ex.2.1⟩
  ·obtain⟨o,_,_,_,e,ex,_⟩:=I.hok p _ j;refine⟨⟨o,e,ex.1⟩,λa B=>?_⟩
   cases B
   exact⟨o,e,ex.2.1⟩
 |_=>exact False.elim ty
noncomputable def tBM(K:Frag)(T:String)(r:V->List V->Hp->VK->Prop)(to:TE)(t:TA):TE:=λσ H Q=>to σ H λx H1=>tyV K T x H1/\t σ H1 λxs H2=>r x xs H2 Q
variable{o e:Expr}{es:List Expr}{to:TE}{t:TA}{name:Str}{apos cpos:Pos}{T id:String}{r:V->List V->Hp->VK->Prop}
theorem rg (pa:PlainAttrs T)(slot:Slot T name id)(J:typeOf (.builtin id)=pure (.type "method_descriptor"))(hm:MtR X id r)(ho:PE X o to)(F2:PA X (e::es) t)(z:Q2 o name X.env (eval o X.env)=eval o X.env:=by rfl)(F:((Ms cpos (IG (e::es) X.env)).all (fun x=>!x.1)&&(backToKw cpos (Ri [] X.env)).all (fun x=>x.1.isSome)
   && decide ((e::es).length+([]:List OL).length+(if([]:List OL).isEmpty then 0 else 1)<30))=N2:=by rfl)(B:(apos.endLine==cpos.line)=N2:=by rfl)(hs:IG (e::es) X.env=(R9,eval e X.env)::IG es X.env:=by rfl)(j:(Ms cpos (IG es X.env)).any (·.1)=R9:=by rfl):
 PE X (.Call (.Attribute o name apos) (e::es) [] cpos) (tBM X.K T r to t):=by
 intro pins s σ H Q I h;refine wpAny_Call_method_late z F B rfl (thn (ho pins s σ H _ I h) λv s1 L=>?_);obtain⟨x,H1,O,U,ty,q1⟩:=L;obtain⟨h1,h2⟩:=B0 O U ty;refine⟨T,id,pa,slot,J,h1,h2,?_⟩;have Y:=F2 cpos pins s1 σ H1 _ O q1;rw[hs]at Y⊢;refine OM (by show(R9 || (Ms cpos (IG es X.env)).any (·.1))=R9;rw[j]<;>rfl) (Pf ?_)
 exact thn Y λus s2 L=>(by obtain⟨vs,H2,I2,r2,q2⟩:=L;exact hm pins s2 σ H2 x vs v us Q I2 U r2 q2)
end
end
section
def MtM(X:Cx)(id:String)(r:V->List V->Hp->VK->Prop):Prop:=
 ∀(pins:List (SS×Obj)) (s:D1) (σ:St) (H:Hp) (x:V) (xs:List V) (v:q7) (us:List q7) (Q:VK),Inv X pins σ H s->RelV x v->Vals xs us->r x xs H Q->
  Ik (model X.prog X.w) X.A (call (.builtin id) (v::us)) (EP X pins σ Q) X.xe s
theorem Vals.one:∀{x:V} {us:List q7},Vals [x] us->∃u,us=[u]/\RelV x u
 |_,_,.cons r .nil=>⟨_,rfl,r⟩
theorem Vals.eraseIdx:∀{xs:List V} {us:List q7} (i:Nat),Vals xs us->Vals (xs.eraseIdx i) (us.eraseIdx i)
 |_,_,_,.nil=>.nil
 |_,_,0,.cons _ t=>t
 |_,_,i+1,.cons r t=>.cons r (Vals.eraseIdx i t)
theorem Vals.reverse{us:List q7}(h:Vals xs us):Vals xs.reverse us.reverse:=by
 induction h with
 |nil=>exact .nil
 |cons r t ih=>rw[LO,LO];exact Vals.append ih (.cons r .nil)
theorem Vals.rep{xs:List V}{us:List q7}(h:Vals xs us):∀k:Nat,Vals (HN k xs).flatten (HN k us).flatten
 |0=>.nil
 |k+1=>by rw[Jx,Jx,K0,K0];exact Vals.append h (Vals.rep h k)
theorem kL{α:Type}:∀(l:List α) (i:Nat),(l.eraseIdx i).length<=l.length
 |[],_=>HW _
 |_::_,0=>Nat.le_succ _
 |_::r,i+1=>MX (kL r i)
theorem fR(its:List q7):∀(k:Nat) (acc:List q7),
 Qi (λj z=>j++z) acc.toArray (HN k its.toArray)=(acc++(HN k its).flatten).toArray
 |0,acc=>by simp
 |k+1,acc=>by
  have e:acc.toArray++its.toArray=(acc++its).toArray:=by simp
  have B:(acc++its)++(HN k its).flatten=acc++(HN (k+1) its).flatten:=by rw[Jx,K0,IV]
  rw[<-B,<-fR its k (acc++its),<-e,Jx,JL]
section
variable{X:Cx}{pins:List (SS×Obj)}{σ:St}{H:Hp}{s:D1}{l b:SS}{xs ys zs:List V}
theorem Inv.lset{its':List q7}{n:Nat}{f:Array q7->Array q7}{t':Nat}(I:Inv X pins σ H s)(j:H l=E (.lst xs))(e:s.heap.get? l=E {cls:=.type "list",data:=.seq its.toArray n})(hf:f its.toArray=its'.toArray)(z:Vals ys its')(B:ys.length<=HZ):
 Inv X pins σ (upd H l (.lst ys)) {s with heap:=s.heap.update l (Lu f),toks:=t'}:=by
 have q:=PySem.IsL.update e f;rw[hf]at q;refine I.write (x:=l) (e:=l) (by rw[j];exact trivial) (.inl rfl) (λb' u F J=>(OJ s.heap (Lu f) (Ne.symm F)).trans J) ⟨_,q⟩ ?_
 exact⟨B,its',_,z,q⟩
theorem Inv.lnew{t':Nat}(I:Inv X pins σ H s)(j:Vals ys its)(z:ys.length<=HZ):
 Inv X pins σ (upd H s.heap.objs.size (.lst ys)) {s with heap:=s.heap.push {cls:=.type "list",data:=.seq its.toArray},toks:=t'}:=
 I.laid (λ_ _ q=>tv _ q) (HW _) ⟨z,its,0,j,I9 _ rfl⟩
theorem Inv.fresh(I:Inv X pins σ H s):H s.heap.objs.size=Z:=I.hok.fresh (HW _)
theorem Inv.lstM(I:Inv X pins σ H s)(j:H l=E (.lst xs)):xs.length<=HZ/\∃(its:List q7) (n:Nat),Vals xs its/\xs.length=its.length/\s.heap.get? l=E {cls:=.type "list",data:=.seq its.toArray n}:=by obtain⟨z,its,n,r,e⟩:=I.hok l _ j;exact⟨z,its,n,r,r.length,e⟩
theorem mW{n:Nat}(h:n<=HZ):Lg n=R9:=by unfold Lg;exact decide_eq_false ∅
end
section
variable{X:Cx}
noncomputable def pW:V->List V->Hp->VK->Prop:=λx vs H Q=>∃l xs y,x=.ref l/\vs=[y]/\H l=E (.lst xs)/\xs.length<HZ/\Q .non (upd H l (.lst (xs++[y])))
theorem kM:MtM X "list.append" pW:=by
 intro pins s σ H x vs v us Q I rx rv h;obtain⟨l,xs,y,rfl,rfl,j,B,q⟩:=h
 cases rx
 obtain⟨u,rfl,ru⟩:=rv.one;obtain⟨z,its,n,r,J,e⟩:=I.lstM j;refine MY F.slot_list_append ⟨_,e,rfl⟩ F.entry_list_append (F.args_list_append_2 _ _) (PySem.list_append l its.toArray n u (by rw[Ia];lia)) ⟨e,?_⟩
 refine⟨.non,_,I.lset (its':=its++[u]) j e (by simp) (r.append (.cons ru .nil)) ?_,rfl,q⟩
 rw[hQ,IA];lia
noncomputable def pX:V->List V->Hp->VK->Prop:=λx vs H Q=>∃l b xs zs,x=.ref l/\vs=[.ref b]/\H l=E (.lst xs)/\H b=E (.lst zs)/\xs.length+zs.length<=HZ/\Q .non (upd H l (.lst (xs++zs)))
theorem tw:MtM X "list.extend" pX:=by
 intro pins s σ H x vs v us Q I rx rv h;obtain⟨l,b,xs,zs,rfl,rfl,J,L,hz,q⟩:=h
 cases rx
 obtain⟨u,rfl,ru⟩:=rv.one
 cases ru
 obtain⟨z,its,n,r,hl,e⟩:=I.lstM J;obtain⟨z2,j,O,U,Y,F2⟩:=I.lstM L;have hsz:its.toArray.size+j.toArray.size<=HZ:=by rw[Ia,Ia];lia
 have B:¬(!its.toArray.isEmpty&&Lg (its.toArray.size+j.toArray.size))=N2:=by rw[mW hsz,Bool.and_false];exact Ih
 refine MY F.slot_list_extend ⟨_,e,rfl⟩ F.entry_list_extend (F.args_list_extend_2 _ _)
  (AutoSeq1.list_extend_list_list_0 l its.toArray n b j.toArray O B (by rw[Ia];lia) ∅) ⟨e,F2,?_⟩
 refine⟨.non,_,I.lset (its':=its++j) J e (by simp) (r.append U) ?_,rfl,q⟩
 rw[hQ];lia
noncomputable def tz:V->List V->Hp->VK->Prop:=λx vs H Q=>∃l xs i k y,x=.ref l/\vs=[.int i]/\H l=E (.lst xs) /\ -(2^63)<=i/\i<2^63/\seqIndex? i xs.length=E k/\xs[k]?=E y/\Q y (upd H l (.lst (xs.eraseIdx k)))
theorem w8:MtM X "list.pop" tz:=by
 intro pins s σ H x vs v us Q I rx rv h;obtain⟨l,xs,i,k,y,rfl,rfl,j,h1,h2,B,J,q⟩:=h
 cases rx
 obtain⟨u,rfl,ru⟩:=rv.one;obtain⟨t,rfl⟩:=ru;obtain⟨z,its,n,r,L,e⟩:=I.lstM j;obtain⟨w,hw,rw'⟩:=r.get J;refine MY F.slot_list_pop ⟨_,e,rfl⟩ F.entry_list_pop (F.args_list_pop_2 _ _)
  (MeetsSeq.list_pop_at l its.toArray n i t k w (fitsIndex_both h1 h2) (by rw[Ia,<-L];exact B) (by rw[<-Jy];exact hw) (by rw[Ia];lia)) ⟨e,?_⟩
 refine⟨y,_,I.lset (its':=its.eraseIdx k) j e ?_ (r.eraseIdx k) ?_,rw',q⟩
 ·show its.toArray.eraseIdxIfInBounds k=(its.eraseIdx k).toArray;rw[List.eraseIdxIfInBounds_toArray]
 ·have:=kL xs k;lia
noncomputable def Ea:R2:=λx y H Q=>∃l b xs zs,x=.ref l/\y=.ref b/\H l=E (.lst xs)/\H b=E (.lst zs)/\xs.length+zs.length<=HZ/\∀p,H p=Z->Q (.ref p) (upd H p (.lst (xs++zs)))
theorem op_cat:OpR X (JT .Add) Ea:=by
 intro pins s σ H x y v u Q I rx ry h;obtain⟨l,b,xs,zs,rfl,rfl,B,F,U,q⟩:=h
 cases rx
 cases ry
 obtain⟨z,its,n,r,Y,e⟩:=I.lstM B;obtain⟨F2,j,n2,J,L,O⟩:=I.lstM F;refine PySem.P.add_list e O ?_ (by rw[Ia,Ia];lia)
 have ea:its.toArray++j.toArray=(its++j).toArray:=by simp
 rw[ea];exact⟨.ref _,_,I.lnew (t':=s.toks) (r.append J) (by rw[hQ];lia),rfl,q _ I.fresh⟩
noncomputable def Eb:R2:=λx y H Q=>∃l k xs,x=.ref l/\y=.int k/\H l=E (.lst xs) /\ -(2^63)<=k/\k<2^63/\xs.length*k.toNat<=HZ /\
 ∀p,H p=Z->Q (.ref p) (upd H p (.lst (HN k.toNat xs).flatten))
theorem pY{α:Type}(xs:List α)(k:Nat):(HN k xs).flatten.length=k*xs.length:=by
 induction k with
 |zero=>simp
 |succ k ih=>rw[Jx,K0,hQ,ih,J1,Qw]
theorem op_rep:OpR X (JT .Mult) Eb:=by
 intro pins s σ H x y v u Q I rx ry h;obtain⟨l,k,xs,rfl,rfl,hH,h1,h2,F2,q⟩:=h
 cases rx
 obtain⟨t,rfl⟩:=ry;obtain⟨z,its,n,r,hl,e⟩:=I.lstM hH;have hlen:its.toArray.size*k.toNat<=HZ:=by rw[Ia,<-hl];exact F2
 have B:¬its.toArray.size*k.toNat > (2^63-1) / 8:=by
  have:(HZ:Nat)<=(2^63-1) / 8:=by decide
  lia
 have J:¬(!Builtin.List.listFitsIndex k)=N2:=by rw[fitsIndex_both h1 h2];exact Ih
 have j:¬Lg (its.toArray.size*k.toNat)=N2:=by rw[mW hlen];exact Ih
 have L:Qi (λO Y=>O++Y) #[] (HN (if its.toArray.isEmpty=N2 then 0 else k.toNat) its.toArray)=(HN k.toNat its).flatten.toArray:=by
  have f0:∀m:Nat,Qi (λO Y=>O++Y) #[] (HN m its.toArray)=(HN m its).flatten.toArray:=λm=>by have:=fR its m [];rw[OU]at this;exact this
  rw[f0]
  cases its with
  |nil=>simp
  |cons a r'=>rw[if_neg (by simp)]
 refine NT (T:="list") (U:="int") (by decide) ⟨_,e,rfl⟩ (λs'=>OK s' k t) noFill_list_mul Rz Nm repeat_list F.slot_int_index.lookup
  (MY Nm (OK s k t) QO (Qx _ _) (int___rmul___int_list k t l its.toArray n)
    ⟨e,rfl,⟨_,e,rfl⟩,MY F.slot_list_mul ⟨_,e,rfl⟩ F.entry_list_mul (F.args_list_mul_2 _ _) (AutoListH.list___mul___list_int_3 l its.toArray n k t J B j) ⟨e,?_⟩⟩)
 rw[L];exact⟨.ref _,_,I.lnew (t':=s.toks) (r.rep k.toNat) (by rw[pY,LU];exact F2),rfl,q _ I.fresh⟩
end
end
end L2
namespace Att
open PySem PySem.W PySem.Calls PyProof.Rows
theorem iQ{P:Params}{h:Heap}:∀(ns:List Int) (vs:List q7),WellAll P h vs (ns.map WData.int)->RI vs ns:=by
 intro ns
 induction ns with
 |nil=>
  intro vs w;rw[JC]at w
  cases w
  exact .nil
 |cons n ns ih=>
  intro vs w;rw[Ii]at w
  cases w with
  |cons a b=>
   cases a
   exact .cons _ _ (ih _ b)
theorem tD{l:OpenLaw}{n:Nat}(U:l.most=E n){P:Params}{h:Heap}{args:List WData}{vals:List q7}(j:l.row.toRowW.claim.pre args=N2)(J:WellAll P h vals args):
 ∃a vs ns,vals=[Ke a]/\args=[WData.list (ns.map WData.int)]/\h.get? a=E {cls:=.type "list",data:=.seq vs.toArray}/\RI vs ns/\ns.length<=n:=by
 have L:WShape.hasAll [] args [.list .int]=N2:=(pre_splitW j).1;have O:l.pre.holds [] {args:=args}=N2:=(pre_splitW j).2;obtain⟨d,r,rfl,h1,h2⟩:=hasAllW_cons L;obtain rfl:=hasAllW_nil h2;obtain⟨xs,rfl,Y⟩:=hasW_list h1;obtain⟨ns,rfl⟩:=items_int Y;have hlen:ns.length<=n:=by
  unfold OpenLaw.pre at O;have B:(WTm.not (.lt (.lit (.int (n:Int))) (.len (.arg 0)))).holds [] {args:=[.list (ns.map .int)]}=N2:=by have B:=(holds_andW O).1;rw[U]at B;exact B
  have F:=condW_of B (w_not (w_lt w_lit (w_len_list (w_arg rfl))));rw[hG]at F;refine Nat.le_of_not_lt λq=>?_;have q':(n:Int)<((ns.length:Nat):Int):=∅
  first
   |(rw[decide_eq_true q']at F;exact absurd F (by decide))
   |(simp at F;lia)
 cases J with
 |cons F2 w2=>
  cases w2
  cases F2 with
  |list ho z=>exact⟨_,_,ns,rfl,rfl,ho,iQ ns _ z,hlen⟩
theorem tE(l:OpenLaw)(args:List WData):l.row.toRowW.claim.post args (.bool N2) args=N2:=
 postW_of (r:=l.row.toRowW) (X:=(N2==N2))
  (show WShape.has [] (.bool N2) .bool=N2 by first|rfl|decide|simp[WShape.has,WShape.arms,WShape.armsAll])
  (show(WTm.eq .res (.lit (.bool N2))).value [] {args:=args,res:=E (.bool N2),after:=args}=E (.bool (N2==N2))from w_eq_bool (w_res rfl) w_lit) rfl
theorem attach_call {l:OpenLaw}{n:Nat}{q:Iy}{loose:List Str}{XP:(Str->Option q7)->Heap->Prop}{YP:IY->Heap->Prop}{d:DefRec}(F2:l.most=E n)(B:d.params.defaults=[])(call:∀(w:IY) (s₀ s₁:D1) (mg mb:Str->Option q7) (fa:SS) (o:Obj) (pm cd doc:q7) (a:SS) (vs:List q7) (ns:List Int),
   Ground q loose [] XP w s₀ mg mb s₁.heap->YP w s₁.heap->
   s₁.heap.get? fa=E o->o.data=.func (docDef d.name d.params d.body d.scope pm cd doc)->s₁.heap.CodeRec cd d.name->mg d.name=E (.ref fa)->
   s₁.heap.get? a=E {cls:=.type "list",data:=.seq vs.toArray}->RI vs ns->ns.length<=n->s₁.gens=#[]->
   Mf (model l.prog w) PH (.call (.ref fa) ⟨[.ref a],[]⟩) (λr s'=>r=.ok (.ret (.bool N2))/\OldK s₁.heap s'.heap/\s'.os=s₁.os/\NY s'.gens) s₁):
 WalkO q loose XP YP l.row.toRowW d [] (λf vs=>RV f vs):=by
 intro w s₀ s₁ mg mb G Y fa o pm cd doc dV kV ho hd F O J hg args vals as j U Gp L Gq;obtain rfl:dV=.none:=Dflts.none O B;obtain rfl:kV=.none:=Dflts.noKw O;obtain⟨a,vs,ns,rfl,rfl,z,hints,hlen⟩:=tD F2 j L;refine enter_call (Mw (call w s₀ s₁ mg mb fa o pm cd doc a vs ns G Y ho (fd_plain hd) F J z hints hlen hg) λr s' hq=>?_);obtain⟨rfl,h2,h3,h4⟩:=hq;exact⟨.inl ⟨.bool N2,.bool N2,[],rfl,λ_=>rfl,.bool N2,tE l _,λ_=>⟨Qy,λ_ hm=>(nomatch hm)⟩⟩,h2,h3,h4⟩
section
variable{prog:Iy}{w:IY}{A:Ji}{fv:q7->D1->Prop}{s:D1}{K:Frag}
noncomputable def Fi(h:Heap)(L d:SS):List (SS×Obj):=(HV h.objs.size).filterMap λa=>if a=L∨a=d then Z else(h.get? a).map λo=>(a,o)
end
end Att
namespace L2
open PySem PySem.Spec PyProof.Rows
variable{fd:LA}{x:Str}
section
theorem kN:∀{vs:List q7} {ns:List Int},RI vs ns->Vals (ns.map V.int) vs
 |_,_,.nil=>.nil
 |_,_,.cons n t h=>.cons ⟨t,rfl⟩ (kN h)
def rh(H:Hp):Prop:=∀b,H b=Z∨∃o xs,H b=E (.frz o (.lst xs))
theorem w9{P:Iy}{w:IY}{K:Frag}{mg mb:Str->Option q7}{CX:CXT}{k:Nat}{fa a:SS}{sp:Sp}{s₁:D1}{vs:List q7}{ns:List Int}(KX:K.In s₁.heap)(J:s₁.heap.Ns Jv mg)(j:s₁.heap.Ns OD mb)(F2:∀x:Str,x≠"__name__"->mb x=Nx x)(L:s₁.heap.NoLimit)(hg:s₁.gens=#[])(Y:s₁.heap.get? a=E {cls:=.type "list",data:=.seq vs.toArray})(hi:RI vs ns)(hl:ns.length<=HZ)(hr:Room k PH)(F:∀base:Heap,K.In base->base.Ns Jv mg->dh P w K mg base CX k fa fd [x] sp)(B:∀(s:D1) (u:q7),PF s fd ⟨[u],[]⟩ [(x,u)])(Gp:∀H:Hp,rh H->SqL K H a (ns.map V.int)->sp [.ref a] H (λv _=>v=.bl N2) λ_ _ _=>False)(Gq:∀H e s',CX [] H s₁ (λ_ _ _=>False) e s'->False):
 Mf (model P w) PH (.call (.ref fa) ⟨[.ref a],[]⟩) (λr s'=>r=.ok (.ret (.bool N2))/\OldK s₁.heap s'.heap/\s'.os=s₁.os/\NY s'.gens) s₁:=by
 have rv:=kN hi;have lenV:=hi.length;have core:∀H:Hp,rh H->SqL K H a (ns.map V.int)->HOk P w H s₁.heap->(∀b,H b≠Z->b=a)->(H a≠Z->K.lookup a=Z)->
  Mf (model P w) PH (.call (.ref fa) ⟨[.ref a],[]⟩) (λr s'=>r=.ok (.ret (.bool N2))/\OldK s₁.heap s'.heap/\s'.os=s₁.os/\NY s'.gens) s₁:=by
  intro H hO hS hok hA hK;have base_of:∀{b:SS} {o:Obj},s₁.heap.get? b=E o->H b=Z->(eW s₁.heap H).get? b=E o:=λe n=>vM e n;have noA:∀{b:SS} {o:Obj} {es:Array Kw} {ep:Nat},s₁.heap.get? b=E o->o.data=.dict es ep->H b=Z:=λ{b o es ep} e d=>by
   cases q:H b with
   |none=>rfl
   |some u=>
    have e':b=a:=hA b (by rw[q];simp)
    subst e';rw[Y]at e;cases e;have d':Nb vs.toArray _=Data.dict es ep:=d
    cases d'
  have nsK:∀{b:SS} {m:Str->Option q7},s₁.heap.Ns b m->(eW s₁.heap H).Ns b m:=λ{b m} g9=>(by obtain⟨o,es,ep,e,d,r⟩:=g9;exact⟨o,es,ep,base_of e (noA e d),d,r⟩)
  have O:K.In (eW s₁.heap H):=λb o e=>base_of (KX b o e) (by
   cases q:H b with
   |none=>rfl
   |some u=>
    have e':b=a:=hA b (by rw[q];simp)
    subst e';rw[hK (by rw[q];simp)]at e;cases e)
  have hM:Mod K mg (eW s₁.heap H):=⟨O,nsK J,⟨mb,nsK j,F2⟩,let⟨mc,h1,h2⟩:=L; ⟨mc,nsK h1,h2⟩⟩;have e0:jH P w K mg (eW s₁.heap H) PH [] s₁ H:=⟨rfl,hM,λb o e=>yD e,Nat.le_of_eq (sW _ _),trivial,λb j=>absurd (show b∈([]:List SS)from j) (by simp),hok,.of_eq hg⟩
  refine Mw ((F _ O (nsK J)).run PH [] s₁ H ⟨[.ref a],[]⟩ [.ref a] [.ref a] _ _ hr e0 (B s₁ (.ref a)) (.cons rfl .nil) (Gp H hO hS)) λr s' h=>?_
  cases r with
  |error e=>exact(Gq H e s' h).elim
  |ok fl=>
   cases fl with
   |next=>exact False.elim h
   |brk=>exact False.elim h
   |cont=>exact False.elim h
   |ret u=>
    obtain⟨v,H',os,bare,un,U,r',q⟩:=h;have q':v=.bl N2:=q;subst q';obtain rfl:u=RJ N2:=r';refine⟨rfl,OldK.of_keep λb o e=>?_,os,bare⟩
    cases q:H b with
    |none=>exact un.keep b o e q (by intro z;exact absurd (show b∈([]:List SS)from z) (by simp)) (by simp)
    |some u=>
     rcases hO b with z|⟨ob,xs,z⟩
     ·rw[q]at z;cases z
     ·have z2:=un.frzs b ob _ z;obtain⟨e1,_⟩:=hok b _ z;obtain⟨e2,_⟩:=U b _ z2;rw[e]at e1;cases e1;exact e2
 cases hk:K.lookup a with
 |some o=>
  have e:=KX a o hk;rw[Y]at e
  cases e
  refine core (λ_=>Z) (λ_=>.inl rfl) (.inr ⟨_,vs.toArray,_,hk,rfl,rfl,rfl,by rw[Ia,lenV];exact hl,by simpa using rv⟩) (λb u z=>by have z':(Z:Option HO)=E u:=z;cases z') (λb z=>absurd rfl z) λz=>absurd rfl z
 |none=>
  refine core (λb=>if b=a then E (.frz {cls:=.type "list",data:=.seq vs.toArray} (.lst (ns.map V.int)))else Z) (λb=>?_) (.inl (.inr ⟨{cls:=.type "list",data:=.seq vs.toArray},if_pos rfl⟩)) (λb u z=>?_) (λb z=>?_) λ_=>hk
  ·by_cases j:b=a
   ·exact .inr ⟨_,_,if_pos j⟩
   ·exact .inl (if_neg j)
  ·by_cases j:b=a
   ·have z':=(if_pos j).symm.trans z
    cases z'
    subst j;exact⟨Y,by rw[hG];exact hl,vs,_,rv,Y⟩
   ·have z':=(if_neg j).symm.trans z
    cases z'
  ·by_cases j:b=a
   ·exact j
   ·exact absurd (if_neg j) z
end
section
theorem walk_of {l:OV}{n k:Nat}{q:Iy}{loose:List Str}{XP:(Str->Option q7)->Heap->Prop}{YP:IY->Heap->Prop}{d:DefRec}{K:Params->Frag}{CX:IY->CXT}{sp:IY->Sp}(U:l.most=E n)(z:n<=HZ)(B:d.params.defaults=[])(F2:Room k PH)(hY:∀(w:IY) (h:Heap),YP w h->(K w.params).In h)(F:∀(w:IY) (mg:Str->Option q7) (fa:SS) (h:Heap),(K w.params).In h->h.Ns Jv mg->mg d.name=E (.ref fa)->
   ∃fd:LA,(∀(s:D1) (u:q7),PF s fd ⟨[u],[]⟩ [(x,u)]) /\
    ∀base:Heap,(K w.params).In base->base.Ns Jv mg->dh l.prog w (K w.params) mg base (CX w) k fa fd [x] (sp w))(J:∀(w:IY) (H:Hp) (a:SS) (ns:List Int),ns.length<=n->rh H->SqL (K w.params) H a (ns.map V.int)->sp w [.ref a] H (λv _=>v=.bl N2) λ_ _ _=>False)(L:∀(w:IY) (H:Hp) (s:D1) (e:q7) (s':D1),CX w [] H s (λ_ _ _=>False) e s'->False):
 PySem.W.WalkO q loose XP YP l.row.toRowW d [] (λf vs=>RV f vs):=by
 refine Att.attach_call U B λw s₀ s₁ mg mb fa o pm cd doc a vs ns G Y ho hd Gp O j hints hlen hg=>?_;have KX:=hY w _ Y;obtain⟨fd,hb,hF⟩:=F w mg fa _ KX G.T.g O;exact w9 KX G.T.g G.T.b G.T.builtins G.T.nolimit hg j hints (IW hlen z) F2 hF hb (λH hO hS=>J w H a ns hlen hO hS) λH e s'=>L w H s₁ e s'
end
variable{qual:Str}{st:Stmt}{f:SS}{H:Hp}
section
noncomputable def dH(s:Stmt):Arguments:=match s with
 |.FunctionDef _ a _ _ _ _ _ _ _ _=>a
 |_=>{posonlyargs:=[],args:=[],vararg:=Z,kwonlyargs:=[],kw_defaults:=[],kwarg:=Z,defaults:=[]}
noncomputable def ci(s:Stmt):List Stmt:=match s with
 |.FunctionDef _ _ b _ _ _ _ _ _ _=>b
 |_=>[]
noncomputable def aA(s:Stmt):Scope:=match s with
 |.FunctionDef _ _ _ _ _ _ sc _ _ _=>sc
 |_=>{kind:=.function,names:=[],isGenerator:=R9,isCoroutine:=R9}
noncomputable abbrev CX0:CXT:=λ_ _ _ _ _ _=>False
noncomputable abbrev E0:XK:=λ_ _ _=>False
theorem y8{X:Cx}:iO CX0 X E0:=λ_ _ _ _ _ _ _ h=>h.elim
structure Fun(K:Frag)(x qual:Str)(st:Stmt)(f:SS)(fd:LA):Prop where
 ex:∃(oc:q7) (od:Option SS) (kV doc pm:q7) (an:Option SS) (cdv ct:q7) (osl:Array (Option q7)),
  fd=Ls x qual (dH st) (ci st) (aA st) .none kV doc pm an cdv ct/\K.lookup f=E ⟨oc,od,.func fd,osl⟩/\NL K cdv qual=N2
 kp:KO K (.ref f)=N2
section
variable{P:Iy}{w:IY}{K:Frag}{mg:Str->Option q7}{base:Heap}
theorem Fun.ok {N ps:List Str}{k:Nat}{sp:Sp}(F:Fun K x qual st f fd)(S:gy N ps (aA st))(len:∀vs H Q fv,sp vs H Q fv->vs.length=ps.length)(j:∀(cdv:q7) (A:Ji) (outer:List Env) (s:D1) (H:Hp) (vs:List V) (Q:VK) (fv:XK),Room k (A.deeper (Pc qual (aA st) s.heap.objs.size f cdv))->sp vs H Q fv->
   ∃t,PSs (i9 CX0 P w K mg base N qual (aA st) f cdv A outer s H fv).nox (ci st) t/\t {nx:=λ_ H'=>Q .non H',rt:=Q} (cT N vs) H):dh P w K mg base CX0 (k+1) f fd ps sp:=by
 obtain⟨oc,od,kV,doc,pm,an,cdv,ct,osl,rfl,lk,z⟩:=F.ex;refine CL lk z S len λA outer s H vs Q fv J B=>?_;obtain⟨t,h,q⟩:=j cdv A outer s H vs Q fv J B;exact⟨t,h.nox,q⟩
theorem Fun.binds{ps:List Str}(F:Fun K x qual st f fd)(h:∀(kV doc pm:q7) (an:Option SS) (cdv ct:q7) (us:List q7),us.length=ps.length->bindArgs (Ls x qual (dH st) (ci st) (aA st) .none kV doc pm an cdv ct) ⟨us,[]⟩=pure (ps.zip us)):Binds K fd ps []:=by obtain⟨oc,od,kV,doc,pm,an,cdv,ct,osl,rfl,lk,j⟩:=F.ex;exact .all (h kV doc pm an cdv ct)
theorem ag{oc:q7}{od an:Option SS}{osl:Array (Option q7)}{kV doc pm cdv ct:q7}(l:K.lookup f=E ⟨oc,od,.func (Ls x qual (dH st) (ci st) (aA st) .none kV doc pm an cdv ct),osl⟩)(c:NL K cdv qual=N2)(k:KO K (.ref f)=N2):Fun K x qual st f (Ls x qual (dH st) (ci st) (aA st) .none kV doc pm an cdv ct):=⟨⟨oc,od,kV,doc,pm,an,cdv,ct,osl,rfl,l,c⟩,k⟩
end
def Same(H H':Hp):Prop:=∀b o,H b=E o->H' b=E o
theorem Same.trans{H1 H2:Hp}(a:Same H H1)(b:Same H1 H2):Same H H2:=λc o h=>b c o (a c o h)
theorem Same.free{H':Hp}(e:Same H H'){l:SS}(h:H' l=Option.none):H l=Option.none:=by
 cases q:H l with
 |none=>rfl
 |some o=>
  rw[e l o q]at h
  cases h
theorem Same.seq{K:Frag}{H':Hp}{a:SS}{xs:List V}(e:Same H H')(h:SqL K H a xs):SqL K H' a xs:=by
 rcases h with(h|⟨o,h⟩)|h
 ·exact .inl (.inl (e _ _ h))
 ·exact .inl (.inr ⟨o,e _ _ h⟩)
 ·exact .inr h
end
end L2
namespace HT
open PySem PySem.Spec PyProof.Rows
section
variable{prog:Iy}{w:IY}{A:Ji}{fv:q7->D1->Prop}{s:D1}
theorem getItem_tuple_whole{t sl:SS}{items:Array q7}{vl vu:q7}{lo hi:Option Int}{Q:q7->D1->Prop}(j:IsTup s.heap t items)(hs:s.heap.IsSliceOf sl vl vu .none)(pl:OG vl lo)(pu:OG vu hi)(hw:sIx items.size 0 lo=0/\sIx items.size items.size hi=items.size)(h:Q (.ref t) s):Ik (model prog w) A (OH (.ref t) (.ref sl)) Q fv s:=by
 obtain⟨os,z,B,L⟩:=id hs;have F:s.TypeIs (.ref sl) "slice":=⟨os,z,B⟩;unfold OH
 try with_reducible refine Ju ?_
 first|refine gV (D2 ?_)|skip
 refine gV (Qu j.typeIs (by decide) ?_)
 refine gV (J0 (name:=IF "__getitem__") j.typeIs Kd
  (Jj Kd j.typeIs PQ ?_ (Qh _ _)))
 show Ik _ _ (NN (.ref t)>>=_) _ _ s;refine gV (tupleItemsOf_ j ?_);refine gV (L8 F ?_);rw[if_pos (by decide)]
 refine gV (dU hs pl pu ?_);have J:(((sIx items.size 0 lo:Nat):Int)==0&&(1:Int)==1&&(sIx items.size items.size hi-sIx items.size 0 lo)==items.size)=N2:=by rw[hw.1,hw.2];simp
 show Ik _ _ (if(((sIx items.size 0 lo:Nat):Int)==0&&(1:Int)==1&&(sIx items.size items.size hi-sIx items.size 0 lo)==items.size)=N2 then _ else _) _ _ s
 rw[if_pos J];refine gV (m:=NO (.ref t)) ?_;unfold NO;refine gV (L8 j.typeIs (D2 ?_));show Ik _ _ (if N2=N2 then _ else _) _ _ s
 rw[if_pos rfl];exact gV (Kh (D2 ⟨_,rfl,D2 h⟩))
end
end HT
namespace L2
open PySem PySem.Spec PyProof.Rows
section
section
variable{X:Cx}
noncomputable def Ec(K:Frag):V->Option Int->Option Int->Hp->VK->Prop:=λx lo hi H Q=>∃a xs,x=.ref a/\SqT K H a xs/\(HT.sIx xs.length 0 lo=0/\HT.sIx xs.length xs.length hi=xs.length)/\Q x H
theorem wa:SlR X (Ec X.K):=by
 intro pins s σ H x v vl vu lo hi sl Q I rx hs pl pu h;obtain⟨a,xs,rfl,hx,hw,q⟩:=h
 cases rx
 obtain⟨its,r,j,z⟩:=I.tuple hx;have hlen:=r.length;refine⟨"tuple",_,slot_tuple_getitem.lookup,j.typeIs,?_⟩;refine HT.getItem_tuple_whole j hs pl pu (by rw[Ia,<-hlen];exact hw) ⟨.ref a,H,I,rfl,q⟩
end
end
variable{u:q7}{y:V}{P:Iy}{w:IY}{H H':Hp}{kvs:List (List Key×V)}{xs:List (List Key×SS×q7)}{b a:SS}{h':Heap}{t':Nat}{X:Cx}{pins:List (SS×Obj)}{σ:St}{s:D1}
section
section
variable{κ:Type}[DecidableEq κ]
noncomputable def bW(kvs:List (κ×V))(k:κ):Option V:=(kvs.find? λkv=>decide (kv.1=k)).map (·.2)
noncomputable def bp(kvs:List (κ×V))(k:κ)(v:V):List (κ×V):=if(kvs.any λkv=>decide (kv.1=k))=N2 then kvs.map (λkv=>if kv.1=k then(kv.1,v)else kv)else kvs++[(k,v)]
noncomputable def lZ(kvs:List (κ×V))(k:κ):List (κ×V):=kvs.filter λkv=>decide (kv.1≠k)
theorem eY{p:κ×V}{r:List (κ×V)}{k:κ}(e:p.1=k):bW (p::r) k=E p.2:=by simp[bW,Ka,e]
theorem eZ{p:κ×V}{r:List (κ×V)}{k:κ}(e:¬p.1=k):bW (p::r) k=bW r k:=by simp[bW,Ka,e]
theorem mX(k:κ):∀kvs:List (κ×V),(kvs.any λkv=>decide (kv.1=k))=(bW kvs k).isSome
 |[]=>rfl
 |p::r=>by
  rw[LK]
  by_cases e:p.1=k
  ·simp only[eY e,decide_eq_true e,Bool.true_or,Qj]
  ·rw[eZ e,decide_eq_false e,Oi];exact mX k r
theorem cU(kvs:List (κ×V))(k:κ)(v:V):(bp kvs k v).length<=kvs.length+1:=by
 unfold bp
 split
 ·rw[hG];lia
 ·rw[hQ,Iv,Kb];lia
theorem RelO.isSome_eq{o:Option V}{u:Option q7}(r:RelO o u):o.isSome=u.isSome:=by
 cases o with
 | none=>cases u with
   |none=>rfl
   |some _=>exact(show False from r).elim
 | some _=>cases u with
   |none=>exact(show False from r).elim
   |some _=>rfl
theorem RelO.getD{o:Option V}{u:Option q7}{d:V}{d':q7}(r:RelO o u)(rd:RelV d d'):RelV (o.getD d) (u.getD d'):=by
 cases o with
 | none=>cases u with
   |none=>exact rd
   |some _=>exact(show False from r).elim
 | some _=>cases u with
   |none=>exact(show False from r).elim
   |some _=>exact r
theorem KV.val{kvs:List (κ×V)}{vs:List (κ×q7)}(r:KV kvs vs)(k:κ):RelO (bW kvs k) (PJ vs k):=by
 unfold KV at r
 induction r with
 |nil=>exact NP
 |@cons p q ps qs h t ih=>
  obtain⟨h1,h2⟩:=h
  by_cases e:p.1=k
  ·have e':q.1=k:=h1.symm.trans e;have b:PJ (q::qs) k=E q.2:=by simp[PJ,Ka,e']
   rw[eY e,b];exact h2
  ·have e':¬q.1=k:=λz=>e (h1.trans z);have b:PJ (q::qs) k=PJ qs k:=by simp[PJ,Ka,e']
   rw[eZ e,b];exact ih
theorem KV.any{kvs:List (κ×V)}{vs:List (κ×q7)}(r:KV kvs vs)(k:κ):(kvs.any λkv=>decide (kv.1=k))=vs.any λkv=>decide (kv.1=k):=by
 unfold KV at r
 induction r with
 |nil=>rfl
 |cons h t ih=>rw[LK,LK,ih,h.1]
theorem KV.repl{kvs:List (κ×V)}{vs:List (κ×q7)}(r:KV kvs vs)(k:κ)(ry:RelV y u):
 KV (kvs.map λkv=>if kv.1=k then(kv.1,y)else kv) (vs.map λkv=>if kv.1=k then(kv.1,u)else kv):=by
 unfold KV at r⊢
 induction r with
 |nil=>exact .nil
 |@cons p q ps qs h t ih=>
  rw[Ii,Ii];refine .cons ?_ ih;obtain⟨h1,h2⟩:=h
  by_cases e:p.1=k
  ·rw[if_pos e,if_pos (h1.symm.trans e)];exact⟨h1,ry⟩
  ·rw[if_neg e,if_neg (λz=>e (h1.trans z))];exact⟨h1,h2⟩
theorem KV.put{kvs:List (κ×V)}{vs:List (κ×q7)}(r:KV kvs vs)(k:κ)(ry:RelV y u):KV (bp kvs k y) (stored vs k u):=by
 unfold bp stored;rw[r.any k]
 by_cases e:(vs.any λkv=>decide (kv.1=k))=N2
 ·rw[if_pos e,if_pos e];exact r.repl k ry
 ·rw[if_neg e,if_neg e];exact Paired.snoc r ⟨rfl,ry⟩
theorem KV.drop{kvs:List (κ×V)}{vs:List (κ×q7)}(r:KV kvs vs)(k:κ):KV (lZ kvs k) (without vs k):=by
 unfold KV at r⊢;unfold lZ without
 induction r with
 |nil=>exact .nil
 |@cons p q ps qs h t ih=>
  obtain⟨h1,h2⟩:=h;rw[QP,QP]
  by_cases e:p.1=k
  ·have a:¬decide (p.1≠k)=N2:=by simp[e]
   have b:¬decide (q.1≠k)=N2:=by simp[h1.symm.trans e]
   rw[if_neg a,if_neg b];exact ih
  ·have e':¬q.1=k:=λz=>e (h1.trans z);have a:decide (p.1≠k)=N2:=by simp[e]
   have b:decide (q.1≠k)=N2:=by simp[e']
   rw[if_pos a,if_pos b];exact .cons ⟨h1,h2⟩ ih
theorem KV.keys{kvs:List (κ×V)}{vs:List (κ×q7)}(r:KV kvs vs):kvs.map (·.1)=vs.map (·.1):=by
 unfold KV at r
 induction r with
 |nil=>rfl
 |cons h t ih=>rw[Ii,Ii,ih,h.1]
theorem KV.length{kvs:List (κ×V)}{vs:List (κ×q7)}(r:KV kvs vs):kvs.length=vs.length:=Lb r
end
theorem m4{k:Key}(r:RelV (kV k) u):(aF P w).is k u=N2:=by
 cases k with
 |inl i=>obtain⟨t,e⟩:=(show ∃t,u=Sa i t from r);subst e;exact pD P w i t
 |inr x=>obtain⟨t,e⟩:=(show ∃t,u=Sb x t from r);subst e;exact pE P w x t
theorem kP{P:Iy}{w:IY}:∀{ks:List Key} {us:List q7},Vals (ks.map kV) us->ItemsAre (aF P w) ks us
 |[],_,r=>by rw[JC]at r;cases r;exact .nil
 |k::ks,_,r=>by
  rw[Ii]at r
  cases r with
  |cons h t=>exact .cons (m4 h) (kP t)
noncomputable abbrev KT(H:Hp):List (List Key×V)->List (List Key×SS×q7)->Prop:=IZ λp q=>p.1=q.1/\H q.2.1=E (.tup (p.1.map kV))/\RelV p.2 q.2.2
theorem KT.val(r:KT H kvs xs)(k:List Key):RelO (bW kvs k) ((Rj xs k).map (·.2)):=by
 induction r with
 |nil=>exact NP
 |@cons p q ps qs h t ih=>
  obtain⟨h1,_,h2⟩:=h
  by_cases e:p.1=k
  ·have e':q.1=k:=h1.symm.trans e;have b:Rj (q::qs) k=E q.2:=by simp[Rj,Ka,e']
   rw[eY e,b];exact h2
  ·have e':¬q.1=k:=λz=>e (h1.trans z);have b:Rj (q::qs) k=Rj qs k:=by simp[Rj,Ka,e']
   rw[eZ e,b];exact ih
theorem KT.repl(r:KT H kvs xs)(k:List Key)(ry:RelV y u):
 KT H (kvs.map λkv=>if kv.1=k then(kv.1,y)else kv) (xs.map (putAt k u)):=by
 induction r with
 |nil=>exact .nil
 |@cons p q ps qs h t ih=>
  rw[Ii,Ii];refine .cons ?_ ih;obtain⟨h1,h2,j⟩:=h;unfold putAt
  by_cases e:p.1=k
  ·rw[if_pos e,if_pos (h1.symm.trans e)];exact⟨h1,h2,ry⟩
  ·rw[if_neg e,if_neg (λz=>e (h1.trans z))];exact⟨h1,h2,j⟩
theorem KT.put(r:KT H kvs xs)(k:List Key)(j:H b=E (.tup (k.map kV)))(ry:RelV y u):
 KT H (bp kvs k y) (storedH xs k b u):=by
 have e:(kvs.any λkv=>decide (kv.1=k))=(Rj xs k).isSome:=by rw[mX,(r.val k).isSome_eq,Option.isSome_map]
 unfold bp storedH;rw[e]
 by_cases q:(Rj xs k).isSome=N2
 ·rw[if_pos q,if_pos q];exact r.repl k ry
 ·rw[if_neg q,if_neg q];exact Paired.snoc r ⟨rfl,j,ry⟩
theorem KT.keeps(r:KT H kvs xs)(j:∀b ys,H b=E (.tup ys)->H' b=E (.tup ys)):KT H' kvs xs:=Sr r λ_ _ z=>⟨z.1,j _ _ z.2.1,z.2.2⟩
section
variable{P:Iy}{w:IY}{H:Hp}{h:Heap}{a:SS}
theorem y9{u:HO}(ok:HOk P w H h)(e:Rd H a u):ObjOk P w H h a u:=e.ok ok
theorem m5{kvs:List (Key×V)}(ok:HOk P w H h)(e:Rd H a (.dK kvs)):kvs.length<=HZ/\(a==JW)=R9/\∃vs,KV kvs vs/\h.DictOf (aF P w) a vs:=show ObjOk P w H h a (.dK kvs)from y9 ok e
theorem CO{kvs:List (Key×V)}(ok:HOk P w H h)(e:H a=E (.dK kvs)):kvs.length<=HZ/\(a==JW)=R9/\∃vs,KV kvs vs/\h.DictOf (aF P w) a vs:=m5 ok (.inl e)
theorem fS{ks:List Key}(ok:HOk P w H h)(e:H a=E (.tup (ks.map kV))):(Ml (aF P w)).is h ks a:=by obtain⟨_,its,r,o,h1,h2,n,j⟩:=(show ObjOk P w H h a (.tup (ks.map kV))from ok a _ e);exact⟨o,its.toArray,n,h1,h2,j,by simpa using kP r⟩
theorem m6(ok:HOk P w H h)(e:Rd H a (.dT kvs)):kvs.length<=HZ/\(a==JW)=R9 /\
 ∃xs,KT H kvs xs/\h.DictOfH (Ml (aF P w)) a xs:=by
 obtain⟨z,y,xs,r,o,es,ep,h1,h2,j,B,F⟩:=(show ObjOk P w H h a (.dT kvs)from y9 ok e);refine⟨z,y,xs,r,o,es,ep,h1,h2,j,B,λx hx=>?_,F⟩;have all:∀{l:List (List Key×V)} {m:List (List Key×SS×q7)},KT H l m->∀x∈m,(Ml (aF P w)).is h x.1 x.2.1:=by
  intro l m q
  induction q with
  |nil=>intro x hx;exact nomatch hx
  |@cons p q ps qs hq t ih=>
   intro x hx
   rcases Ij.mp hx with e|hx
   ·subst e;exact fS ok (by rw[<-hq.1];exact hq.2.1)
   ·exact ih x hx
 exact all r x hx
theorem ya(ok:HOk P w H h)(e:H a=E (.dT kvs)):kvs.length<=HZ/\(a==JW)=R9 /\
 ∃xs,KT H kvs xs/\h.DictOfH (Ml (aF P w)) a xs:=m6 ok (.inl e)
end
def DGet(H:Hp)(a:SS)(y:V)(r:Option V):Prop:=(∃kvs k,Rd H a (.dK kvs)/\y=kV k/\r=bW kvs k)∨∃kvs k b,Rd H a (.dT kvs)/\y=.ref b/\H b=E (.tup (k.map kV))/\r=bW kvs k
def DPut(H:Hp)(a:SS)(y v:V)(H':Hp):Prop:=
 (∃kvs k,H a=E (.dK kvs)/\y=kV k/\kvs.length<HZ/\H'=upd H a (.dK (bp kvs k v))) ∨
 ∃kvs k b,H a=E (.dT kvs)/\y=.ref b/\H b=E (.tup (k.map kV))/\kvs.length<HZ/\H'=upd H a (.dT (bp kvs k v))
theorem DGet.k{kvs:List (Key×V)}{k:Key}(e:H a=E (.dK kvs)):DGet H a (kV k) (bW kvs k):=.inl ⟨kvs,k,.inl e,rfl,rfl⟩
theorem DGet.t{k:List Key}(e:H a=E (.dT kvs))(eb:H b=E (.tup (k.map kV))):DGet H a (.ref b) (bW kvs k):=.inr ⟨kvs,k,b,.inl e,rfl,eb,rfl⟩
theorem DPut.k{kvs:List (Key×V)}{k:Key}{v:V}(e:H a=E (.dK kvs))(j:kvs.length<HZ):DPut H a (kV k) v (upd H a (.dK (bp kvs k v))):=.inl ⟨kvs,k,e,rfl,j,rfl⟩
theorem DPut.t{k:List Key}{v:V}(e:H a=E (.dT kvs))(eb:H b=E (.tup (k.map kV)))(j:kvs.length<HZ):DPut H a (.ref b) v (upd H a (.dT (bp kvs k v))):=.inr ⟨kvs,k,b,e,rfl,eb,j,rfl⟩
section
variable{X:Cx}{pins:List (SS×Obj)}{σ:St}{H:Hp}{s:D1}{a:SS}{y v:V}{u r:q7}{o:Option V}{A:Ji}{fv:q7->D1->Prop}
theorem Inv.big(I:Inv X pins σ H s):JW<s.heap.objs.size:=by have h:Jv<s.heap.objs.size:=(I.mod.glob.keeps I.bk).lt;exact Nat.lt_trans (by decide) h
theorem tF{Q:q7->D1->Prop}(B:A.units+1<Lk)(I:Inv X pins σ H s)(g:DGet H a y (E v))(ry:RelV y u)(h:∀w' s',Inv X pins σ H s'->RelV v w'->Q w' s'):
 Ik (model X.prog X.w) A (OH (.ref a) u) Q fv s:=by
 rcases g with⟨kvs,k,e,ey,l⟩|⟨kvs,k,b,e,ey,eb,l⟩
 ·subst ey;obtain⟨z,hd,vs,rel,dd⟩:=m5 I.hok e;obtain⟨w',hw,rw'⟩:=SH (v:=v) (o:=PJ vs k) (by rw[l];exact rel.val k)
  exact wpAny_getItem_of (m4 ry) dd.mapOf hw (h w' _ (I.tok _) rw')
 ·subst ey
  cases(show u=Ke b from ry)
  obtain⟨z,hd,xs,rel,dd⟩:=m6 I.hok e;obtain⟨w',hw,rw'⟩:=SH (v:=v) (o:=(Rj xs k).map (·.2)) (by rw[l];exact rel.val k)
  obtain⟨p,F,j⟩:=Mz.mp hw;refine wpAny_getItem_heap (Mh B) (fS I.hok eb) dd F ?_;rw[j];exact h w' _ (I.tok _) rw'
theorem jK{ob:HO}(I:Inv X pins σ H s)(mu:Mut (H a))(hs:JV a s.heap h')(he:∃q,h'.get? a=E q)(new:ObjOk X.prog X.w (upd H a ob) h' a ob):
 Inv X pins σ (upd H a ob) {s with heap:=h',toks:=t'}:=
 I.write (x:=a) (e:=a) mu (.inl rfl) (λb q j z=>(hs.2 b j).trans z) he new
theorem B1{kvs:List (Key×V)}{vs:List (Key×q7)}(z:kvs.length<=HZ)(hd:(a==JW)=R9)(rel:KV kvs vs)(dd:h'.DictOf (aF P w) a vs):ObjOk P w H' h' a (.dK kvs):=⟨z,hd,vs,rel,dd⟩
theorem tG{Q:Unit->D1->Prop}(J:A.units+1<Lk)(I:Inv X pins σ H s)(g:DPut H a y v H')(ry:RelV y u)(rv:RelV v r)(h:∀s',Inv X pins σ H' s'->Q () s'):
 Ik (model X.prog X.w) A (setItem (.ref a) u r) Q fv s:=by
 rcases g with⟨kvs,k,e,ey,l,eH⟩|⟨kvs,k,b,e,ey,eb,l,eH⟩
 ·subst ey eH;obtain⟨z,hd,vs,rel,dd⟩:=CO I.hok e;have B:vs.length<=HZ:=by rw[<-rel.length];exact z
  have F:(bp kvs k v).length<=HZ:=by have:=cU kvs k v;lia
  refine wpAny_setItem_pairs (hsz:=B) (m4 ry) dd λh' dd' hs=>h _ ?_;have he:∃q,h'.get? a=E q:=let⟨q,_,_,j,_⟩:=dd'; ⟨q,j⟩;exact jK I (by rw[e];exact NP) hs he (B1 F hd (rel.put k rv) dd')
 ·subst ey eH
  cases(show u=Ke b from ry)
  obtain⟨z,hd,xs,rel,dd⟩:=ya I.hok e;have B:xs.length<=HZ:=by rw[<-Lb rel];exact z
  have F:(bp kvs k v).length<=HZ:=by have:=cU kvs k v;lia
  refine wpAny_setItem_heap (hsz:=B) (Mh J) (fS I.hok eb) dd λh' dd' hs=>h _ ?_;obtain⟨q,es,ep,j,h2,L,O,_,U⟩:=dd';refine jK I (by rw[e];exact NP) hs ⟨q,j⟩ ⟨F,hd,_,(rel.put k eb rv).keeps λc ys ec=>?_,q,es,ep,j,h2,L,O,U⟩
  rw[aj (xV ec e (λz=>nomatch z))];exact ec
end
theorem wb(h:Heap)(j:JW<h.objs.size):ObjOk P w H (h.push {cls:=.type "dict",data:=.dict #[]}) h.objs.size (.dK []):=⟨JG _,beq_eq_false_iff_ne.mpr (Ne.symm (IU j)),[],.nil,Heap.DictOf.new h⟩
theorem mY(h:Heap)(j:JW<h.objs.size):ObjOk P w H (h.push {cls:=.type "dict",data:=.dict #[]}) h.objs.size (.dT []):=⟨JG _,beq_eq_false_iff_ne.mpr (Ne.symm (IU j)),[],.nil,_,#[],0,I9 _ rfl,⟨rfl,rfl,rfl⟩,rfl,rfl,List.nodup_nil⟩
noncomputable def B2:TE:=λ_ H Q=>∀p,H p=Z->Q (.ref p) (upd H p (.dK []))
noncomputable def B3:TE:=λ_ H Q=>∀p,H p=Z->Q (.ref p) (upd H p (.dT []))
section
variable{X:Cx}{pos:Pos}
theorem wc:PE X (.Dict [] [] pos) B2:=λpins s σ H Q I h=>QQ ⟨.ref s.heap.objs.size,_,I.laid (a:=s.heap.objs.size) (o:=.dK []) (t':=s.toks) (λ_ _ q=>tv _ q) (HW _) (wb s.heap I.big),rfl,h _ (I.hok.fresh (HW _))⟩
theorem wd:PE X (.Dict [] [] pos) B3:=λpins s σ H Q I h=>QQ ⟨.ref s.heap.objs.size,_,I.laid (a:=s.heap.objs.size) (o:=.dT []) (t':=s.toks) (λ_ _ q=>tv _ q) (HW _) (mY s.heap I.big),rfl,h _ (I.hok.fresh (HW _))⟩
end
structure M2(X:Cx)(o:Expr)(m:Str)(apos:Pos)(e f:Expr)(cpos:Pos):Prop where
 base:Q2 o m X.env (eval o X.env)=eval o X.env
 few:((Ms cpos (IG [e,f] X.env)).all (λx=>!x.1)&&(backToKw cpos (Ri [] X.env)).all (λx=>x.1.isSome)
  && decide (([e,f]:List Expr).length+([]:List OL).length+(if([]:List OL).isEmpty then 0 else 1)<30))=N2
 line:(apos.endLine==cpos.line)=N2
 trees:Ms cpos (IG [e,f] X.env)=[(R9,eval e X.env),(R9,eval f X.env)]
def IsD(H:Hp)(a:SS):Prop:=(∃kvs,Rd H a (.dK kvs))∨∃kvs,Rd H a (.dT kvs)
theorem iR(I:Inv X pins σ H s)(d:IsD H a):
 s.TypeIs (.ref a) "dict"/\(∀b,Ke a=.ref b->∃ob,s.heap.get? b=E ob/\ob.dict=Z)/\(a==JW)=R9:=by
 rcases d with⟨kvs,e⟩|⟨kvs,e⟩
 ·obtain⟨_,hd,vs,_,dd⟩:=m5 I.hok e;refine⟨dd.typeIs,λb q=>?_,hd⟩
  cases q
  obtain⟨ob,_,_,h1,h2,_⟩:=dd;exact⟨ob,h1,h2.2.1⟩
 ·obtain⟨_,hd,xs,_,dd⟩:=m6 I.hok e;refine⟨dd.typeIs,λb q=>?_,hd⟩
  cases q
  obtain⟨ob,_,_,h1,h2,_⟩:=dd;exact⟨ob,h1,h2.2.1⟩
section
variable{X:Cx}{pins:List (SS×Obj)}{σ:St}{H:Hp}{s:D1}{a:SS}{y d:V}{u r:q7}{o:Option V}{A:Ji}{fv:q7->D1->Prop}
theorem B4{Q:q7->D1->Prop}(j:A.units+1<Lk)(I:Inv X pins σ H s)(g:DGet H a y o)(ry:RelV y u)(rd:RelV d r)(h:∀w' s',Inv X pins σ H s'->RelV (o.getD d) w'->Q w' s'):
 Ik (model X.prog X.w) A (call (.builtin "dict.get") [.ref a,u,r]) Q fv s:=by
 rcases g with⟨kvs,k,e,ey,l⟩|⟨kvs,k,b,e,ey,eb,l⟩
 ·subst ey;obtain⟨z,hd,vs,rel,dd⟩:=m5 I.hok e;refine Qz MV dd.typeIs ON (Ov _ _ _) (meets_dict_get_default (aF X.prog X.w) a (m4 ry) hd r) ⟨_,dd.mapOf,h _ _ (I.tok _) ?_⟩;rw[l];exact(rel.val k).getD rd
 ·subst ey
  cases(show u=Ke b from ry)
  obtain⟨z,hd,xs,rel,dd⟩:=m6 I.hok e;refine Qz MV dd.typeIs ON (Ov _ _ _) (meetsH_dict_get_default (Ml (aF X.prog X.w)) a b hd r) ⟨Mh j,k,xs,fS I.hok eb,dd,h _ _ (I.tok _) ?_⟩;rw[l];exact(rel.val k).getD rd
end
noncomputable def B5(td ty tx:TE):TE:=λσ H Q=>td σ H λx H1=>∃a,x=.ref a/\IsD H1 a/\ty σ H1 λy H2=>tx σ H2 λz H3=>∃o,DGet H3 a y o/\Q (o.getD z) H3
section
variable{X:Cx}{o e f:Expr}{apos cpos:Pos}{td ty tx:TE}
theorem we(B:X.A.units+1<Lk)(ho:PE X o td)(he:PE X e ty)(hf:PE X f tx)(m:M2 X o "get" apos e f cpos):PE X (.Call (.Attribute o "get" apos) [e,f] [] cpos) (B5 td ty tx):=by
 intro pins s σ H Q I h;refine wpAny_Call_method m.base m.few m.line PySem.F.plainAttrs_dict MV PySem.F.type_dict_get (thn (ho pins s σ H _ I h) λu s1 J=>?_);obtain⟨x,H1,j,rx,a,ex,d,L⟩:=J;subst ex;obtain rfl:u=Ke a:=rx;obtain⟨t1,O,_⟩:=iR j d;refine⟨t1,O,?_⟩;rw[m.trees];refine OM rfl (Pf (Lr (thn (he pins s1 σ H1 _ j L) λiv s2 ⟨y,H2,U,ry,Y⟩=>Lr (thn (hf pins s2 σ H2 _ U Y) λfv s3 ⟨z,F2,I3,rz,ov,g,q3⟩=>Mv ?_))))
 exact B4 B I3 g ry rz λw' s4 I4 rw'=>⟨_,F2,I4,rw',q3⟩
end
end
variable{d:Nat}{ifs:List Expr}{elt target iter:Expr}{gens:List Jg}{scope:Scope}{pos pos':Pos}{acc:q7}{g:TG}{A:Ji}{wi:TI}
section
noncomputable def bc(elt:Expr)(gens:List Jg)(scope:Scope)(pos:Pos)(d:Nat)(acc:q7)(env:Env)(k:Sem Fin):Sem Fin:=
 match gens[d+1]? with
 |some g'=>eval g'.iter env>>=fun x=>O0 g'.iter.pos>>=fun _=>Ks g'.iter env x>>=fun x=>holding [x] (Qf x)>>=fun it'=>runOwn (.compStart (.ListComp elt gens scope pos) (d+1) it' acc env) env>>=λ_=>k
 |none=>(eval elt env>>=λx=>call (.builtin "list.append") [acc,x]>>=λ_=>pure ())>>=λ_=>k
noncomputable def bq(ifs:List Expr)(env:Env):Sem Bool:=forIn ifs N2 λc r=>if r=N2 then do let ok <-isTrue c env (eval c env);pure (LC ok)else pure (LC r)
theorem mZ(elt target iter:Expr)(ifs:List Expr)(gens:List Jg)(scope:Scope)(pos:Pos)(d:Nat)(it acc:q7)(env:Env)(hd:gens[d]?=E ⟨target,iter,ifs,0⟩)(j:∀g',gens[d+1]?=E g'->g'.is_async=0):
 compTurn (.ListComp elt gens scope pos) d it acc env=(O0 iter.pos>>=λ_=>Mu it>>=λr=>match r with
  |none=>pure (.done .next)
  |some v=>Nj target it v>>=fun _=>assign target env v>>=fun _=>bq ifs env>>=fun ok=>(if ok=N2 then bc elt gens scope pos d acc env (again (.compLoop (.ListComp elt gens scope pos) d it acc env))else again (.compLoop (.ListComp elt gens scope pos) d it acc env))):=by
 unfold compTurn;simp only[hd];unfold bc bq
 cases hn:gens[d+1]? with
 |none=>rfl
 |some g'=>obtain⟨t',i',f',a'⟩:=g';have e:a'=0:=j _ hn;subst e;rfl
noncomputable abbrev TC:=St->Hp->(St->Hp->Prop)->Prop
def cF(J:It)(g:TG)(tb:TC)(N:St->Hp->Prop)(σ:St)(H:Hp):Prop:=
 ∃W:Nat->Nat->St->Hp->Prop,(∃m,W 0 m σ H)/\∀i m σ H,W i m σ H->
  (J.stop i H/\N σ H)∨(J.go i H/\∃N':St->Hp->Prop,(∀σ' H',N' σ' H'->∃m',m'<m/\W (i+1) m' σ' H')/\∀x H',J.yld i H x H'->g x σ H' λσ2 H2=>tb σ2 H2 N')
def PB(X:Cx)(F:Sem Fin->Sem Fin)(t:TC):Prop:=
 ∀(pins:List (SS×Obj)) (s:D1) (σ:St) (H:Hp) (N:St->Hp->Prop) (k:Sem Fin) (Q:Fin->D1->Prop) (fv:q7->D1->Prop),Inv X pins σ H s->t σ H N->
  (∀s' σ' H',Inv X pins σ' H' s'->N σ' H'->Ik (model X.prog X.w) X.A k Q fv s')->Ik (model X.prog X.w) X.A (F k) Q fv s
section
variable{X:Cx}
theorem nox{α:Type}{m:Sem α}{Q:α->D1->Prop}{fv:q7->D1->Prop}(hx:∀e s,X.xe e s->False)(h:Ik (model X.prog X.w) X.A m Q X.xe s):Ik (model X.prog X.w) X.A m Q fv s:=Kf h (λ_ _ q=>q) λe s' q=>(hx e s' q).elim
noncomputable def iS(ts:List TT)(tb:TC):TC:=match ts with
 |[]=>tb
 |t::r=>λσ H N=>t σ H λb H1=>if b=N2 then iS r tb σ H1 N else N σ H1
theorem iT{env:Env}{M:NZ}{A:Ji}{Q:Bool->D1->Prop}{fv:q7->D1->Prop}{s:D1}(h:Q R9 s):∀ifs:List Expr,
 Ik M A (forIn ifs R9 λc r=>if r=N2 then do let ok <-isTrue c env (eval c env);pure (LC ok)else pure (LC r)) Q fv s
 |[]=>D2 h
 |c::r=>by rw[LD];simp only[Ki,if_false];exact gV (D2 (iT h r))
theorem n4(hx:∀e s,X.xe e s->False){tb:TC}{N:St->Hp->Prop}:∀{ifs:List Expr} {ts:List TT},IZ (λc t=>PT X c t) ifs ts->
 ∀(pins:List (SS×Obj)) (s:D1) (σ:St) (H:Hp) (fv:q7->D1->Prop),Inv X pins σ H s->iS ts tb σ H N->
 Ik (model X.prog X.w) X.A (bq ifs X.env) (λok s'=>∃H',Inv X pins σ H' s'/\if ok=N2 then tb σ H' N else N σ H') fv s
 |_,_,.nil=>λpins s σ H fv I h=>D2 ⟨H,I,by rw[if_pos rfl];exact h⟩
 |c::ifs,_,.cons (b:=t) B hr=>by
  intro pins s σ H fv I h;have ih:=n4 hx hr (tb:=tb) (N:=N) pins;unfold bq at ih⊢;rw[LD];simp only[if_true];refine gV (gV (nox hx (thn (B pins s σ H _ I h) λb s1 F=>?_)));obtain⟨H1,z,j⟩:=F;refine D2 ?_
  cases b with
  |false=>rw[if_neg Ih]at j;exact iT ⟨H1,z,by rw[if_neg Ih];exact j⟩ ifs
  |true=>rw[if_pos rfl]at j;exact ih s1 σ H1 fv z j
theorem wf(hx:∀e s,X.xe e s->False){F:Sem Fin->Sem Fin}{tb:TC}(B:PB X F tb){ts:List TT}(J:IZ (λc t=>PT X c t) ifs ts):
 PB X (λk=>bq ifs X.env>>=λok=>if ok=N2 then F k else k) (iS ts tb):=by
 intro pins s σ H N k Q fv I h hk;refine gV (thn (n4 hx J pins s σ H fv I h) λok s1 L=>?_);obtain⟨H1,z,j⟩:=L
 cases ok with
 |false=>rw[if_neg Ih]at j⊢;exact hk s1 σ H1 z j
 |true=>rw[if_pos rfl]at j⊢;exact B pins s1 σ H1 N k Q fv z j hk
noncomputable def yb(p:SS)(te:TE):TC:=λσ H N=>te σ H λx H1=>∃xs,H1 p=E (.lst xs)/\xs.length<HZ/\N σ (upd H1 p (.lst (xs++[x])))
theorem jL(hx:∀e s,X.xe e s->False){p:SS}{te:TE}(he:PE X elt te)(hd:gens[d+1]?=Z):
 PB X (bc elt gens scope pos d (.ref p) X.env) (yb p te):=by
 intro pins s σ H N k Q fv I h z;unfold bc;rw[hd];refine gV (gV (nox hx (thn (he pins s σ H _ I h) λu s1 j=>?_)));obtain⟨x,H1,B,F,xs,J,l1,L⟩:=j;refine gV (nox hx (thn (kM (X:=X) pins s1 σ H1 (.ref p) [x] (.ref p) [u] (λ_ H2=>N σ H2) B rfl (.cons F .nil) ⟨p,xs,x,rfl,rfl,J,l1,L⟩) λv s2 j=>?_));obtain⟨_,H2,O,_,U⟩:=j;exact D2 (z s2 σ H2 O U)
theorem kQ(hx:∀e s,X.xe e s->False)(hc:X.calm=N2)(hd:gens[d]?=E ⟨target,iter,ifs,0⟩)(ha:∀g',gens[d+1]?=E g'->g'.is_async=0)(hg:PG X target g){tb:TC}(j:PB X (λk=>bq ifs X.env>>=λok=>if ok=N2 then bc elt gens scope pos d acc X.env k else k) tb){N:St->Hp->Prop}{it:SS}{fp:List SS}{tn:Nat->Heap->Prop}{J:It}(I:Inv X pins σ H s)(T:fO X.prog X.w X.K target J fp it tn)(t0:tn 0 s.heap)(f2:∀b∈fp,cr X pins H b)(h:cF J g tb N σ H):
 Mf (model X.prog X.w) X.A (.compLoop (.ListComp elt gens scope pos) d (.ref it) acc X.env) (λr s'=>match r with|.ok _=>∃σ' H',Inv X pins σ' H' s'/\N σ' H'|.error _=>False) s:=by
 obtain⟨W,⟨m0,w0⟩,turn⟩:=h;have stat:∀{H':Hp},(∀b∈fp,H' b=Z)->∀b∈fp,cr X pins H' b:=λhn b j=>⟨hn b j,(f2 b j).2⟩;refine codeAny_loop rfl (λn s'=>∃i σ' H',Inv X pins σ' H' s'/\tn i s'.heap/\(∀b∈fp,H' b=Z)/\W i n σ' H') ?_ m0 ⟨0,σ,H,I,t0,λb j=>(f2 b j).1,w0⟩;rintro n s3 ⟨i,σ3,O,I3,F,L,w3⟩;show Ik _ _ ((compTurn (.ListComp elt gens scope pos) d (.ref it) acc X.env).onRaise (λx=>do noteFrame x X.env;theTreesLotGoes x)) _ _ s3
 refine wpAny_noted ?_;rw[mZ elt target iter ifs gens scope pos d (.ref it) acc X.env hd ha];refine gV (LJ (gV ?_));show Ik (model X.prog X.w) X.A _ _ _ s3
 rcases turn i n σ3 O w3 with⟨stop,qn⟩|⟨go,N',hN,step⟩
 ·refine thn (T.done X rfl rfl rfl hc i pins s3 σ3 O _ I3 (stat L) F stop) λr s4 z=>?_;obtain⟨U,I4⟩:=z;subst U;exact D2 ⟨σ3,O,I4,qn⟩
 ·refine thn (T.item X rfl rfl rfl hc i pins s3 σ3 O _ I3 (stat L) F go) λr s4 z=>?_;obtain⟨u,U,h4⟩:=z;subst U;refine gV (thn h4 λ_ s5 z=>?_);obtain⟨x,H5,I5,r5,y5,B,Y⟩:=z;have F2:=I5.pinned (stat Y) (T.obj _ _ B);refine gV (nox hx (thn (hg _ s5 σ3 H5 x u _ F2 r5 (step x H5 y5)) λ_ s6 z=>?_));obtain⟨σ6,H6,I6,q6⟩:=z;refine j _ s6 σ6 H6 N' (again (.compLoop (.ListComp elt gens scope pos) d (.ref it) acc X.env)) _ _ I6 q6 λs7 σ7 H7 I7 n7=>?_;obtain⟨m',hm,w7⟩:=hN σ7 H7 n7;refine D2 ⟨rfl,m',hm,i+1,σ7,H7,I7.unpinned,T.keep _ _ _ B λb j o e=>(I7.pin (b,o) (Iw _ (Iw _ (dq j e)))).1,λb j=>?_,w7⟩;obtain⟨o,e,dd⟩:=T.obj _ _ B b j;exact(I7.pin (b,o) (Iw _ (Iw _ (dq j e)))).2.1
theorem iU {it:q7}{env:Env}{prog:Iy}{R:RQ->D1->Prop}(hd:gens[d]?=E ⟨target,iter,ifs,0⟩)(h0:Mf (model prog w) A (.compLoop (.ListComp elt gens scope pos) d it acc env) R s)(h:Ik (model prog w) A (Qf it) (fun it' s'=>Mf (model prog w) A (.compLoop (.ListComp elt gens scope pos) d it' acc env) R s')
   (notedBy (model prog w) A env λx s'=>R (.error x) s') s):
 Mf (model prog w) A (.compStart (.ListComp elt gens scope pos) d it acc env) R s:=by
 refine codeAny_of_tree ?_;show Ik _ _ ((compStart (.ListComp elt gens scope pos) d it acc env).onRaise (λx=>do noteFrame x env;O0 theWindowsPlace)) _ _ s
 refine wpAny_notedAt ?_;unfold compStart;have j:(clausesOf (.ListComp elt gens scope pos))[d]?=E ⟨target,iter,ifs,0⟩:=hd;rw[j];show Ik _ _ (ask>>=_) _ _ s;refine gV (wpAny_askSetting (wpAny_ite ?_))
 split
 ·first
   |exact gV (D2 (D2 (PM rfl h0)))
   |exact D2 (PM rfl h0)
 ·first
   |exact gV (Kh (gV (LJ (gV (Kf h (λit' s' h'=>D2 (PM rfl h')) λ_ _ x=>x)))))
   |(refine gV (Kh ?_);show Ik _ _ (O0 iter.pos>>=_) _ _ s;exact gV (LJ (gV (Kf h (λit' s' h'=>D2 (PM rfl h')) λ_ _ x=>x))))
theorem kR(hx:∀e s,X.xe e s->False)(B:X.calm=N2)(hd:gens[d+1]?=E ⟨target,iter,ifs,0⟩)(F:∀g',gens[d+1+1]?=E g'->g'.is_async=0)(hi:PI X target iter wi)(L:PG X target g){tb:TC}(O:PB X (λk=>bq ifs X.env>>=λok=>if ok=N2 then bc elt gens scope pos (d+1) acc X.env k else k) tb)(hs:∀x,Ks iter X.env x=pure x):
 PB X (bc elt gens scope pos d acc X.env) (λσ H N=>wi σ H λJ H1=>cF J g tb N σ H1):=by
 intro pins s σ H N k Q fv I h hk;unfold bc;rw[hd];refine gV (nox hx (thn (hi pins s σ H _ I h) λv s1 h1=>?_));refine gV (LJ (gV (Lp (hs v) ?_)));refine gV (Ju (nox hx (thn h1 λitv s2 h2=>?_)));obtain⟨it,fp,tn,J,H2,e,U,T,j,f2,hw⟩:=h2;subst e;have loop:=kQ (acc:=acc) hx B hd F L O U T j f2 hw;refine gV (wpAny_runOwn (Mw (iU (R:=λr s'=>match r with|.ok _=>∃σ' H',Inv X pins σ' H' s'/\N σ' H'|.error _=>False) hd loop (T.self _ 0 _ _ _ j loop)) λr s3 z=>?_))
 cases r with
 |error e=>exact z.elim
 |ok f=>obtain⟨σ3,Y,F2,n3⟩:=z;exact hk s3 σ3 Y F2 n3
noncomputable def aT(cells:List (Str×SS)):List (Str×Ll)->List (Str×SS)->List (Str×SS)
 |[],acc=>acc
 |(n,k)::r,acc=>if k==.free then(match cells.lookup n with|some c=>aT cells r ((n,c)::acc)|none=>aT cells r acc)else aT cells r acc
theorem hJ{env:Env}:∀(names:List (Str×Ll)) (acc:List (Str×SS)),(∀x∈names,x.2=.free->(env.cells.lookup x.1).isSome=N2)->
 (forIn names acc λ(x:Str×Ll) (r:List (Str×SS))=>(match x with|(name,kind)=>if(kind==IT)=N2 then do let c <-cellOf env name;pure (LC ((name,c)::r))else pure (LC r):Sem (ForInStep (List (Str×SS)))))=(pure (aT env.cells names acc):Sem (List (Str×SS)))
 |[],acc,_=>rfl
 |(n,k)::r,acc,h=>by
  rw[LD];have ih:=λacc'=>hJ r acc' λx hx=>h x (HR _ hx);unfold aT
  by_cases hk:(k==IT)=N2
  ·obtain⟨c,z⟩:=Le.mp (h (n,k) I0 (beq_iff_eq.mp hk));have j:env.cells.lookup n=E c:=z;have B:cellOf env n=pure c:=by unfold cellOf;rw[j]
   simp only[hk,if_true,B,j,pure_bind];exact ih _
  ·simp only[hk,if_false,pure_bind];exact ih _
theorem iV{env:Env}(h:∀x∈scope.names,x.2=.free->(env.cells.lookup x.1).isSome=N2):closureFor scope env=pure (aT env.cells scope.names []):=by unfold closureFor;have e:=hJ (env:=env) scope.names [] h;simp only[bind_pure];exact e
theorem dr{cells:List (Str×SS)}{y:Str}{c:SS}:∀{names:List (Str×Ll)} {acc:List (Str×SS)},(y,c)∈aT cells names acc->(y,c)∈acc∨(cells.lookup y=E c/\(y,IT)∈names)
 |[],acc,h=>.inl h
 |(n,k)::r,acc,h=>by
  unfold aT at h
  by_cases hk:(k==IT)=N2
  ·rw[if_pos hk]at h;have F:k=.free:=beq_iff_eq.mp hk;subst F
   cases J:cells.lookup n with
   |none=>
    rw[J]at h
    rcases dr h with z|⟨j,B⟩
    ·exact .inl z
    ·exact .inr ⟨j,HR _ B⟩
   |some c'=>
    rw[J]at h
    rcases dr h with z|⟨j,B⟩
    ·rcases Ij.mp z with e|z
     ·cases e
      exact .inr ⟨J,I0⟩
     ·exact .inl z
    ·exact .inr ⟨j,HR _ B⟩
  ·rw[if_neg hk]at h
   rcases dr h with z|⟨j,B⟩
   ·exact .inl z
   ·exact .inr ⟨j,HR _ B⟩
theorem du{cells:List (Str×SS)}{y:Str}{c:SS}(j:cells.lookup y=E c):∀{names:List (Str×Ll)} {acc:List (Str×SS)},((y,c)∈acc∨(y,IT)∈names)->(y,c)∈aT cells names acc
 |[],acc,h=>by
  rcases h with h|h
  ·exact h
  ·simp at h
 |(n,k)::r,acc,h=>by
  unfold aT
  by_cases hk:(k==IT)=N2
  ·rw[if_pos hk];have z:k=.free:=beq_iff_eq.mp hk;subst z
   cases hl:cells.lookup n with
   |none=>
    refine du j ?_
    rcases h with h|h
    ·exact .inl h
    ·rcases Ij.mp h with e|h
     ·cases e;rw[hl]at j;cases j
     ·exact .inr h
   |some c'=>
    refine du j ?_
    rcases h with h|h
    ·exact .inl (HR _ h)
    ·rcases Ij.mp h with e|h
     ·cases e;rw[hl]at j;cases j;exact .inl I0
     ·exact .inr h
  ·rw[if_neg hk];refine du j ?_
   rcases h with h|h
   ·exact .inl h
   ·rcases Ij.mp h with e|h
    ·cases e;exact absurd rfl hk
    ·exact .inr h
theorem di:∀(names:List (Str×Ll)) (n:Nat) (acc acc':List (Str×SS)),Kv n names (acc++acc')=Kv n names acc++acc'
 |[],_,_,_=>rfl
 |(x,k)::r,n,acc,acc'=>by
  unfold Kv
  by_cases j:(k==Kl)=N2
  ·rw[if_pos j,if_pos j];exact di r (n+1) ((x,n)::acc) acc'
  ·rw[if_neg j,if_neg j];exact di r n acc acc'
theorem dj:∀{names:List (Str×Ll)} {n:Nat} {acc:List (Str×SS)} {y:Str} {c:SS},(y,c)∈Kv n names acc->(y,c)∈acc∨(n<=c/\(y,Kl)∈names)
 |[],_,_,_,_,h=>.inl h
 |(x,k)::r,n,acc,y,c,h=>by
  unfold Kv at h
  by_cases hk:(k==Kl)=N2
  ·rw[if_pos hk]at h;have j:k=.cell:=beq_iff_eq.mp hk;subst j
   rcases dj h with z|⟨B,F⟩
   ·rcases Ij.mp z with e|z
    ·cases e;exact .inr ⟨HW _,I0⟩
    ·exact .inl z
   ·exact .inr ⟨Nat.le_of_succ_le B,HR _ F⟩
  ·rw[if_neg hk]at h
   rcases dj h with z|⟨B,F⟩
   ·exact .inl z
   ·exact .inr ⟨B,HR _ F⟩
structure be(sc osc:Scope)(oN N':List Str)(fr:List (Option Nat)):Prop where
 kind:sc.kind=.function
 nd:(sc.names.map (·.1)).Nodup
 ndN:N'.Nodup
 free:∀x∈sc.names,x.2=.free->osc.names.lookup x.1=E .cell∨osc.names.lookup x.1=E .free
 len:fr.length=N'.length
 fr:∀(i j:Nat) (x:Str),N'[i]?=E x->fr[i]?=E (E j)->oN[j]?=E x/\(x,IT)∈sc.names
noncomputable def inh(fr:List (Option Nat))(σ:St):St:=fr.map λo=>o.bind λj=>(σ[j]?).join
noncomputable def bf(X:Cx)(sc:Scope)(L:SS):Env:={scope:=relabel sc X.env,locals:=L,globals:=X.env.globals,cells:=Kv (L+1) sc.names (aT X.env.cells sc.names []),qual:=X.env.qual,func:=Z,code:=X.env.code,frame:=X.env.frame,builtins:=X.env.builtins}
noncomputable def aG(X:Cx)(sc:Scope)(N':List Str)(s:D1)(H:Hp)(fp:List SS):Cx:={X with N:=N',s₀:=s,H₀:=H,env:=bf X sc s.heap.objs.size,outer:=X.stack,stack:=X.stack,ex:=fp,fn:=λx=>sc.names.lookup x==E .cell,pn:=[],xe:=λ_ _=>False}
theorem aS:∀{l:List (Str×Ll)} {x:Str} {k:Ll},(l.map (·.1)).Nodup->(x,k)∈l->l.lookup x=E k
 |(y,k')::r,x,k,nd,h=>by
  have nd':(y::r.map (·.1)).Nodup:=nd;obtain⟨z,B⟩:=JK.mp nd';rw[KL]
  rcases Ij.mp h with e|hm
  ·cases e;simp
  ·have j:(x==y)=R9:=by
    refine beq_eq_false_iff_ne.mpr λe=>?_;subst e;exact z (HQ.mpr ⟨(x,k),hm,rfl⟩)
   rw[j];exact aS B hm
theorem cG{env:Env}:∀{names:List (Str×Ll)} {x:Str},
 (names.map fun (n,k)=>if(k==IT&&env.scope.kind==.function&&env.kindOf n==E .cell)then(n,Kl)else(n,k)).lookup x =
   (names.lookup x).map λk=>if(k==IT&&env.scope.kind==.function&&env.kindOf x==E .cell)then Kl else k
 |[],_=>rfl
 |(n,k)::r,x=>by
  have ih:=cG (env:=env) (names:=r) (x:=x);show List.lookup x ((if(k==IT&&env.scope.kind==.function&&env.kindOf n==E .cell)=N2 then(n,Kl)else(n,k))::_)=_
  rw[KL (a:=x) (b:=k)]
  by_cases hx:x=n
  ·subst hx;simp only[beq_self_eq_true];show _=E (if(k==IT&&env.scope.kind==.function&&env.kindOf x==E .cell)=N2 then Kl else k)
   by_cases j:(k==IT&&env.scope.kind==.function&&env.kindOf x==E .cell)=N2
   ·rw[if_pos j,if_pos j,KL];simp only[beq_self_eq_true]
   ·rw[if_neg j,if_neg j,KL];simp only[beq_self_eq_true]
  ·have z:(x==n)=R9:=beq_eq_false_iff_ne.mpr hx;rw[z]
   by_cases j:(k==IT&&env.scope.kind==.function&&env.kindOf n==E .cell)=N2
   ·rw[if_pos j,KL,z];exact ih
   ·rw[if_neg j,KL,z];exact ih
section
variable{pins:List (SS×Obj)}{σ:St}{H:Hp}{s:D1}{sc:Scope}{N':List Str}{fr:List (Option Nat)}{fp:List SS}
theorem fT(I:Inv X pins σ H s)(B:be sc X.env.scope X.N N' fr):∀x∈sc.names,x.2=.free->(X.env.cells.lookup x.1).isSome=N2:=λx hx e=>by obtain⟨c,j⟩:=I.ok.has x.1 (B.free x hx e);rw[j];rfl
theorem tH(I:Inv X pins σ H s)(f2:∀b∈fp,cr X pins H b)(Gp:∀b∈fp,b<s.heap.objs.size)(B:be sc X.env.scope X.N N' fr):
 Inv (aG X sc N' s H fp) [] (inh fr σ) H {s with heap:=QR (s.heap.push {cls:=.type "dict",data:=.dict #[]}) sc.names}:=by
 have J:∀b o,s.heap.get? b=E o->(QR (s.heap.push {cls:=.type "dict",data:=.dict #[]}) sc.names).get? b=E o:=λb o e=>OW _ _ b o (tv _ e);have ok:=cellsFrom_ok sc.names (s.heap.push {cls:=.type "dict",data:=.dict #[]}) (s.heap.objs.size+1) [] ⟨λ_ _ hm=>(nomatch hm),Qy⟩ (by rw[JU];exact HW _)
 rw[JU]at ok;have capp:Kv (s.heap.objs.size+1) sc.names (aT X.env.cells sc.names [])=Kv (s.heap.objs.size+1) sc.names []++aT X.env.cells sc.names []:=di sc.names _ [] _;have cof:∀x c,(bf X sc s.heap.objs.size).cells.lookup x=E c->((x,c)∈Kv (s.heap.objs.size+1) sc.names []/\s.heap.objs.size<c)∨(X.env.cells.lookup x=E c/\(x,IT)∈sc.names):=λx c e=>by
  have m:=JP e;have m':(x,c)∈Kv (s.heap.objs.size+1) sc.names (aT X.env.cells sc.names []):=m;rw[capp]at m'
  rcases Ie.mp m' with z|z
  ·exact .inl ⟨z,(ok.empty x c z).2⟩
  ·rcases dr z with q|q
   ·simp at q
   ·exact .inr q
 have cOld:∀x c,X.env.cells.lookup x=E c->c<s.heap.objs.size:=λx c e=>by obtain⟨v,q⟩:=I.cell x c e;exact q.lt
 have kindF:∀x,(x,IT)∈sc.names->(bf X sc s.heap.objs.size).kindOf x=E .cell∨(bf X sc s.heap.objs.size).kindOf x=E .free:=λx hx=>by
  have e1:sc.names.lookup x=E .free:=aS B.nd hx;have U:(bf X sc s.heap.objs.size).kindOf x=_:=cG (env:=X.env) (names:=sc.names) (x:=x);rw[e1]at U;rw[U]
  by_cases L:(IT==IT&&X.env.scope.kind==.function&&X.env.kindOf x==E .cell)=N2
  ·exact .inl (by simp only[LF,if_pos L])
  ·exact .inr (by simp only[LF,if_neg L])
 have cellF:∀x c,(x,IT)∈sc.names->X.env.cells.lookup x=E c->(bf X sc s.heap.objs.size).cells.lookup x=E c:=λx c hx L=>by
  have m:=du (acc:=[]) L (.inr hx);have m2:(x,c)∈(bf X sc s.heap.objs.size).cells:=by show(x,c)∈Kv (s.heap.objs.size+1) sc.names (aT X.env.cells sc.names []);rw[capp];exact Iw _ m
  cases F:(bf X sc s.heap.objs.size).cells.lookup x with
  |none=>
   exfalso
   have:∀{l:List (Str×SS)},(x,c)∈l->l.lookup x=Z->False:=by
    intro l
    induction l with
    |nil=>intro h;simp at h
    |cons a r ih=>
     intro h e;obtain⟨y,d⟩:=a;rw[KL]at e
     rcases Ij.mp h with z|z
     ·cases z;simp at e
     ·by_cases hxy:(x==y)=N2
      ·rw[hxy]at e;cases e
      ·simp only[MZ]at hxy;rw[hxy]at e;exact ih z e
   exact this m2 F
  |some c'=>
   rcases cof x c' F with⟨z,_⟩|⟨z,_⟩
   ·rcases dj z with q|⟨_,q⟩
    ·simp at q
    ·have a1:=aS B.nd hx;have a2:=aS B.nd q;rw[a1]at a2;cases a2
   ·rw[L]at z;rw[z]
 have kindC:∀x,(bf X sc s.heap.objs.size).kindOf x=E .cell->(x,Kl)∈sc.names∨(x,IT)∈sc.names:=λx e=>by
  have U:(bf X sc s.heap.objs.size).kindOf x=_:=cG (env:=X.env) (names:=sc.names) (x:=x);rw[U]at e
  cases F:sc.names.lookup x with
  |none=>rw[F]at e;cases e
  |some k=>
   rw[F]at e;have m:=JP F
   cases k with
   |cell=>exact .inl m
   |free=>exact .inr m
   |«local»=>simp at e
   |globalImplicit=>simp at e
   |globalExplicit=>simp at e
 have kindFr:∀x,(bf X sc s.heap.objs.size).kindOf x=E .free->(x,IT)∈sc.names:=λx e=>by
  have U:(bf X sc s.heap.objs.size).kindOf x=_:=cG (env:=X.env) (names:=sc.names) (x:=x);rw[U]at e
  cases F:sc.names.lookup x with
  |none=>rw[F]at e;cases e
  |some k=>
   rw[F]at e;have m:=JP F
   cases k with
   |free=>exact m
   |cell=>simp at e
   |«local»=>simp at e
   |globalImplicit=>simp at e
   |globalExplicit=>simp at e
 refine⟨⟨I.ok.mod,B.kind,I.ok.glob,I.ok.blt,HW _,λy z c h1 h2=>?_,λy hy=>?_,λy c hf h=>?_,I.ok.hd,I.ok.frames,.inl rfl,λb Y=>⟨?_,λx c e=>?_⟩,λb o e=>I.bs b o e,?_,λb o e Y=>?_,λb Y=>?_,I.stack,I.stkFree⟩,
  rfl,I.bare,Un.kept J,⟨_,(Heap.Ns.new s.heap (.type "dict")).keeps (OW _ _),λi x v h1 h2 h3=>?_⟩,λy c h=>?_,I.hok.fresh (HW _),λy c h=>?_,λp hp=>absurd (show p∈([]:List (SS×Obj))from hp) (by simp),I.hok.kept J,?_⟩
 ·rcases cof y c h1 with⟨a1,a2⟩|⟨a1,a2⟩
  ·rcases cof z c h2 with⟨b1,b2⟩|⟨b1,b2⟩
   ·exact name_of_addr ok.apart a1 b1
   ·exact absurd (cOld z c b1) (RW.mpr (LS a2))
  ·rcases cof z c h2 with⟨b1,b2⟩|⟨b1,b2⟩
   ·exact absurd (cOld y c a1) (RW.mpr (LS b2))
   ·exact I.ok.inj y z c a1 b1
 ·have Gs:(y,Kl)∈sc.names∨(y,IT)∈sc.names:=by
   rcases hy with hy|hy
   ·exact kindC y hy
   ·exact .inr (kindFr y hy)
  rcases Gs with q|q
  ·exact Le.mp (Mx sc.names _ _ (.inl (aS B.nd q)))
  ·obtain⟨c,L⟩:=Le.mp (fT I B _ q rfl);exact⟨c,cellF y c q L⟩
 ·have Gu:(sc.names.lookup y==E .cell)=N2:=hf;have Gq:sc.names.lookup y=E .cell:=by simpa using Gu
  rcases cof y c h with⟨_,a2⟩|⟨_,a2⟩
  ·exact LS a2
  ·rw[aS B.nd a2]at Gq;cases Gq
 ·exact IU (Gp b Y)
 ·rcases cof x c e with⟨_,a2⟩|⟨a1,_⟩
  ·exact KH (Nat.lt_trans (Gp b Y) a2)
  ·exact(f2 b Y).2.2.2.2.1 x c a1
 ·exact IW I.ok.bsz I.sz
 ·obtain⟨f0,f1,f3,f4,f5,f6⟩:=f2 b Y
  rcases f4 with z|z
  ·exact I.ok.noex b o e z
  ·exact absurd (IM (IM (Ig e) I.ok.bsz) z) (JJ _)
 ·obtain⟨f0,f1,f3,f4,f5,f6⟩:=f2 b Y;exactλz=>(Ij.mp (I.stkSub b z)).elim f1 f3
 ·have hi:∃j,fr[i]?=E (E j)/\σ[j]?=E (E v):=by
   unfold inh at h2;rw[I8]at h2
   cases e:fr[i]? with
   |none=>rw[e]at h2;cases h2
   |some o=>
    rw[e]at h2
    cases o with
    |none=>cases h2
    |some j=>
     refine⟨j,rfl,?_⟩;have O:E ((σ[j]?).join)=E (E v):=h2
     cases e':σ[j]? with
     |none=>rw[e']at O;cases O
     |some w=>rw[e']at O;cases O;rfl
  obtain⟨j,e1,U⟩:=hi;obtain⟨n1,n2⟩:=B.fr i j x h1 e1;obtain⟨m,hn,F⟩:=I.loc;have hv:Vis X.env.scope x:=.inr (B.free (x,.free) n2 rfl);obtain⟨u,ru,lk⟩:=F j x v n1 U hv;refine⟨u,ru,.inr ⟨kindF x n2,?_⟩⟩
  rcases lk with⟨k1,_⟩|⟨_,c,L,F2⟩
  ·have Gr:X.env.scope.names.lookup x=E .local:=k1
   rcases B.free (x,.free) n2 rfl with z|z
   ·rw[Gr]at z;cases z
   ·rw[Gr]at z;cases z
  ·exact⟨c,cellF x c n2 L,F2.keeps J⟩
 ·rcases cof y c h with⟨a1,a2⟩|⟨a1,a2⟩
  ·exact⟨_,(ok.empty y c a1).1⟩
  ·obtain⟨v,q⟩:=I.cell y c a1;exact⟨v,q.keeps J⟩
 ·rcases cof y c h with⟨a1,a2⟩|⟨a1,a2⟩
  ·exact I.hok.fresh (LS a2)
  ·exact I.freeC y c a1
 ·show(inh fr σ).length=N'.length;unfold inh;rw[hG];exact B.len
theorem kS{σ':St}{s':D1}(I:Inv X pins σ H s)(f2:∀b∈fp,cr X pins H b)(J:Inv (aG X sc N' s H fp) [] σ' H' s')(hs:JV s.heap.objs.size s'.heap h'):
 Inv X pins σ H' {s' with heap:=h'}:=by
 have u:Un (frs X.stack) fp H H' s.heap s'.heap:=J.base;have ne:∀b o,s.heap.get? b=E o->b≠s.heap.objs.size:=λb o e=>IU (Ig e);refine I.call' (s':={s' with heap:=h'}) (ch:=fp) J.os ⟨λb o e n j hx=>?_,λb o e n j hx=>?_,u.free,λb o e hx=>?_,u.tups,u.frzs,u.tbls⟩ (λb v e=>?_) J.bare λb j=>?_
 ·exact(hs.2 b (ne b o e)).trans (u.keep b o e n j hx)
 ·obtain⟨sl,q⟩:=u.slot b o e n j hx;exact⟨sl,(hs.2 b (ne b o e)).trans q⟩
 ·obtain⟨o',q⟩:=u.there b o e hx;exact⟨o',(hs.2 b (ne b o e)).trans q⟩
 ·refine(J.hok b v e).stay (λc w F q=>(hs.2 c ?_).trans q) (λ_ q=>q) λ_ _ q=>q;have fr:H' s.heap.objs.size=Z:=J.free
  rcases F with z|z
  ·rw[z];intro B;rw[B,fr]at e;cases e
  ·intro B;rw[B,fr]at z;cases z
 ·obtain⟨f0,f1,U,f4,L,O⟩:=f2 b j;exact⟨f4,f1,L,O⟩
theorem lX {Q:Env->D1->Prop}{fv:q7->D1->Prop}{M:NZ}(h:Q {scope:=sc,locals:=s.heap.objs.size,globals:=X.env.globals,cells:=Kv (s.heap.objs.size+1) sc.names (aT X.env.cells sc.names []),qual:=X.env.qual,func:=Z,code:=X.env.code,frame:=X.env.frame,builtins:=X.env.builtins}
   {s with heap:=QR (s.heap.push {cls:=.type "dict",data:=.dict #[]}) sc.names}):
 Ik M A (Pg sc X.env.globals (aT X.env.cells sc.names []) [] X.env.qual Z .none (E X.env)) Q fv s:=by
 simp only[Pg,Qj,if_true];refine gV (wpAny_alloc ?_);refine gV (wpAny_layCells _ (λname kind cells=>by cases hkc:kind==Kl<;>simp[hkc]) _ _ _ _ ?_)
 rw[show({s with heap:=s.heap.push {cls:=.type "dict",data:=.dict #[]}}:D1).heap.objs.size=s.heap.objs.size+1 from JU ..]
 exact gV (D2 (D2 h))
theorem n8(hc:X.calm=N2){rest:List Jg}{fv:q7->D1->Prop}(hx:∀e s,X.xe e s->False)(B:be sc X.env.scope X.N N' fr)(ha:∀g',rest[0]?=E g'->g'.is_async=0)(hi:PI X target iter wi){tb:SS->TC}(hg:∀s H fp,PG (aG X sc N' s H fp) target g)(j:∀s H fp p,PB (aG X sc N' s H fp) (λk=>bq ifs (aG X sc N' s H fp).env>>=λok=>if ok=N2 then bc elt (⟨target,iter,ifs,0⟩::rest) sc pos 0 (.ref p) (aG X sc N' s H fp).env k else k) (tb p)){Nn:SS->St->Hp->Prop}{RR:q7->SS->RQ->D1->Prop}(I:Inv X pins σ H s)(h:wi σ H λJ H1=>∀p,H1 p=Z->cF J g (tb p) (Nn p) (inh fr σ) (upd H1 p (.lst [])))(hR:∀p fp s3 U s' σ' H' f,Inv X pins σ U s3->(∀b∈fp,cr X pins U b)->Inv (aG X sc N' s3 U fp) [] σ' H' s'->Nn p σ' H'->RR (.ref p) s3.heap.objs.size (.ok f) s'):
 Ik (model X.prog X.w) X.A (eval iter X.env) (λx s₁=>Ik (model X.prog X.w) X.A (Qf x) (λit s₂=>Ik (model X.prog X.w) X.A (newList []) (λacc s₃=>
  Ik (model X.prog X.w) X.A (Pg sc X.env.globals (aT X.env.cells sc.names []) [] X.env.qual Z .none (E X.env)) (λcenv s₄=>Mf (model X.prog X.w) X.A (.compStart (.ListComp elt (⟨target,iter,ifs,0⟩::rest) sc pos) 0 it acc {cenv with scope:=relabel sc X.env}) (RR acc cenv.locals) s₄) fv s₃) fv s₂) fv s₁) fv s:=by
 refine nox hx (thn (hi pins s σ H _ I h) λv s1 h1=>nox hx (thn h1 λitv s2 h2=>?_));obtain⟨it,fp,tn,J,H2,e,I2,T,F,f2,hw⟩:=h2;subst e;have hf:H2 s2.heap.objs.size=Z:=I2.hok.fresh (HW _);refine Oj ?_;have I3:Inv X pins σ (upd H2 s2.heap.objs.size (.lst [])) {s2 with heap:=s2.heap.push {cls:=.type "list",dict:=Z,data:=.seq ([]:List q7).toArray}}:=I2.laid (t':=s2.toks) (λb u e=>tv _ e) (HW _) ⟨JG _,[],0,.nil,I9 _ rfl⟩
 have fneq:∀b∈fp,b≠s2.heap.objs.size:=λb j z=>by obtain⟨o,e,_⟩:=T.obj _ _ F b j;exact absurd (Ig e) (by rw[z];exact JJ _)
 have Y:∀b∈fp,cr X pins (upd H2 s2.heap.objs.size (.lst [])) b:=λb j=>⟨by rw[aj (fneq b j)];exact(f2 b j).1,(f2 b j).2⟩
 have F2:∀b∈fp,b<(s2.heap.push {cls:=.type "list",dict:=Z,data:=.seq ([]:List q7).toArray}).objs.size:=λb j=>by obtain⟨o,e,_⟩:=T.obj _ _ F b j;rw[JU];exact Nat.lt_succ_of_lt (Ig e)
 have Gp:tn 0 (s2.heap.push {cls:=.type "list",dict:=Z,data:=.seq ([]:List q7).toArray}):=T.keep _ _ _ F λb _ o e=>tv _ e;refine lX ?_;have O:=tH (N':=N') I3 Y F2 B;have L:=T.keep _ (h':=QR (({s2 with heap:=s2.heap.push {cls:=.type "list",dict:=Z,data:=.seq ([]:List q7).toArray}}:D1).heap.push {cls:=.type "dict",data:=.dict #[]}) sc.names) _ Gp λb _ o e=>OW _ _ b o (tv _ e)
 have f4:∀b∈fp,cr (aG X sc N' {s2 with heap:=s2.heap.push {cls:=.type "list",dict:=Z,data:=.seq ([]:List q7).toArray}} (upd H2 s2.heap.objs.size (.lst [])) fp) [] (upd H2 s2.heap.objs.size (.lst [])) b:=λb j=>⟨(Y b j).1,(O.ok.exf b j).1,O.ok.exfs b j,.inl j,(O.ok.exf b j).2,λp hp=>absurd (show p∈([]:List (SS×Obj))from hp) (by simp)⟩
 have loop:=kQ (X:=aG X sc N' {s2 with heap:=s2.heap.push {cls:=.type "list",dict:=Z,data:=.seq ([]:List q7).toArray}} (upd H2 s2.heap.objs.size (.lst [])) fp) (λ_ _ z=>z) hc
  (elt:=elt) (pos:=pos) (scope:=sc) (gens:=⟨target,iter,ifs,0⟩::rest) (d:=0) (acc:=.ref s2.heap.objs.size) rfl (λg' e=>ha g' (by simpa using e)) (hg _ _ _) (j _ _ _ _) O T L f4 (hw _ hf)
 refine Mw (iU (R:=λr s'=>match r with|.ok _=>∃σ' H',Inv (aG X sc N' {s2 with heap:=s2.heap.push {cls:=.type "list",dict:=Z,data:=.seq ([]:List q7).toArray}} (upd H2 s2.heap.objs.size (.lst [])) fp) [] σ' H' s'/\Nn s2.heap.objs.size σ' H'|.error _=>False)
  (gens:=⟨target,iter,ifs,0⟩::rest) (d:=0) rfl loop (T.self _ 0 _ _ _ L loop)) λr s5 hr=>?_
 cases r with
 |error e=>exact hr.elim
 |ok f=>obtain⟨σ5,H5,I5,n5⟩:=hr;exact hR _ fp _ _ s5 σ5 H5 f I3 Y I5 n5
noncomputable def rj(wi:TI)(g:TG)(tb:SS->TC)(fr:List (Option Nat)):TE:=λσ H Q=>wi σ H λJ H1=>∀p,H1 p=Z->cF J g (tb p) (λ_ H2=>Q (.ref p) H2) (inh fr σ) (upd H1 p (.lst []))
theorem kT(B:be sc X.env.scope X.N N' fr):∀x∈sc.names,x.2=.local->sc.names.lookup x.1=E .local:=λx hx e=>by obtain⟨n,k⟩:=x;have e':k=.local:=e;subst e';exact aS B.nd hx
theorem hZ(z:X.calm=N2){rest:List Jg}(hx:∀e s,X.xe e s->False)(B:be sc X.env.scope X.N N' fr)(F:∀g',rest[0]?=E g'->g'.is_async=0)(hi:PI X target iter wi){tb:SS->TC}(L:∀s H fp,PG (aG X sc N' s H fp) target g)(O:∀s H fp p,PB (aG X sc N' s H fp) (λk=>bq ifs (aG X sc N' s H fp).env>>=λok=>if ok=N2 then bc elt (⟨target,iter,ifs,0⟩::rest) sc pos 0 (.ref p) (aG X sc N' s H fp).env k else k) (tb p))(hs:∀x,Ks iter X.env x=pure x):
 PE X (.ListComp elt (⟨target,iter,ifs,0⟩::rest) sc pos) (rj wi g tb fr):=by
 intro pins s σ H Q I h;rw[eval_ListComp];refine Ol (use:=Z) rfl hs (iV (fT I B)) B.kind (kT B) (n8 (Nn:=λp _ H2=>Q (.ref p) H2) (RR:=λacc C=>compPost (model X.prog X.w) X.A X.xe Z (EP X pins σ Q) acc C) z hx B F hi L O I h ?_);intro p fp s3 H3 s' σ' H' f U Y J q;obtain⟨m,F2,_⟩:=J.loc;exact⟨m,F2,λh' j=>⟨.ref p,H',kS U Y J j,rfl,q⟩⟩
theorem iW(hc:X.calm=N2){rest:List Jg}{spos:Pos}{x:Str}{i:Nat}(hx:∀e s,X.xe e s->False)(B:be sc X.env.scope X.N N' fr)(ha:∀g',rest[0]?=E g'->g'.is_async=0)(hi:PI X target iter wi){tb:SS->TC}(hg:∀s H fp,PG (aG X sc N' s H fp) target g)(F:∀s H fp p,PB (aG X sc N' s H fp) (λk=>bq ifs (aG X sc N' s H fp).env>>=λok=>if ok=N2 then bc elt (⟨target,iter,ifs,0⟩::rest) sc pos 0 (.ref p) (aG X sc N' s H fp).env k else k) (tb p))(hs:∀x,Ks iter X.env x=pure x)(L:PG X (.Name x pos') (iL i))(O:Mm (.ListComp elt (⟨target,iter,ifs,0⟩::rest) sc pos) (E (.Name x pos')) spos.line X.env=pure N2):
 PS X (.Assign [.Name x pos'] (.ListComp elt (⟨target,iter,ifs,0⟩::rest) sc pos) spos) (qV (rj wi g tb fr) (iL i)):=by
 intro pins s σ H D I h;rw[exec_Assign_Name_used _ _ _ _ O];refine gV (LJ (gV ?_));show Ik _ X.A (do let _ <-comprehension (.ListComp elt (⟨target,iter,ifs,0⟩::rest) sc pos) sc X.env _ (newList []) R9 (eval iter X.env) (E (assign (.Name x pos') X.env))) _ _ s
 refine gV (Kf (Ol (use:=E (assign (.Name x pos') X.env)) (Q:=λ_ s'=>SP X pins D .next s') rfl hs (iV (fT I B)) B.kind (kT B)
  (n8 (Nn:=λp _ H2=>D.nx (σ.set i (E (.ref p))) H2) (RR:=λacc C=>compPost (model X.prog X.w) X.A X.xe (E (assign (.Name x pos') X.env)) (λ_ s'=>SP X pins D .next s') acc C) hc hx B ha hi hg F I h ?_)) (λ_ s' hq=>D2 (D2 hq)) λ_ _ e=>e)
 intro p fp s3 H3 s' σ' H' f j f3 J q;obtain⟨m,⟨o,es,ep,ho,hd,hk,hm⟩,_⟩:=J.loc;have I4:Inv X pins σ H' s':=kS (h':=s'.heap) j f3 J ⟨rfl,λ_ _=>rfl⟩;have hL:(aG X sc N' s3 H3 fp).env.locals=s3.heap.objs.size:=rfl;rw[hL]at ho;have U:H' s3.heap.objs.size=Z:=J.free;have neL:s3.heap.objs.size≠X.env.locals:=KH j.lt;have nfs:s3.heap.objs.size∉X.fs:=j.nofs (HW _);have I5:Inv X (pins++[(s3.heap.objs.size,o)]) σ H' s':=I4.pins_of λpr Y=>by
  rcases Ie.mp Y with z|z
  ·exact I4.pin pr (Iw _ z)
  ·have e:pr=(s3.heap.objs.size,o):=by simpa using z
   subst e;exact⟨ho,U,neL,nfs,λv z=>by rw[hd]at z;cases z⟩
 show Ik _ X.A (assign (.Name x pos') X.env (.ref p)) _ _ _;refine thn (L _ s' σ H' (.ref p) (.ref p) D.nx I5 rfl q) λ_ s6 g9=>?_;obtain⟨σ6,H6,I6,q6⟩:=g9;obtain⟨F2,Gp,_⟩:=I6.pin (s3.heap.objs.size,o) (Iw _ (Iw _ (by simp)))
 refine⟨m,⟨o,es,ep,F2,hd,hk,hm⟩,λh' Gq=>⟨σ6,H6,?_,q6⟩⟩;refine(I6.unpinned).turned (t':=s6.toks) (it:=s3.heap.objs.size) (λb o F e=>(Gq.2 b F).trans e) Gp neL (.inr j.sz) (λy c e z=>?_) λpr Y z=>?_
 ·obtain⟨v,q⟩:=j.cell y c e;exact absurd q.lt (by rw[z];exact JJ _)
 ·exact absurd (Ig (j.pin pr Y).1) (by rw[z];exact JJ _)
end
end
end
section
open PySem.W (CodeHd tabObj kla_fn kla_obj)
noncomputable def fzO(a:SS)(o:Obj):HO:=.frz o (.ext λh=>h.get? a=E o)
def Ed(H:Hp)(P:SS)(pos:Pos)(q:Str):Prop:=∃ps,H P=E (.tbl ps)/\(ps=#[]∨∃c' oc vs t,ps=#[Nk pos.line,Nk pos.col,.ref c']/\H c'=E (fzO c' oc)/\oc.data=.fields vs/\vs[1]?=E (.str q t))
def Ee(mg:Str->Option q7)(base:Heap):Prop:=∃bm ob,mg "__builtins__"=E (.ref bm)/\bm≠OD/\base.get? bm=E ob/\ob.cls=.type "module"/\ob.dict=E OD/\ob.data=.plain
open PySem.W (envX)
structure CP(P:Iy)(w:IY)(K:Frag)(mg:Str->Option q7)(base:Heap)(k:Nat)(fs:List SS)(a:SS)(sp:Sp)(H:Hp)(h:Heap):Prop where
 fn:∃o fd,H a=E (fzO a o)/\o.data=.func fd
 run:∀(A:Ji) (outer:List Env) (s1:D1) (H1:Hp) (u1 u2:q7) (v1 v2:V) (Q:VK),Un fs [] H H1 h s1.heap->Room k A->jH P w K mg base A outer s1 H1->RelV v1 u1->RelV v2 u2->sp [v1,v2] H1 Q E0->
  Mf (model P w) A (.call (.ref a) ⟨[u1,u2],[]⟩) (CR CX0 outer P w H1 s1 Q E0) s1
structure CQ(P:Iy)(w:IY)(K:Frag)(mg:Str->Option q7)(base:Heap)(k:Nat)(f:SS)(fd:LA)(ps:List Str)(sp:List Env->D1->Sp):Prop where
 len:∀o s vs H Q fv,sp o s vs H Q fv->vs.length=ps.length
 run:∀(A:Ji) (outer:List Env) (s:D1) (H:Hp) (args:Args) (us:List q7) (vs:List V) (Q:VK) (fv:XK),Room k A->jH P w K mg base A outer s H->PF s fd args (ps.zip us)->Vals vs us->sp outer s vs H Q fv->
  Mf (model P w) A (.call (.ref f) args) (CR CX0 outer P w H s Q fv) s
end
namespace Zp
def At(t:Bool)(h:Heap)(i l:SS)(k:Nat):Prop:=match t with|true=>h.IsTupleIter i l k|false=>h.IsListIter i l k
def Sq(t:Bool)(h:Heap)(l:SS)(xs:Array q7):Prop:=match t with|true=>h.IsTuple l xs|false=>h.IsList l xs
variable{h:Heap}{i l:SS}
theorem At.up{t:Bool}{h':Heap}{k:Nat}(x:At t h i l k)(e:∀o,h.get? i=E o->h'.get? i=E o):At t h' i l k:=by cases t<;>(obtain⟨o,ho,r⟩:=x;exact⟨o,e o ho,r⟩)
variable{xs:Array q7}
theorem Sq.up{t:Bool}{h':Heap}(x:Sq t h l xs)(e:∀o,h.get? l=E o->h'.get? l=E o):Sq t h' l xs:=by cases t<;>(obtain⟨o,ho,r⟩:=x;exact⟨o,e o ho,r⟩)
theorem At.lt{t:Bool}{k:Nat}(x:At t h i l k):∃o,h.get? i=E o/\∀v,o.data≠.cell v:=by cases t<;>(obtain⟨o,ho,j,hd⟩:=x;exact⟨o,ho,λv z=>by rw[hd]at z;cases z⟩)
variable{x r:q7}{z T j a b:SS}{u:Bool}{ys:Array q7}
section
variable{prog:Iy}{w:IY}{A:Ji}{fv:q7->D1->Prop}{s:D1}
open Builtin.SmallTypes in
theorem wg{k:Nat}{Q:q7->D1->Prop}(hi:s.heap.IsTupleIter i l k)(O:s.heap.IsTuple l xs)(hx:xs[k]?=E x)(q:∀h',h'.IsTupleIter i l (k+1)->JV i s.heap h'->Q x {s with heap:=h'}):Ik (model prog w) A (nextOf (.ref i)) Q fv s:=by
 obtain⟨ob,z,B,j⟩:=id hi;obtain⟨oq,J,_,nq,L⟩:=O;unfold nextOf;refine gV (J0 (name:=IF "__next__") hi.typeIs KQ (Jj KQ hi.typeIs Ny ?_ (Np _)));refine gV (m:=field (.ref i) 0) (Je z j (x:=.ref l) rfl ?_);refine(if_neg (c:=(Ke l==LP)=N2) Ih)▸?_;refine gV (m:=field (.ref i) 1) (Je z j (x:=.int k 0) rfl ?_);refine gV (m:=seqItems? (.ref l)) (Kq J L ?_);simp only[Il,hx];refine gV (wpAny_setField z j (by simp) (D2 ⟨x,rfl,D2 (q _ ⟨_,P2 _ z (Obj.isFreed_of_fields (Qk j _)),(Obj.cls_mapFields ..).trans B,?_⟩ (PR ..))⟩))
 rw[Qk j];simp[Nk]
open Builtin.SmallTypes in
theorem yU{k:Nat}{Q:q7->D1->Prop}(L:A.handled=Z)(hi:s.heap.IsTupleIter i l k)(O:s.heap.IsTuple l xs)(hx:xs[k]?=Z)(q:∀h' e,Rk i s.heap h'->(∃o,h'.get? e=E o/\o.cls=.type "StopIteration")->fv (.ref e) {s with heap:=h'}):Ik (model prog w) A (nextOf (.ref i)) Q fv s:=by
 obtain⟨ob,j,U,z⟩:=id hi;obtain⟨oq,B,_,nq,J⟩:=O;unfold nextOf;refine gV (J0 (name:=IF "__next__") hi.typeIs KQ (Jj KQ hi.typeIs Ny ?_ (Np _)));refine gV (m:=field (.ref i) 0) (Je j z (x:=.ref l) rfl ?_);refine(if_neg (c:=(Ke l==LP)=N2) Ih)▸?_;refine gV (m:=field (.ref i) 1) (Je j z (x:=.int k 0) rfl ?_);refine gV (m:=seqItems? (.ref l)) (Kq B J ?_);simp only[Il,hx];refine gV (Kh (gV (wpAny_setField j z (by simp) ?_)))
 refine gV (m:=newExc (.type "StopIteration") []) ?_;simp only[newExc,newTuple];refine gV (JQ ?_ (by size_fits))
 refine gV (m:=NQ _ _) (Lp (a:=LP) (by first|rfl|(simp only[NQ];rfl)) (JQ ?_ (by size_fits)))
 simp only[raiseNew];refine gV (wpAny_handled ?_)
 first|rw[show A.in1.handled=Z from L]|rw[L]
 exact gV (D2 (Rl (q _ _ (((PR ..).extBut.push _).push _) ⟨_,I9 _ rfl,rfl⟩)))
open Builtin.SmallTypes in
theorem nx_item{t:Bool}{k:Nat}{Q:q7->D1->Prop}(hi:At t s.heap i l k)(j:Sq t s.heap l xs)(hx:xs[k]?=E x)(q:∀h',At t h' i l (k+1)->JV i s.heap h'->Q x {s with heap:=h'}):Ik (model prog w) A (nextOf (.ref i)) Q fv s:=by
 cases t with
 |true=>exact wg hi j hx q
 |false=>exact wpAny_nextOf_list_item hi j hx q
open Builtin.SmallTypes in
theorem nx_end{t:Bool}{k:Nat}{Q:q7->D1->Prop}(j:A.handled=Z)(hi:At t s.heap i l k)(z:Sq t s.heap l xs)(hx:xs[k]?=Z)(q:∀h' e,Rk i s.heap h'->(∃o,h'.get? e=E o/\o.cls=.type "StopIteration")->fv (.ref e) {s with heap:=h'}):Ik (model prog w) A (nextOf (.ref i)) Q fv s:=by
 cases t with
 |true=>exact yU j hi z hx q
 |false=>exact wpAny_nextOf_list_end j hi z hx q
open Builtin.SmallTypes in
theorem B6 {O:SS}{t:Bool}{k:Nat}{y p:q7}{Q:q7->D1->Prop}(D:Ph z T O i j a b)(J:Oa s.heap z T O .none)(hT:Lh s.heap T (.ref i) (.ref j))(hO:Lh s.heap O p r)(hi:At t s.heap i a k)(hj:At u s.heap j b k)(ha:Sq t s.heap a xs)(hb:Sq u s.heap b ys)(hx:xs[k]?=E x)(hy:ys[k]?=E y)(q:∀h',Oa h' z T O (Nk s.heap.objs.size)->Lh h' O x y->At t h' i a (k+1)->At u h' j b (k+1)->Lh h' s.heap.objs.size x y->
   (∀c o,c≠z->c≠O->c≠i->c≠j->s.heap.get? c=E o->h'.get? c=E o)->Q (.ref s.heap.objs.size) {s with heap:=h'}):
 Ik (model prog w) A (KW.«zip.__next__» ⟨[.ref z],[]⟩) (λfin s'=>∃v,fin=.done (.ret v)/\Q v s') fv s:=by
 refine gV (m:=field (.ref z) 2) (Je J rfl (x:=.bool R9) rfl ?_);refine gV (m:=field (.ref z) 3) (Je J rfl (x:=.ref T) rfl ?_);refine gV (Kq hT rfl ?_);refine gV (m:=ownedTupleIsFree (.ref z)) ?_;unfold ownedTupleIsFree;refine gV (Je J rfl (x:=.none) rfl (D2 ?_));simp only[if_true];refine gV (Kh (gV (Je J rfl (x:=.ref O) rfl (gV (J3 J (by simp) λg1 z1 s1=>?_)))))
 have Z1:Oa g1 z T O .ellipsis:=z1;clear z1;refine gV ?_;simp only[QS,RA,LD,Pj];refine gV (gV (Om (gV (m:=nextOf (.ref i)) ?_)));refine nx_item (hi.up λo e=>s1.extBut _ o D.i1z e) (ha.up λo e=>s1.extBut _ o D.l1z e) hx λg2 Y s2=>D2 ?_;have O2:Lh g2 O p r:=s2.extBut _ _ D.TOi1 (s1.extBut _ _ D.TOz hO);refine gV (Kq O2 rfl (gV (Nc O2 λg3 o3 s3=>?_)));have O3:Lh g3 O x r:=o3;clear o3;refine gV (Pk (D2 (gV (gV (Om (gV (m:=nextOf (.ref j)) ?_))))));refine nx_item (hj.up λo e=>s3.extBut _ o D.TOi2.symm (s2.extBut _ o D.i12.symm (s1.extBut _ o D.i2z e))) (hb.up λo e=>s3.extBut _ o D.l2TO (s2.extBut _ o D.l2i1 (s1.extBut _ o D.l2z e))) hy λg4 F2 s4=>D2 ?_;have O4:Lh g4 O x r:=s4.extBut _ _ D.TOi2 O3;refine gV (Kq O4 rfl (gV (Nc O4 λB o5 s5=>?_)));have O5:Lh B O x y:=o5;clear o5;refine gV (Pk (D2 (D2 (gV (Kq O5 rfl (gV (Pm ?_)))))));have sz:B.objs.size=s.heap.objs.size:=by rw[s5.1,s4.1,s3.1,s2.1,s1.1]
 have k5:∀c o,c≠z->c≠O->c≠i->c≠j->s.heap.get? c=E o->B.get? c=E o:=λc o F L c3 c4 e=>s5.extBut _ _ L (s4.extBut _ _ c4 (s3.extBut _ _ L (s2.extBut _ _ c3 (s1.extBut _ _ F e))))
 have Z5:Oa B z T O .ellipsis:=s5.extBut _ _ D.TOz.symm (s4.extBut _ _ D.i2z.symm (s3.extBut _ _ D.TOz.symm (s2.extBut _ _ D.i1z.symm Z1)));have I5:At t B i a (k+1):=Y.up λo e=>s5.extBut _ o D.TOi1.symm (s4.extBut _ o D.i12 (s3.extBut _ o D.TOi1.symm e));have J5:At u B j b (k+1):=F2.up λo e=>s5.extBut _ o D.TOi2.symm e;have zl:z<B.objs.size:=Ig Z5;refine gV (m:=ownedTupleHandOut (.ref z) (.ref B.objs.size)) ?_;unfold ownedTupleHandOut;refine gV (J3 (tv _ Z5) (by simp) λg7 z7 s7=>?_)
 have Z7:Oa g7 z T O (Nk B.objs.size):=z7;clear z7;refine J3 Z7 (by simp) λU z8 s8=>?_
 have Z8:Oa U z T O (Nk B.objs.size):=z8;clear z8;have up:∀c o,c≠z->B.get? c=E o->U.get? c=E o:=λc o F e=>s8.extBut _ _ F (s7.extBut _ _ F (tv _ e));have P8:Lh U B.objs.size x y:=s8.extBut _ _ (KH zl) (s7.extBut _ _ (KH zl) (I9 _ rfl));rw[sz]at Z8 P8;refine D2 ⟨_,rfl,?_⟩;show Q (.ref B.objs.size) _;rw[sz];exact q U Z8 (up _ _ D.TOz O5) (I5.up λo e=>up _ o D.i1z e) (J5.up λo e=>up _ o D.i2z e) P8 λc o F L c3 c4 e=>up c o F (k5 c o F L c3 c4 e)
open Builtin.SmallTypes in
theorem CS{O:SS}{t:Bool}{k:Nat}{p:q7}{Q:Fin->D1->Prop}(hn:A.handled=Z)(D:Ph z T O i j a b)(J:Oa s.heap z T O .none)(hT:Lh s.heap T (.ref i) (.ref j))(hO:Lh s.heap O p r)(hi:At t s.heap i a k)(hj:At u s.heap j b k)(ha:Sq t s.heap a xs)(hb:Sq u s.heap b ys)(L:xs[k]?=Z∨ys[k]?=Z)(q:∀h' e,(∀c o,c≠z->c≠O->c≠i->c≠j->s.heap.get? c=E o->h'.get? c=E o)->(∃o,h'.get? e=E o/\o.cls=.type "StopIteration")->fv (.ref e) {s with heap:=h'}):
 Ik (model prog w) A (KW.«zip.__next__» ⟨[.ref z],[]⟩) Q fv s:=by
 refine gV (m:=field (.ref z) 2) (Je J rfl (x:=.bool R9) rfl ?_);refine gV (m:=field (.ref z) 3) (Je J rfl (x:=.ref T) rfl ?_);refine gV (Kq hT rfl ?_);refine gV (m:=ownedTupleIsFree (.ref z)) ?_;unfold ownedTupleIsFree;refine gV (Je J rfl (x:=.none) rfl (D2 ?_));simp only[if_true];refine gV (Kh (gV (Je J rfl (x:=.ref O) rfl (gV (J3 J (by simp) λg1 z1 s1=>?_)))))
 have Z1:Oa g1 z T O .ellipsis:=z1;clear z1;refine gV ?_;simp only[QS,RA,LD,Pj];refine gV (gV (Om (gV (m:=nextOf (.ref i)) ?_)));have U:At t g1 i a k:=hi.up λo e=>s1.extBut _ o D.i1z e;have Y:Sq t g1 a xs:=ha.up λo e=>s1.extBut _ o D.l1z e
 cases hx:xs[k]? with
 |none=>
  refine nx_end hn U Y hx λg2 e s2 he=>?_;obtain⟨oe,B,F⟩:=he;have Z2:Oa g2 z T O .ellipsis:=s2 _ _ D.i1z.symm Z1;have ez:e≠z:=λx=>by subst x;rw[Z2]at B;cases B;simp at F
  exact J3 Z2 (by simp) λg3 _ s3=>q g3 e (λc o F2 _ c3 _ x=>s3.extBut _ _ F2 (s2 _ _ c3 (s1.extBut _ _ F2 x))) ⟨oe,s3.extBut _ _ ez B,F⟩
 |some x=>
  have hy:ys[k]?=Z:=L.elim (λz=>by rw[hx]at z;cases z) id
  refine nx_item U Y hx λg2 Gp s2=>D2 ?_;have O2:Lh g2 O p r:=s2.extBut _ _ D.TOi1 (s1.extBut _ _ D.TOz hO);refine gV (Kq O2 rfl (gV (Nc O2 λg3 o3 s3=>?_)));refine gV (Pk (D2 (gV (gV (Om (gV (m:=nextOf (.ref j)) ?_))))));refine nx_end hn (hj.up λo e=>s3.extBut _ o D.TOi2.symm (s2.extBut _ o D.i12.symm (s1.extBut _ o D.i2z e))) (hb.up λo e=>s3.extBut _ o D.l2TO (s2.extBut _ o D.l2i1 (s1.extBut _ o D.l2z e))) hy λg4 e s4 he=>?_;obtain⟨oe,B,F⟩:=he;have Z4:Oa g4 z T O .ellipsis:=s4 _ _ D.i2z.symm (s3.extBut _ _ D.TOz.symm (s2.extBut _ _ D.i1z.symm Z1));have ez:e≠z:=λx=>by subst x;rw[Z4]at B;cases B;simp at F
  exact J3 Z4 (by simp) λg5 _ s5=>q g5 e (λc o F2 c2 c3 c4 x=>s5.extBut _ _ F2 (s4 _ _ c4 (s3.extBut _ _ c2 (s2.extBut _ _ c3 (s1.extBut _ _ F2 x))))) ⟨oe,s5.extBut _ _ ez B,F⟩
theorem nxt_item {O:SS}{t:Bool}{k:Nat}{y p:q7}{Q:Option q7->D1->Prop}(D:Ph z T O i j a b)(B:Oa s.heap z T O .none)(J:Lh s.heap T (.ref i) (.ref j))(L:Lh s.heap O p r)(hi:At t s.heap i a k)(U:At u s.heap j b k)(Y:Sq t s.heap a xs)(F2:Sq u s.heap b ys)(hx:xs[k]?=E x)(hy:ys[k]?=E y)(q:∀h',Oa h' z T O (Nk s.heap.objs.size)->Lh h' O x y->At t h' i a (k+1)->At u h' j b (k+1)->Lh h' s.heap.objs.size x y->
   (∀c o,c≠z->c≠O->c≠i->c≠j->s.heap.get? c=E o->h'.get? c=E o)->Q (E (.ref s.heap.objs.size)) {s with heap:=h'}):
 Ik (model prog w) A (Mu (.ref z)) Q fv s:=by
 have ty:s.TypeIs (.ref z) "zip":=⟨_,B,rfl⟩;unfold Mu;exact gV (Li (J0 (name:=IF "__next__") ty Nq (Jj Nq ty QT
  (B6 D B J L hi U Y F2 hx hy λh' a1 a2 a3 a4 a5 a6=>D2 (q h' a1 a2 a3 a4 a5 a6)) (QA _))))
theorem nxt_end{O:SS}{t:Bool}{k:Nat}{p:q7}{Q:Option q7->D1->Prop}(L:A.handled=Z)(D:Ph z T O i j a b)(J:Oa s.heap z T O .none)(U:Lh s.heap T (.ref i) (.ref j))(Y:Lh s.heap O p r)(hi:At t s.heap i a k)(F2:At u s.heap j b k)(ha:Sq t s.heap a xs)(hb:Sq u s.heap b ys)(B:xs[k]?=Z∨ys[k]?=Z)(q:∀h',(∀c o,c≠z->c≠O->c≠i->c≠j->s.heap.get? c=E o->h'.get? c=E o)->Q Z {s with heap:=h'}):Ik (model prog w) A (Mu (.ref z)) Q fv s:=by
 have ty:s.TypeIs (.ref z) "zip":=⟨_,J,rfl⟩;unfold Mu;refine gV (Li (J0 (name:=IF "__next__") ty Nq (Jj Nq ty QT
  (CS L D J U Y hi F2 ha hb B λh' e hk he=>?_) (QA _))))
 obtain⟨o,ho,hc⟩:=he;exact gV (Lm (T:="StopIteration") (b:=N2) ⟨o,ho,hc⟩ Pn (D2 (q _ hk)))
noncomputable def itO(t:Bool)(l:SS):Obj:=match t with|true=>{cls:=.type "tuple_iterator",data:=.fields #[.ref l,.int 0 0]}|false=>{cls:=.type "list_iterator",data:=.fields #[.ref l,.int 0 0]}
noncomputable def zH1(h:Heap)(t:Bool)(a:SS):Heap:=h.push (itO t a)
noncomputable def zH2(h:Heap)(t u:Bool)(a b:SS):Heap:=(zH1 h t a).push (itO u b)
noncomputable def zH3(h:Heap)(t u:Bool)(a b:SS):Heap:=(zH2 h t u a b).push {cls:=.type "tuple",data:=.seq #[.ref h.objs.size,.ref (zH1 h t a).objs.size]}
noncomputable def zH4(h:Heap)(t u:Bool)(a b:SS):Heap:=(zH3 h t u a b).push {cls:=.type "tuple",data:=.seq #[.none,.none]}
noncomputable def zH5(h:Heap)(t u:Bool)(a b:SS):Heap:=(zH4 h t u a b).push {cls:=.type "zip",data:=.fields #[.none,.bool R9,.bool R9,.ref (zH2 h t u a b).objs.size,.ref (zH3 h t u a b).objs.size]}
theorem tI(t u:Bool)(a b:SS)(xs ys:Array q7):
 Meets (KW.«zip.__new__» ⟨[.type "zip",.ref a,.ref b],[]⟩) (λ_ R s=>Sq t s.heap a xs/\Sq u s.heap b ys/\R (.ok (.ret (.ref (zH4 s.heap t u a b).objs.size))) {s with heap:=zH5 s.heap t u a b}):=
 .of_wp λprog w A R s h=>by
  obtain⟨j,g,d,tk,os⟩:=s;obtain⟨F,J,h⟩:=h;have hs:=sub_zip
  cases t<;>cases u
  ·have z:Po (Lq ⟨j,g,d,tk,os⟩) a xs:=F;have B:Po (Lq ⟨j.push {cls:=.type "list_iterator",data:=.fields #[.ref a,.int 0 0]},g,d,tk,os⟩) b ys:=QU J _
   wp_walk using Kx z,Kx B
   exact⟨_,rfl,h⟩
  ·have z:Po (Lq ⟨j,g,d,tk,os⟩) a xs:=F;have B:Nz (Lq ⟨j.push {cls:=.type "list_iterator",data:=.fields #[.ref a,.int 0 0]},g,d,tk,os⟩) b ys:=QB J _
   wp_walk using Kx z,JX B
   exact⟨_,rfl,h⟩
  ·have z:Nz (Lq ⟨j,g,d,tk,os⟩) a xs:=F;have B:Po (Lq ⟨j.push {cls:=.type "tuple_iterator",data:=.fields #[.ref a,.int 0 0]},g,d,tk,os⟩) b ys:=QU J _
   wp_walk using JX z,Kx B
   exact⟨_,rfl,h⟩
  ·have z:Nz (Lq ⟨j,g,d,tk,os⟩) a xs:=F;have B:Nz (Lq ⟨j.push {cls:=.type "tuple_iterator",data:=.fields #[.ref a,.int 0 0]},g,d,tk,os⟩) b ys:=QB J _
   wp_walk using JX z,JX B
   exact⟨_,rfl,h⟩
theorem at_new{t:Bool}(e:h.get? i=E (itO t l)):At t h i l 0:=by cases t<;>exact⟨_,e,rfl,rfl⟩
theorem call_zip {t:Bool}{Q:q7->D1->Prop}(ha:Sq t s.heap a xs)(hb:Sq u s.heap b ys)(q:∀h',Oa h' (s.heap.objs.size+4) (s.heap.objs.size+2) (s.heap.objs.size+3) .none->Lh h' (s.heap.objs.size+2) (.ref s.heap.objs.size) (.ref (s.heap.objs.size+1))->
   Lh h' (s.heap.objs.size+3) .none .none->At t h' s.heap.objs.size a 0->At u h' (s.heap.objs.size+1) b 0->h'.objs.size=s.heap.objs.size+5->
   (∀c o,s.heap.get? c=E o->h'.get? c=E o)->Q (.ref (s.heap.objs.size+4)) {s with heap:=h'}):
 Ik (model prog w) A (call (.type "zip") [.ref a,.ref b]) Q fv s:=by
 refine callType_new F.called_zip (by decide) (F.typeCall_zip_2 _ _) (F.newCall_zip_2 _ _) (λobj=>F.args_object_init_3 obj _ _) F.entry_zip_new (tI t u a b xs ys) ⟨ha,hb,?_⟩
 have B:(zH1 s.heap t a).objs.size=s.heap.objs.size+1:=JU ..;have J:(zH2 s.heap t u a b).objs.size=s.heap.objs.size+2:=by unfold zH2;rw[JU,B]
 have L:(zH3 s.heap t u a b).objs.size=s.heap.objs.size+3:=by unfold zH3;rw[JU,J]
 have O:(zH4 s.heap t u a b).objs.size=s.heap.objs.size+4:=by unfold zH4;rw[JU,L]
 have z5:(zH5 s.heap t u a b).objs.size=s.heap.objs.size+5:=by unfold zH5;rw[JU,O]
 have j:∀{c o},(zH4 s.heap t u a b).get? c=E o->(zH5 s.heap t u a b).get? c=E o:=λe=>tv _ e;have z:∀{c o},(zH3 s.heap t u a b).get? c=E o->(zH4 s.heap t u a b).get? c=E o:=λe=>tv _ e;have U:∀{c o},(zH2 s.heap t u a b).get? c=E o->(zH3 s.heap t u a b).get? c=E o:=λe=>tv _ e;have F2:∀{c o},(zH1 s.heap t a).get? c=E o->(zH2 s.heap t u a b).get? c=E o:=λe=>tv _ e;have k1:∀{c o},s.heap.get? c=E o->(zH1 s.heap t a).get? c=E o:=λe=>tv _ e;have f:∀t l,(itO t l).isFreed=R9:=λt l=>by cases t<;>rfl
 have Y:(zH5 s.heap t u a b).get? (zH4 s.heap t u a b).objs.size=E _:=I9 _ rfl;have g4:(zH5 s.heap t u a b).get? (zH3 s.heap t u a b).objs.size=E _:=j (I9 _ rfl);have g3:(zH5 s.heap t u a b).get? (zH2 s.heap t u a b).objs.size=E _:=j (z (I9 _ rfl));have g2:(zH5 s.heap t u a b).get? (zH1 s.heap t a).objs.size=E _:=j (z (U (I9 _ (f u b))));have g1:(zH5 s.heap t u a b).get? s.heap.objs.size=E _:=j (z (U (F2 (I9 _ (f t a)))));show _/\_;rw[J,L,O]at Y;rw[B,J]at g3;rw[L]at g4;rw[B]at g2;rw[O];exact⟨⟨_,Y,rfl⟩,q _ Y g3 g4 (at_new g1) (at_new g2) z5 λc o x=>j (z (U (F2 (k1 x))))⟩
end
end Zp
variable{K:Frag}{elts:List Expr}
section
section
variable{X:Cx}{pins:List (SS×Obj)}{σ:St}{H:Hp}{s:D1}{h':Heap}
theorem Inv.turnedL{fp:List SS}(I:Inv X pins σ H s)(hf:∀b∈fp,cr X pins H b)(k:∀b o,b∉fp->s.heap.get? b=E o->h'.get? b=E o):Inv X pins σ H {s with heap:=h',toks:=t'}:=by
 have nit:∀b u,H b=E u->b∉fp:=λb u e z=>by rw[(hf b z).1]at e;cases e
 refine I.step (g':=s.gens) (d':=s.drawn) (ch:=fp) (λb B=>?_) (λb o _ _ j e _=>k b o j e) (λb o _ _ j e _=>⟨o.slots,k b o j e⟩) (λ_ _ _ _ n=>n)
  (λb o j e=>⟨o,k b o j e⟩) (λ_ _ e=>e) (λ_ _ _ e=>e) (λb ps e=>⟨#[],by rw[e];simp⟩) (λm hm=>?_) (λb u e=>?_) I.bare
 ·obtain⟨_,f1,_,F,f4,J⟩:=hf b B;exact⟨F,f1,f4,J⟩
 ·obtain⟨o,es,ep,ho,r⟩:=hm;exact⟨o,es,ep,k _ o (λz=>(hf _ z).2.1 rfl) ho,r⟩
 ·refine(I.hok b u e).stay (λc v j q=>k c v ?_ q) (λ_ q=>q) λ_ _ q=>q
  rcases j with z|z
  ·rw[z];exact nit b u e
  ·exact nit c _ z
end
def SqV(K:Frag)(t:Bool)(H:Hp)(a:SS)(xs:List V):Prop:=match t with|true=>SqT K H a xs|false=>SqL K H a xs
theorem Inv.sqv{t:Bool}{xs:List V}(I:Inv X pins σ H s)(h:SqV X.K t H a xs):∃its:List q7,Vals xs its/\Zp.Sq t s.heap a its.toArray:=by
 cases t with
 |true=>obtain⟨its,r,p,_⟩:=I.tuple h;exact⟨its,r,p⟩
 |false=>obtain⟨its,r,p,_⟩:=I.list h;exact⟨its,r,p.isList⟩
theorem Inv.sqv_inj{t:Bool}{xs ys:List V}(I:Inv X pins σ H s)(h:SqV X.K t H a xs)(h':SqV X.K t H a ys):xs=ys:=by
 cases t with
 |true=>exact I.tuple_inj h h'
 |false=>exact I.list_inj h h'
noncomputable def Itz(K:Frag)(t u:Bool)(a b:SS):It:=
 ⟨λi H=>∃xs ys x y,SqV K t H a xs/\SqV K u H b ys/\xs[i]?=E x/\ys[i]?=E y,
  λi H v H'=>∃p x y,H p=Z/\v=.ref p/\H'=upd H p (.tup [x,y])/\∀xs ys,SqV K t H a xs->SqV K u H b ys->xs[i]?=E x/\ys[i]?=E y,
  λi H=>∃xs ys,SqV K t H a xs/\SqV K u H b ys/\(xs.length<=i∨ys.length<=i)⟩
theorem wj{cx}{t u:Bool}{z T O i j:SS}(D:Ph z T O i j a b):
 fO P w K (.Tuple elts cx pos) (Itz K t u a b) [z,T,O,i,j] z (λk h=>Oa h z T O .none/\Lh h T (.ref i) (.ref j)/\(∃p r,Lh h O p r)/\Zp.At t h i a k/\Zp.At u h j b k) where
 mem:=by simp
 obj:=λk h ⟨F,J,⟨p,r,L⟩,hi,U⟩ c B=>by
  simp only[Ij,Ja,or_false]at B
  rcases B with rfl|rfl|rfl|rfl|rfl
  ·exact⟨_,F,λv e=>by cases e⟩
  ·exact⟨_,J,λv e=>by cases e⟩
  ·exact⟨_,L,λv e=>by cases e⟩
  ·exact hi.lt
  ·exact U.lt
 keep:=λk h h' g9 kk=>(by obtain⟨F,J,⟨p,r,L⟩,hi,U⟩:=g9;exact⟨kk z (by simp) _ F,kk T (by simp) _ J,⟨p,r,kk O (by simp) _ L⟩,hi.up λo e=>kk i (by simp) o e,U.up λo e=>kk j (by simp) o e⟩)
 item:=by
  intro X hP hw hK B k pins s σ H fv I hf st hg;subst hP hw hK;obtain⟨F,J,⟨p,r,L⟩,hi,U⟩:=st;obtain⟨xs,ys,x,y,qx,qy,ex,ey⟩:=hg;obtain⟨is,rx,px⟩:=I.sqv qx;obtain⟨js,ry,py⟩:=I.sqv qy;obtain⟨ux,Gp,rux⟩:=rx.get ex;obtain⟨uy,Gq,ruy⟩:=ry.get ey;refine Zp.nxt_item D F J L hi U px py (by simpa using Gp) (by simpa using Gq) λh1 z1 o1 i1 j1 p1 F2=>⟨_,rfl,?_⟩
  refine wpAny_letOwnedTupleGo_zip (s:={s with heap:=h1}) z1 λh2 z2 s2=>?_
  have lt:∀{c o},s.heap.get? c=E o->c≠s.heap.objs.size:=λe=>IU (Ig e);have nz:s.heap.objs.size≠z:=(lt F).symm;have Gr:∃o,s.heap.get? i=E o:=hi.lt.imp λ_ h=>h.1;have Gs:∃o,s.heap.get? j=E o:=U.lt.imp λ_ h=>h.1;have up:∀c o,c≠z->h1.get? c=E o->h2.get? c=E o:=λc o n e=>s2.extBut _ _ n e;have IL:Inv X pins σ (upd H s.heap.objs.size (.tup [x,y])) {s with heap:=s.heap.push {cls:=.type "tuple",data:=.seq #[ux,uy]},toks:=s.toks}:=I.laid (λb o e=>tv _ e) (HW _) ⟨by rw[z4];simp,[ux,uy],.cons rux (.cons ruy .nil),NH _ _⟩
  have fr:∀c∈[z,T,O,i,j],c≠s.heap.objs.size:=λc B=>by
   simp only[Ij,Ja,or_false]at B
   rcases B with rfl|rfl|rfl|rfl|rfl
   ·exact lt F
   ·exact lt J
   ·exact lt L
   ·obtain⟨o,e⟩:=Gr;exact lt e
   ·obtain⟨o,e⟩:=Gs;exact lt e
  have un:∀c∈[z,T,O,i,j],upd H s.heap.objs.size (.tup [x,y]) c=Z:=λc B=>by rw[aj (fr c B)];exact(hf c B).1
  have kk:∀c o,c∉[z,T,O,i,j]->(s.heap.push {cls:=.type "tuple",data:=.seq #[ux,uy]}).get? c=E o->h2.get? c=E o:=λc o B e=>by
   simp only[Ij,Ja,or_false,not_or]at B
   rcases Pp e with⟨rfl,rfl⟩|e
   ·exact up _ _ nz p1
   ·exact up _ _ B.1 (F2 c o B.1 B.2.2.1 B.2.2.2.1 B.2.2.2.2 e)
  have I2:Inv X pins σ (upd H s.heap.objs.size (.tup [x,y])) {s with heap:=h2,toks:=s.toks}:=(Inv.turnedL (s:={s with heap:=s.heap.push {cls:=.type "tuple",data:=.seq #[ux,uy]},toks:=s.toks}) (h':=h2) (t':=s.toks) (fp:=[z,T,O,i,j]) IL (λc B=>⟨un c B,(hf c B).2⟩) kk)
  refine⟨.ref s.heap.objs.size,_,I2,rfl,⟨_,x,y,I.hok.fresh (HW _),rfl,rfl,λxs' ys' q1 q2=>?_⟩,⟨z2,up _ _ D.TIz (F2 _ _ D.TIz D.TITO D.TIi1 D.TIi2 J),⟨_,_,up _ _ D.TOz o1⟩,i1.up λo e=>up _ o D.i1z e,j1.up λo e=>up _ o D.i2z e⟩,un⟩;rw[I.sqv_inj q1 qx,I.sqv_inj q2 qy];exact⟨ex,ey⟩
 done:=by
  intro X hP hw hK B k pins s σ H fv I hf st hg;subst hP hw hK;obtain⟨F,J,⟨p,r,L⟩,hi,U⟩:=st;obtain⟨xs,ys,qx,qy,Y⟩:=hg;obtain⟨is,rx,px⟩:=I.sqv qx;obtain⟨js,ry,py⟩:=I.sqv qy;have lx:=rx.length;have ly:=ry.length;refine Zp.nxt_end (I.ok.hd B) D F J L hi U px py (Y.imp (λe=>by simp;lia) (λe=>by simp;lia)) λh1 F2=>⟨rfl,I.turnedL (t':=s.toks) hf λc o B e=>?_⟩
  simp only[Ij,Ja,or_false,not_or]at B;exact F2 c o B.1 B.2.2.1 B.2.2.2.1 B.2.2.2.2 e
 self:=λA k s Q fv st h=>QV st.1 h
section
variable{X:Cx}
noncomputable def Ef(K:Frag)(ta:TA):TI:=λσ H R=>ta σ H λvs H1=>∃a b t u xs ys,vs=[.ref a,.ref b]/\SqV K t H1 a xs/\SqV K u H1 b ys/\R (Itz K t u a b) H1
theorem B7{cx}{p:Pos}{a b:Expr}{ta:TA}(J:Gl X "zip")(hm:X.mg "zip"=Z)(L:PA X [a,b] ta)(hs:IG [a,b] X.env=[(R9,eval a X.env),(R9,eval b X.env)])(j:IG [b] X.env=[(R9,eval b X.env)]):
 PI X (.Tuple elts cx pos) (.Call (.Name "zip" p) [a,b] [] pos') (Ef X.K ta):=by
 intro pins s σ H R I h;refine Call_ (cV I J hm (u:=.type "zip") (by decide +kernel) (Jl (thn (L pos' pins s σ H _ I h) λus s1 g9=>?_) (by rw[hs,j]) (by rw[j];rfl)));obtain⟨vs,H1,z,O,U⟩:=g9
 obtain⟨a',b',t,u,xs,ys,rfl,qx,qy,q⟩:=U
 cases O with
 |cons r rr=>
  cases rr with
  |cons r' rr=>
   cases rr
   cases r
   cases r'
   obtain⟨is,rx,px⟩:=z.sqv qx;obtain⟨js,ry,py⟩:=z.sqv qy;refine Zp.call_zip px py λh1 B t1 Y F2 j1 sz k1=>?_;refine QV B ?_;have la:a'<s1.heap.objs.size:=by cases t<;>(obtain⟨o,e,_⟩:=px;exact Ig e)
   have lb:b'<s1.heap.objs.size:=by cases u<;>(obtain⟨o,e,_⟩:=py;exact Ig e)
   have D:Ph (s1.heap.objs.size+4) (s1.heap.objs.size+2) (s1.heap.objs.size+3) s1.heap.objs.size (s1.heap.objs.size+1) a' b':=by constructor<;>(intro e;subst_vars;first|lia|(simp only[SS]at *;lia))
   refine⟨_,_,_,_,H1,rfl,z.kept (t':=s1.toks) k1,wj (t:=t) (u:=u) D,⟨B,t1,⟨_,_,Y⟩,F2,j1⟩,λc F=>?_,q⟩;have hle:s1.heap.objs.size<=c:=by
    simp only[Ij,Ja,or_false]at F
    rcases F with rfl|rfl|rfl|rfl|rfl<;>lia
   exact z.fpOk hle (z.hok.fresh hle)
end
end
namespace Zp
end Zp
namespace En
variable{z i a:SS}{oo:Int}{xs:Array q7}{old:q7}
section
variable{prog:Iy}{w:IY}{A:Ji}{fv:q7->D1->Prop}{s:D1}
open Builtin.SmallTypes Zp in
theorem B8 {t:Bool}{k:Nat}{x:q7}{Q:q7->D1->Prop}(Y:OO s.heap z i ((k:Int)+oo) old)(hi:At t s.heap i a k)(ha:Sq t s.heap a xs)(hx:xs[k]?=E x)(j:z≠i)(q:∀h',QW h' z i ((k:Int)+oo+1) x s.heap.objs.size->At t h' i a (k+1)->h'.get? s.heap.objs.size=E {cls:=.type "tuple",data:=.seq #[.int ((k:Int)+oo) s.toks,x]}->
   (∀b o,b≠z->b≠i->s.heap.get? b=E o->h'.get? b=E o)->Q (.ref s.heap.objs.size) {s with heap:=h',toks:=s.toks+1}):
 Ik (model prog w) A (KW.«enumerate.__next__» ⟨[.ref z],[]⟩) (λfin s'=>∃v,fin=.done (.ret v)/\Q v s') fv s:=by
 obtain⟨B,g,d,tk,os⟩:=s;refine gV (m:=field (.ref z) 2) (Je Y rfl (x:=.ref i) rfl (gV (nx_item hi ha hx λg1 i1 s1=>?_)));have S1:JV i B g1:=s1;clear s1;have F2:OO g1 z i ((k:Int)+oo) old:=(S1.2 z j).trans Y;refine gV (m:=field (.ref z) 3) (Je (s:=⟨g1,g,d,tk,os⟩) F2 rfl (x:=Nk ((k:Int)+oo)) rfl ?_);refine gV (m:=field (.ref z) 4) (Je (s:=⟨g1,g,d,tk,os⟩) F2 rfl (x:=.none) rfl ?_);refine gV (m:=mkInt ((k:Int)+oo)) (wpAny_mkInt ?_);refine gV (m:=setField (.ref z) 3 (Nk ((k:Int)+oo+1))) (J3 (s:=⟨g1,g,d,tk+1,os⟩) F2 (by simp) λg2 z2 s2=>?_)
 have S2:JV z g1 g2:=s2;have Z2:OO g2 z i ((k:Int)+oo+1) old:=z2;clear s2 z2;refine gV (m:=setField (.ref z) 4 .none) (J3 (s:=⟨g2,g,d,tk+1,os⟩) Z2 (by simp) λg3 z3 s3=>?_)
 have S3:JV z g2 g3:=s3;have Z3:OO g3 z i ((k:Int)+oo+1) old:=z3;clear s3 z3;refine gV (m:=newTuple [.int ((k:Int)+oo) tk,x]) (Pm ?_);have J:OO (g3.push {cls:=.type "tuple",data:=.seq #[.int ((k:Int)+oo) tk,x]}) z i ((k:Int)+oo+1) old:=tv _ Z3;have sz:g3.objs.size=B.objs.size:=by rw[S3.1,S2.1,S1.1]
 have zl:z<B.objs.size:=Ig Y;have T4:(g3.push {cls:=.type "tuple",data:=.seq #[.int ((k:Int)+oo) tk,x]}).get? B.objs.size=E {cls:=.type "tuple",data:=.seq #[.int ((k:Int)+oo) tk,x]}:=by rw[<-sz];exact I9 _ rfl
 have K4:∀b o,b≠z->b≠i->B.get? b=E o->(g3.push {cls:=.type "tuple",data:=.seq #[.int ((k:Int)+oo) tk,x]}).get? b=E o:=λb o bz bi e=>tv _ (S3.extBut b o bz (S2.extBut b o bz (S1.extBut b o bi e)))
 have I4:At t (g3.push {cls:=.type "tuple",data:=.seq #[.int ((k:Int)+oo) tk,x]}) i a (k+1):=i1.up λo e=>tv _ (S3.extBut i o j.symm (S2.extBut i o j.symm e));rw[sz];generalize g3.push {cls:=.type "tuple",data:=.seq #[.int ((k:Int)+oo) tk,x]}=F at J T4 K4 I4;refine gV (m:=ownedTupleIsFree (.ref z)) ?_;unfold ownedTupleIsFree;refine gV (Je (s:=⟨F,g,d,tk+1,os⟩) J rfl (x:=.none) rfl (D2 ?_));simp only[if_true];refine gV (Kh (gV (Je (s:=⟨F,g,d,tk+1,os⟩) J rfl (x:=old) rfl (gV (J3 (s:=⟨F,g,d,tk+1,os⟩) J (by simp) λL z5 s5=>?_)))))
 have S5:JV z F L:=s5;have Z5:OO L z i ((k:Int)+oo+1) x:=z5;clear s5 z5;refine gV (m:=ownedTupleHandOut (.ref z) (.ref B.objs.size)) ?_;unfold ownedTupleHandOut;refine gV (J3 (s:=⟨L,g,d,tk+1,os⟩) Z5 (by simp) λO z6 s6=>?_)
 have S6:JV z L O:=s6;have Z6:QW O z i ((k:Int)+oo+1) x B.objs.size:=z6;clear s6 z6;refine J3 (s:=⟨O,g,d,tk+1,os⟩) Z6 (by simp) λU z7 s7=>?_
 have S7:JV z O U:=s7;have Z7:QW U z i ((k:Int)+oo+1) x B.objs.size:=z7;clear s7 z7;have up:∀b o,b≠z->F.get? b=E o->U.get? b=E o:=λb o bz e=>S7.extBut b o bz (S6.extBut b o bz (S5.extBut b o bz e));exact gV (Pk (D2 ⟨_,rfl,q U Z7 (I4.up λo e=>up i o j.symm e) (up _ _ (KH zl) T4) λb o bz bi e=>up b o bz (K4 b o bz bi e)⟩))
theorem nxt_item {t:Bool}{k:Nat}{x:q7}{Q:Option q7->D1->Prop}(B:OO s.heap z i ((k:Int)+oo) old)(hi:Zp.At t s.heap i a k)(J:Zp.Sq t s.heap a xs)(hx:xs[k]?=E x)(j:z≠i)(q:∀h',QW h' z i ((k:Int)+oo+1) x s.heap.objs.size->Zp.At t h' i a (k+1)->h'.get? s.heap.objs.size=E {cls:=.type "tuple",data:=.seq #[.int ((k:Int)+oo) s.toks,x]}->
   (∀b o,b≠z->b≠i->s.heap.get? b=E o->h'.get? b=E o)->Q (E (.ref s.heap.objs.size)) {s with heap:=h',toks:=s.toks+1}):
 Ik (model prog w) A (Mu (.ref z)) Q fv s:=by
 have ty:s.TypeIs (.ref z) "enumerate":=⟨_,B,rfl⟩;unfold Mu;exact gV (Li (J0 (name:=IF "__next__") ty LM (Jj LM ty OP
  (B8 B hi J hx j λh' a1 a2 L O=>D2 (q h' a1 a2 L O)) (Ow _))))
theorem nxt_end{t:Bool}{k:Nat}{Q:Option q7->D1->Prop}(B:A.handled=Z)(j:OO s.heap z i ((k:Int)+oo) old)(hi:Zp.At t s.heap i a k)(J:Zp.Sq t s.heap a xs)(hx:xs[k]?=Z)(q:∀h',Rk i s.heap h'->Q Z {s with heap:=h'}):Ik (model prog w) A (Mu (.ref z)) Q fv s:=by have ty:s.TypeIs (.ref z) "enumerate":=⟨_,j,rfl⟩;unfold Mu;refine gV (Li (J0 (name:=IF "__next__") ty LM (Jj LM ty OP ?_ (Ow _))));refine gV (m:=field (.ref z) 2) (Je j rfl (x:=.ref i) rfl (gV (Zp.nx_end B hi J hx λh' x he hs=>?_)));obtain⟨o,ho,L⟩:=hs;exact gV (Lm (T:="StopIteration") (b:=N2) ⟨o,ho,L⟩ Pn (D2 (q _ he)))
open AutoSeq1 (wpAny_loadPart') in
theorem yV(l:SS)(items:Array q7)(n:Nat)(dct:Option SS)(sl:Array (Option q7)):
 Meets (KW.«enumerate.__new__» ⟨[.type "enumerate",.ref l],[]⟩) (λ_ R s=>s.heap.get? l=E {cls:=.type "tuple",dict:=dct,data:=.seq items n,slots:=sl} /\
  R (.ok (.ret (.ref (s.heap.push (Zp.itO N2 l)).objs.size))) {s with heap:=(s.heap.push (Zp.itO N2 l)).push {cls:=.type "enumerate",data:=.fields #[.none,.bool R9,.ref s.heap.objs.size,Nk 0,.none,.none]}}):=
 .of_wp λprog w A R s h=>by
  obtain⟨F,g,d,tk,os⟩:=s;obtain⟨j,h⟩:=h;have z:=sub_enumerate;have B:Nz (Lq ⟨F,g,d,tk,os⟩) l items:=⟨_,j,rfl,n,rfl⟩
  wp_walk using LG j
  refine wpAny_stack_any λst=>D2 ?_
  split
  ·rename_i c _ _ _ _ _
   cases(c==JF "enumerate")<;>(wp_walk using LG j,JX B;exact⟨_,rfl,h⟩)
  ·wp_walk using LG j,JX B
   exact⟨_,rfl,h⟩
theorem call_enum{t:Bool}{l:SS}{items:Array q7}{Q:q7->D1->Prop}(B:Zp.Sq t s.heap l items)(q:∀h',OO h' (s.heap.objs.size+1) s.heap.objs.size 0 .none->Zp.At t h' s.heap.objs.size l 0->(∀b o,s.heap.get? b=E o->h'.get? b=E o)->Q (.ref (s.heap.objs.size+1)) {s with heap:=h'}):
 Ik (model prog w) A (call (.type "enumerate") [.ref l]) Q fv s:=by
 cases t with
 |false=>exact call_enumerate_list B λh' a b _ k=>q h' a b k
 |true=>
  obtain⟨⟨c,dct,dt,sl⟩,L,O,n,hd⟩:=B;have j:c=.type "tuple":=O;have z:dt=.seq items n:=hd;subst j z;refine callType_new F.called_enumerate (by decide) (F.typeCall_enumerate_1 _) (F.newCall_enumerate_1 _) (λobj=>F.args_object_init_2 obj _) F.entry_enumerate_new (yV l items n dct sl) ⟨L,?_⟩
  have J:(s.heap.push (Zp.itO N2 l)).objs.size=s.heap.objs.size+1:=JU ..;have e:((s.heap.push (Zp.itO N2 l)).push {cls:=.type "enumerate",data:=.fields #[.none,.bool R9,.ref s.heap.objs.size,Nk 0,.none,.none]}).get? (s.heap.push (Zp.itO N2 l)).objs.size=E _:=I9 _ rfl;rw[J]at e;show _/\_;rw[J];exact⟨⟨_,e,rfl⟩,q _ e (Zp.at_new (tv _ (I9 _ rfl))) λb o x=>tv _ (tv _ x)⟩
end
end En
noncomputable def Ite(K:Frag)(t:Bool)(a:SS)(oo:Int:=0):It:=
 ⟨λi H=>∃xs x,SqV K t H a xs/\xs[i]?=E x,
  λi H v H'=>∃p x,H p=Z/\v=.ref p/\H'=upd H p (.tup [.int ((i:Nat)+oo),x])/\∀xs,SqV K t H a xs->xs[i]?=E x,
  λi H=>∃xs,SqV K t H a xs/\xs.length<=i⟩
theorem tJ{cx}{t:Bool}{z i:SS}{oo:Int}(F:z≠i):
 fO P w K (.Tuple elts cx pos) (Ite K t a oo) [z,i] z (λk h=>(∃old,OO h z i ((k:Int)+oo) old)/\Zp.At t h i a k) where
 mem:=by simp
 obj:=λk h ⟨⟨old,B⟩,hi⟩ c j=>by
  simp only[Ij,Ja,or_false]at j
  rcases j with rfl|rfl
  ·exact⟨_,B,λv e=>by cases e⟩
  ·exact hi.lt
 keep:=λk h h' J kk=>(by obtain⟨⟨old,B⟩,hi⟩:=J;exact⟨⟨old,kk z (by simp) _ B⟩,hi.up λo e=>kk i (by simp) o e⟩)
 item:=by
  intro X L hw O j k pins s σ H fv I hf st hg;subst L hw O;obtain⟨⟨old,B⟩,hi⟩:=st;obtain⟨xs,x,qx,ex⟩:=hg;obtain⟨is,rx,px⟩:=I.sqv qx;obtain⟨ux,U,rux⟩:=rx.get ex;refine En.nxt_item B hi px (by simpa using U) F λh1 z1 i1 p1 Y=>⟨_,rfl,?_⟩
  refine wpAny_letOwnedTupleGo_enum (s:={s with heap:=h1,toks:=s.toks+1}) z1 λh2 z2 s2=>?_
  have lt:∀{c o},s.heap.get? c=E o->c≠s.heap.objs.size:=λe=>IU (Ig e);have nz:s.heap.objs.size≠z:=(lt B).symm;have F2:∃o,s.heap.get? i=E o:=hi.lt.imp λ_ h=>h.1;have up:∀c o,c≠z->h1.get? c=E o->h2.get? c=E o:=λc o n e=>s2.extBut _ _ n e;have IL:Inv X pins σ (upd H s.heap.objs.size (.tup [.int ((k:Nat)+oo),x])) {s with heap:=s.heap.push {cls:=.type "tuple",data:=.seq #[.int ((k:Int)+oo) s.toks,ux]},toks:=s.toks+1}:=I.laid (λb o e=>tv _ e) (HW _) ⟨by rw[z4];simp,[.int ((k:Int)+oo) s.toks,ux],.cons ⟨_,rfl⟩ (.cons rux .nil),NH _ _⟩
  have fr:∀c∈[z,i],c≠s.heap.objs.size:=λc j=>by
   simp only[Ij,Ja,or_false]at j
   rcases j with rfl|rfl
   ·exact lt B
   ·obtain⟨o,e⟩:=F2;exact lt e
  have un:∀c∈[z,i],upd H s.heap.objs.size (.tup [.int ((k:Nat)+oo),x]) c=Z:=λc j=>by rw[aj (fr c j)];exact(hf c j).1
  have kk:∀c o,c∉[z,i]->(s.heap.push {cls:=.type "tuple",data:=.seq #[.int ((k:Int)+oo) s.toks,ux]}).get? c=E o->h2.get? c=E o:=λc o j e=>by
   simp only[Ij,Ja,or_false,not_or]at j
   rcases Pp e with⟨rfl,rfl⟩|e
   ·exact up _ _ nz p1
   ·exact up _ _ j.1 (Y c o j.1 j.2 e)
  have I2:Inv X pins σ (upd H s.heap.objs.size (.tup [.int ((k:Nat)+oo),x])) {s with heap:=h2,toks:=s.toks+1}:=Inv.turnedL (s:={s with heap:=s.heap.push {cls:=.type "tuple",data:=.seq #[.int ((k:Int)+oo) s.toks,ux]},toks:=s.toks+1}) (h':=h2) (t':=s.toks+1) (fp:=[z,i]) IL (λc j=>⟨un c j,(hf c j).2⟩) kk
  refine⟨.ref s.heap.objs.size,_,I2,rfl,⟨_,x,I.hok.fresh (HW _),rfl,rfl,λxs' q1=>?_⟩,⟨⟨ux,by have e9:(((k+1:Nat):Int)+oo)=(k:Int)+oo+1:=∅;rw[e9];exact z2⟩,i1.up λo e=>up _ o F.symm e⟩,un⟩
  rw[I.sqv_inj q1 qx];exact ex
 done:=by
  intro X L hw O j k pins s σ H fv I hf st hg;subst L hw O;obtain⟨⟨old,B⟩,hi⟩:=st;obtain⟨xs,qx,Gp⟩:=hg;obtain⟨is,rx,px⟩:=I.sqv qx;have lx:=rx.length;refine En.nxt_end (I.ok.hd j) B hi px (by simp;lia) λh1 Y=>⟨rfl,I.turnedL (t':=s.toks) hf λc o j e=>?_⟩
  simp only[Ij,Ja,or_false,not_or]at j;exact Y c o j.2 e
 self:=λA k s Q fv J h=>(by obtain⟨⟨old,B⟩,_⟩:=J;exact QC B h)
section
variable{X:Cx}
noncomputable def CT(K:Frag)(ta:TA):TI:=λσ H R=>ta σ H λvs H1=>∃a t xs,vs=[.ref a]/\SqV K t H1 a xs/\R (Ite K t a) H1
theorem yW{cx}{p:Pos}{a:Expr}{ta:TA}(F:Gl X "enumerate")(hm:X.mg "enumerate"=Z)(J:PA X [a] ta)(hs:IG [a] X.env=[(R9,eval a X.env)]):
 PI X (.Tuple elts cx pos) (.Call (.Name "enumerate" p) [a] [] pos') (CT X.K ta):=by
 intro pins s σ H R I h;refine Call_ (cV I F hm (u:=.type "enumerate") boot_enumerate (Jl (thn (J pos' pins s σ H _ I h) λus s1 g9=>?_) hs rfl));obtain⟨vs,H1,j,L,O⟩:=g9;obtain⟨a',t,xs,rfl,qx,q⟩:=O
 cases L with
 |cons r rr=>
  cases rr
  cases r
  obtain⟨is,rx,px⟩:=j.sqv qx;refine En.call_enum px λh1 z U Y=>?_;refine QC z ?_;refine⟨_,_,_,_,H1,rfl,j.kept (t':=s1.toks) Y,tJ (t:=t) (a:=a') (oo:=0) (by simp),⟨⟨_,z⟩,U⟩,λc B=>?_,q⟩
  have hle:s1.heap.objs.size<=c:=by
   simp only[Ij,Ja,or_false]at B
   rcases B with rfl|rfl<;>lia
  exact j.fpOk hle (j.hok.fresh hle)
end
namespace Rv
end Rv
section
noncomputable abbrev NK:=List (Int ⊕ List Int)
noncomputable def CU(ks:List Int):Int:=reduceHash (NU (ks.map hashInt))
noncomputable def CV:Int ⊕ List Int->Int
 |.inl i=>hashInt i
 |.inr ks=>CU ks
noncomputable def CW(ks:NK):Int:=reduceHash (NU (ks.map CV))
noncomputable def yc(a:SS)(xs:List (NK×SS×q7)):Heap->Prop:=λh=>xs.length<=HZ/\(a==JW)=R9 /\
 ∃o es ep,h.get? a=E o/\o.ExactDict/\o.data=.dict es ep/\es.toList=xs.map (λx=>(⟨CW x.1,.ref x.2.1,x.2.2⟩:Kw))/\(xs.map (·.1)).Nodup
noncomputable def Kt1(H:Hp):Int ⊕ List Int->V->Prop
 |.inl i,v=>v=.int i
 |.inr ks,v=>∃b,v=.ref b/\H b=E (.tup (ks.map V.int))
def Kt(H:Hp)(k:NK)(b:SS):Prop:=∃vs,H b=E (.tup vs)/\IZ (Kt1 H) k vs
theorem Kt.keeps{k:NK}(x:Kt H k b)(j:∀b ys,H b=E (.tup ys)->H' b=E (.tup ys)):Kt H' k b:=by
 obtain⟨vs,e,p⟩:=x;refine⟨vs,j _ _ e,Sr p λq v z=>?_⟩
 cases q with
 |inl i=>exact z
 |inr ks=>obtain⟨c,e,q⟩:=z;exact⟨c,e,j _ _ q⟩
end
namespace Mi
variable{a:SS}{K:Frag}{H H':Hp}{xs vs:List V}{i:Nat}{v:V}{x:Str}{σ:St}{ho:HO}{X:Cx}{e:Expr}
section
inductive D where
 |non|bl (b:Bool)|int (i:Int)|str (x:Str)|tup (ds:List D)|con (ds:List D)|ref (a:SS)|fn (x:Str)
inductive O where
 |lst (ds:List D)
 |dct (t:Bool) (kvs:List (D×D))
 |fdc (kvs:List (D×D))
 |dcn (kvs:List (NK×D))
 |fdn (kvs:List (NK×D))
 |tab (pos:Pos) (q:Str)
noncomputable abbrev Mem:=SS->Option O
noncomputable def fz:Option O->Bool
 |some (.lst _)=>R9
 |some (.dct _ _)=>R9
 |some (.dcn _)=>R9
 |some (.tab _ _)=>R9
 |_=>N2
noncomputable abbrev am:=List (Option D)
noncomputable def ad(M:Mem)(a:SS)(o:O):Mem:=λb=>if b=a then E o else M b
theorem aa{M:Mem}{o:O}:ad M a o a=E o:=by unfold ad;rw[if_pos rfl]
theorem ax{M:Mem}{b:SS}{o:O}(h:b≠a):ad M a o b=M b:=by unfold ad;rw[if_neg h]
def SqF(K:Frag)(H:Hp)(a:SS)(xs:List V):Prop:=
 (∃o,H a=E (.frz o (.lst xs))) ∨
  ∃(o:Obj) (its:Array q7) (n:Nat),K.lookup a=E o/\o.cls=.type "list"/\o.dict=Z/\o.data=.seq its n/\its.size<=HZ/\Vals xs its.toList
theorem SqF.sq(h:SqF K H a xs):SqL K H a xs:=by
 rcases h with⟨o,h⟩|h
 ·exact .inl (.inr ⟨o,h⟩)
 ·exact .inr h
noncomputable def fk2:Bool:=N2
noncomputable def fk3:Bool:=N2
noncomputable def fk:List D->Bool
 |[.int _,.int _,.int _]=>N2
 |[.tup _,_]=>N2
 |[.int _,_]=>fk2
 |[]=>R9
 |_=>fk3
def TupR(K:Frag)(H:Hp)(ds:List D)(a:SS)(vs:List V):Prop:=H a=E (.tup vs)∨(fk ds=R9/\SqT K H a vs)
theorem TupR.sq{ds:List D}(h:TupR K H ds a vs):SqT K H a vs:=h.elim SqT.of (·.2)
mutual
noncomputable def RD(K:Frag)(H:Hp):D->V->Prop
 |.non,v=>v=.non
 |.bl b,v=>v=.bl b
 |.int i,v=>v=.int i
 |.str x,v=>v=.str x
 |.tup ds,v=>∃a vs,v=.ref a/\TupR K H ds a vs/\RDs K H ds vs
 |.con ds,v=>∃a vs,v=.ref a/\SqF K H a vs/\RDs K H ds vs
 |.ref a,v=>v=.ref a
 |.fn x,v=>∃f,v=.ref f/\MA K Jv x=E (E (.ref f))
noncomputable def RDs(K:Frag)(H:Hp):List D->List V->Prop
 |[],vs=>vs=[]
 |d::ds,vs=>∃v r,vs=v::r/\RD K H d v/\RDs K H ds r
end
structure Stab(H H':Hp):Prop where
 tup:∀a xs,H a=E (.tup xs)->H' a=E (.tup xs)
 frz:∀a o u,H a=E (.frz o u)->H' a=E (.frz o u)
theorem Stab.sqT(st:Stab H H')(h:SqT K H a xs):SqT K H' a xs:=by
 rcases h with(h|⟨o,h⟩)|h
 ·exact .inl (.inl (st.tup _ _ h))
 ·exact .inl (.inr ⟨o,st.frz _ _ _ h⟩)
 ·exact .inr h
theorem Stab.sqF(st:Stab H H')(h:SqF K H a xs):SqF K H' a xs:=by
 rcases h with⟨o,h⟩|h
 ·exact .inl ⟨o,st.frz _ _ _ h⟩
 ·exact .inr h
mutual
theorem RD.mono{K:Frag}{H H':Hp}(st:Stab H H'):∀{d:D} {v:V},RD K H d v->RD K H' d v
 |.non,_,h=>h
 |.bl _,_,h=>h
 |.int _,_,h=>h
 |.str _,_,h=>h
 |.tup ds,v,h=>by unfold RD at h⊢;obtain⟨a,vs,e,q,r⟩:=h;exact⟨a,vs,e,q.imp (st.tup _ _) (λz=>⟨z.1,st.sqT z.2⟩),RDs.mono st r⟩
 |.con ds,v,h=>by unfold RD at h⊢;obtain⟨a,vs,e,q,r⟩:=h;exact⟨a,vs,e,st.sqF q,RDs.mono st r⟩
 |.ref _,_,h=>h
 |.fn _,_,h=>by unfold RD at h⊢;exact h
theorem RDs.mono{K:Frag}{H H':Hp}(st:Stab H H'):∀{ds:List D} {vs:List V},RDs K H ds vs->RDs K H' ds vs
 |[],_,h=>h
 |d::ds,vs,h=>by unfold RDs at h⊢;obtain⟨v,r,e,h1,h2⟩:=h;exact⟨v,r,e,RD.mono st h1,RDs.mono st h2⟩
end
section
variable{K:Frag}{H H':Hp}
theorem Sl{i:Int}:RD K H (.int i) v↔v=.int i:=by unfold RD;exact OQ
theorem So{b:Bool}:RD K H (.bl b) v↔v=.bl b:=by unfold RD;exact OQ
theorem SA:RD K H .non v↔v=.non:=by unfold RD;exact OQ
theorem Sy:RD K H (.str x) v↔v=.str x:=by unfold RD;exact OQ
theorem Sm:RD K H (.ref a) v↔v=.ref a:=by unfold RD;exact OQ
theorem SD{ds:List D}:RD K H (.tup ds) v↔∃a vs,v=.ref a/\TupR K H ds a vs/\RDs K H ds vs:=by rw[RD]
theorem SF{ds:List D}(h:∃a vs,v=.ref a/\H a=E (.tup vs)/\RDs K H ds vs):RD K H (.tup ds) v:=SD.mpr (let⟨a,vs,e,h,r⟩:=h; ⟨a,vs,e,.inl h,r⟩)
theorem Sv{ds:List D}(h:RD K H (.tup ds) v):∃a vs,v=.ref a/\SqT K H a vs/\RDs K H ds vs:=let⟨a,vs,e,h,r⟩:=SD.mp h; ⟨a,vs,e,h.sq,r⟩
theorem SJ{ds:List D}(f:fk ds=N2)(h:RD K H (.tup ds) v):∃a vs,v=.ref a/\H a=E (.tup vs)/\RDs K H ds vs:=let⟨a,vs,e,h,r⟩:=SD.mp h; ⟨a,vs,e,h.elim id λz=>(by rw[f]at z;cases z.1),r⟩
theorem Su{ds:List D}:RD K H (.con ds) v↔∃a vs,v=.ref a/\SqF K H a vs/\RDs K H ds vs:=by rw[RD]
theorem RDs.nil_iff:RDs K H [] vs↔vs=[]:=by rw[RDs]
theorem Sn{d:D}{ds:List D}:RDs K H (d::ds) vs↔∃v r,vs=v::r/\RD K H d v/\RDs K H ds r:=by rw[RDs]
theorem RDs.nil:RDs K H [] []:=RDs.nil_iff.mpr rfl
theorem RDs.cons{d:D}{ds:List D}{v:V}{vs:List V}(h:RD K H d v)(r:RDs K H ds vs):RDs K H (d::ds) (v::vs):=Sn.mpr ⟨v,vs,rfl,h,r⟩
theorem RDs.length:∀{ds:List D} {vs:List V},RDs K H ds vs->vs.length=ds.length
 |[],_,h=>by rw[RDs.nil_iff.mp h];rfl
 |d::ds,_,h=>by obtain⟨v,r,rfl,_,h2⟩:=Sn.mp h;simp[RDs.length h2]
theorem RDs.get:∀{ds:List D} {vs:List V} {i:Nat} {d:D},RDs K H ds vs->ds[i]?=E d->∃v,vs[i]?=E v/\RD K H d v
 |[],_,_,_,_,e=>by simp at e
 |d::ds,_,0,d',h,e=>by obtain⟨v,r,rfl,h1,h2⟩:=Sn.mp h;simp at e;subst e;exact⟨v,rfl,h1⟩
 |d::ds,_,i+1,d',h,e=>by
  obtain⟨v,r,rfl,h1,h2⟩:=Sn.mp h;obtain⟨u,j,z⟩:=RDs.get (i:=i) (d:=d') h2 (by simpa using e)
  exact⟨u,by simpa using j,z⟩
theorem RDs.getV{ds:List D}(h:RDs K H ds vs)(e:vs[i]?=E v):∃d,ds[i]?=E d/\RD K H d v:=by
 have B:=h.length;have hi:i<vs.length:=(HU.mp e).1;obtain⟨d,hd⟩:∃d,ds[i]?=E d:=⟨ds[i]'∅,r4 ∅⟩
 obtain⟨u,j,z⟩:=h.get hd;rw[e]at j;cases j;exact⟨d,hd,z⟩
theorem RDs.append:∀{ds es:List D} {vs us:List V},RDs K H ds vs->RDs K H es us->RDs K H (ds++es) (vs++us)
 |[],_,_,_,h,q=>by rw[RDs.nil_iff.mp h];exact q
 |d::ds,_,_,_,h,q=>by obtain⟨v,r,rfl,h1,h2⟩:=Sn.mp h;exact RDs.cons h1 (RDs.append h2 q)
theorem RDs.take:∀{ds:List D} {vs:List V} (n:Nat),RDs K H ds vs->RDs K H (ds.take n) (vs.take n)
 |[],_,n,h=>by rw[RDs.nil_iff.mp h];simp;exact RDs.nil
 |_::_,_,0,h=>by simp;exact RDs.nil
 |d::ds,_,n+1,h=>by obtain⟨v,r,rfl,h1,h2⟩:=Sn.mp h;exact RDs.cons h1 (RDs.take n h2)
theorem RDs.drop:∀{ds:List D} {vs:List V} (n:Nat),RDs K H ds vs->RDs K H (ds.drop n) (vs.drop n)
 |[],_,n,h=>by rw[RDs.nil_iff.mp h];simp;exact RDs.nil
 |d::ds,_,0,h=>h
 |d::ds,_,n+1,h=>by obtain⟨v,r,rfl,h1,h2⟩:=Sn.mp h;exact RDs.drop n h2
theorem RDs.set:∀{ds:List D} {vs:List V} (n:Nat) {d:D} {v:V},RD K H d v->RDs K H ds vs->RDs K H (ds.set n d) (vs.set n v)
 |[],_,n,_,_,_,h=>by rw[RDs.nil_iff.mp h];exact RDs.nil
 |d::ds,_,0,_,_,q,h=>by obtain⟨v,r,rfl,h1,h2⟩:=Sn.mp h;exact RDs.cons q h2
 |d::ds,_,n+1,_,_,q,h=>by obtain⟨v,r,rfl,h1,h2⟩:=Sn.mp h;exact RDs.cons h1 (RDs.set n q h2)
theorem RDs.reverse{ds:List D}(h:RDs K H ds vs):RDs K H ds.reverse vs.reverse:=by
 induction ds generalizing vs with
 |nil=>rw[RDs.nil_iff.mp h];exact RDs.nil
 |cons d ds ih=>obtain⟨v,r,rfl,h1,h2⟩:=Sn.mp h;rw[LO,LO];exact(ih h2).append (RDs.cons h1 RDs.nil)
theorem RDs.rep{ds:List D}(h:RDs K H ds vs):∀k:Nat,RDs K H (HN k ds).flatten (HN k vs).flatten
 |0=>RDs.nil
 |k+1=>by rw[Jx,Jx,K0,K0];exact h.append (h.rep k)
theorem RDs.ints:∀(ns:List Int),RDs K H (ns.map D.int) (ns.map V.int)
 |[]=>RDs.nil
 |n::ns=>RDs.cons (Sl.mpr rfl) (RDs.ints ns)
end
mutual
noncomputable def D.eqb:D->D->Bool
 |.non,.non=>N2
 |.bl a,.bl b=>a==b
 |.int a,.int b=>decide (a=b)
 |.str a,.str b=>decide (a=b)
 |.tup a,.tup b=>D.eqbs a b
 |.con a,.con b=>D.eqbs a b
 |.ref a,.ref b=>decide (a=b)
 |.fn a,.fn b=>decide (a=b)
 |_,_=>R9
noncomputable def D.eqbs:List D->List D->Bool
 |[],[]=>N2
 |a::r,b::s=>D.eqb a b&&D.eqbs r s
 |_,_=>R9
end
mutual
theorem SN:∀(a b:D),D.eqb a b=N2->a=b
 |.non,b,h=>by cases b<;>first|rfl|cases h
 |.bl a,b,h=>by cases b<;>first|exact congrArg D.bl (eq_of_beq h)|cases h
 |.int a,b,h=>by cases b<;>first|exact congrArg D.int (of_decide_eq_true h)|cases h
 |.str a,b,h=>by cases b<;>first|exact congrArg D.str (of_decide_eq_true h)|cases h
 |.tup a,b,h=>by cases b<;>first|exact congrArg D.tup (SI a _ h)|cases h
 |.con a,b,h=>by cases b<;>first|exact congrArg D.con (SI a _ h)|cases h
 |.ref a,b,h=>by cases b<;>first|exact congrArg D.ref (of_decide_eq_true h)|cases h
 |.fn a,b,h=>by cases b<;>first|exact congrArg D.fn (of_decide_eq_true h)|cases h
theorem SI:∀(a b:List D),D.eqbs a b=N2->a=b
 |[],b,h=>by cases b<;>first|rfl|cases h
 |a::r,b,h=>by
  cases b with
  |nil=>cases h
  |cons b s=>have h:=(D0 _ _).mp h;rw[SN a b h.1,SI r s h.2]
end
mutual
theorem SM:∀(a:D),D.eqb a a=N2
 |.non=>rfl
 |.bl a=>beq_self_eq_true a
 |.int _=>decide_eq_true rfl
 |.str _=>decide_eq_true rfl
 |.tup a=>SG a
 |.con a=>SG a
 |.ref _=>decide_eq_true rfl
 |.fn _=>decide_eq_true rfl
theorem SG:∀(a:List D),D.eqbs a a=N2
 |[]=>rfl
 |a::r=>(D0 _ _).mpr ⟨SM a,SG r⟩
end
noncomputable instance:DecidableEq D:=λa b=>if h:D.eqb a b=N2 then isTrue (SN a b h)else isFalse λe=>h (by rw[e];exact SM b)
noncomputable def RKey:D->Key->Prop
 |.int i,k=>k=.inl i
 |.str x,k=>k=.inr x
 |_,_=>False
noncomputable def RKeys:D->List Key->Prop
 |.tup ds,ks=>IZ RKey ds ks
 |_,_=>False
noncomputable def dget(kvs:List (D×D))(k:D):Option D:=(kvs.find? λp=>decide (p.1=k)).map (·.2)
noncomputable def cz(kvs:List (D×D))(k v:D):List (D×D):=if(kvs.any λp=>decide (p.1=k))=N2 then kvs.map (λp=>if p.1=k then(p.1,v)else p)else kvs++[(k,v)]
noncomputable def fb:D->Bool
 |.int _=>N2
 |.str _=>N2
 |_=>R9
noncomputable def bZ:D->Bool
 |.tup ds=>ds.all fb&&fk ds
 |_=>R9
noncomputable def iX(t:Bool)(k:D):Bool:=if t then bZ k else fb k
theorem n9{k:D}(h:fb k=N2):∃q,RKey k q:=by cases k<;>first|(simp[fb]at h;done)|exact⟨_,rfl⟩
theorem pZ:∀{ds:List D},ds.all fb=N2->∃ks,IZ RKey ds ks
 |[],_=>⟨[],.nil⟩
 |d::ds,h=>by simp only[N7,D0]at h;obtain⟨k,j⟩:=n9 h.1;obtain⟨ks,hs⟩:=pZ h.2;exact⟨k::ks,.cons j hs⟩
theorem jM{k:D}(h:bZ k=N2):∃q,RKeys k q:=by cases k<;>first|(simp[bZ]at h;done)|exact pZ (Nf.mp h).1
theorem jN{ds:List D}(h:bZ (.tup ds)=N2):fk ds=N2:=(Nf.mp h).2
noncomputable def RO(K:Frag)(H:Hp)(a:SS):O->Prop
 |.lst ds=>∃vs,H a=E (.lst vs)/\RDs K H ds vs
 |.dct R9 kvs=>∃ps,H a=E (.dK ps)/\IZ (λ(p:D×D) (q:Key×V)=>RKey p.1 q.1/\RD K H p.2 q.2) kvs ps
 |.dct N2 kvs=>∃ps,H a=E (.dT ps)/\IZ (λ(p:D×D) (q:List Key×V)=>RKeys p.1 q.1/\RD K H p.2 q.2) kvs ps
 |.fdc kvs=>∃o ps,H a=E (.frz o (.dT ps))/\IZ (λ(p:D×D) (q:List Key×V)=>RKeys p.1 q.1/\RD K H p.2 q.2) kvs ps
 |.dcn kvs=>∃xs,H a=E (.ext (yc a xs))/\IZ (λ(p:NK×D) (q:NK×SS×q7)=>p.1=q.1/\Kt H q.1 q.2.1/\∃v,RelV v q.2.2/\RD K H p.2 v) kvs xs
 |.fdn kvs=>∃o xs,H a=E (.frz o (.ext (yc a xs)))/\IZ (λ(p:NK×D) (q:NK×SS×q7)=>p.1=q.1/\Kt H q.1 q.2.1/\∃v,RelV v q.2.2/\RD K H p.2 v) kvs xs
 |.tab pos q=>Ed H a pos q
def RM(K:Frag)(M:Mem)(H:Hp):Prop:=∀a o,M a=E o->RO K H a o
def RS(K:Frag)(H:Hp)(σ:St)(ρ:am):Prop:=σ.length=ρ.length/\∀(i:Nat) (d:D),ρ[i]?=E (E d)->∃v,σ[i]?=E (E v)/\RD K H d v
structure Ext(M:Mem)(H:Hp)(M':Mem)(H':Hp):Prop where
 kp:∀a o,fz (M a)=N2->H a=E o->H' a=E o
 nw:∀a o,fz (M a)=N2->H a=E o->M' a=M a
section
variable{K:Frag}{M M' M'':Mem}{H H' H'':Hp}
theorem Ext.keep(x:Ext M H M' H')(a:SS)(o:HO)(n:M a=Z)(e:H a=E o):H' a=E o:=x.kp a o (by rw[n];rfl) e
theorem Ext.new(x:Ext M H M' H')(a:SS)(o:HO)(n:M a=Z)(e:H a=E o):M' a=Z:=(x.nw a o (by rw[n];rfl) e).trans n
theorem Ext.refl:Ext M H M H:=⟨λ_ _ _ h=>h,λ_ _ _ _=>rfl⟩
theorem Ext.trans(a:Ext M H M' H')(b:Ext M' H' M'' H''):Ext M H M'' H'':=⟨λc o n h=>b.kp c o (by rw[a.nw c o n h];exact n) (a.kp c o n h),λc o n h=>(b.nw c o (by rw[a.nw c o n h];exact n) (a.kp c o n h)).trans (a.nw c o n h)⟩
theorem RM.mut(r:RM K M H){o:O}(h:M a=E o):∃ho,H a=E ho/\(∀xs,ho≠.tup xs)/\(fz (E o)=R9->∀ob u,ho≠.frz ob u):=by
 have q:=r a o h
 cases o with
 |lst ds=>obtain⟨vs,e,_⟩:=q;exact⟨_,e,λ_ z=>(by cases z),λ_ _ _ z=>(by cases z)⟩
 |dct t kvs=>
  cases t with
  |false=>obtain⟨ps,e,_⟩:=q;exact⟨_,e,λ_ z=>(by cases z),λ_ _ _ z=>(by cases z)⟩
  |true=>obtain⟨ps,e,_⟩:=q;exact⟨_,e,λ_ z=>(by cases z),λ_ _ _ z=>(by cases z)⟩
 |fdc kvs=>obtain⟨ob,ps,e,_⟩:=q;exact⟨_,e,λ_ z=>(by cases z),λz=>(by cases z)⟩
 |fdn kvs=>obtain⟨ob,ps,e,_⟩:=q;exact⟨_,e,λ_ z=>(by cases z),λz=>(by cases z)⟩
 |dcn kvs=>obtain⟨xs,e,_⟩:=q;exact⟨_,e,λ_ z=>(by cases z),λ_ _ _ z=>(by cases z)⟩
 |tab pos u=>obtain⟨ps,e,_⟩:=q;exact⟨_,e,λ_ z=>(by cases z),λ_ _ _ z=>(by cases z)⟩
theorem RM.fzT(r:RM K M H)(e:H a=E (.tup xs)):M a=Z:=by
 cases q:M a with
 |none=>rfl
 |some o=>obtain⟨ho,j,z,_⟩:=r.mut q;rw[e]at j;cases j;exact absurd rfl (z xs)
theorem RM.fzF(r:RM K M H){ob:Obj}{u:HO}(e:H a=E (.frz ob u)):fz (M a)=N2:=by
 cases q:M a with
 |none=>rfl
 |some o=>
  obtain⟨ho,j,_,B⟩:=r.mut q;rw[e]at j;cases j
  cases z:fz (E o)with
  |true=>rfl
  |false=>exact absurd rfl (B z ob u)
theorem RM.out(r:RM K M H)(h:H a=Z):M a=Z:=by
 cases e:M a with
 |none=>rfl
 |some o=>obtain⟨ho,q,_⟩:=r.mut e;rw[h]at q;cases q
theorem Ext.stab(r:RM K M H)(x:Ext M H M' H'):Stab H H' where
 tup:=λa xs e=>x.keep a _ (r.fzT e) e
 frz:=λa o u e=>x.kp a _ (r.fzF e) e
theorem RS.mono(st:Stab H H'){ρ:am}(h:RS K H σ ρ):RS K H' σ ρ:=⟨h.1,λi d e=>let⟨v,q,r⟩:=h.2 i d e; ⟨v,q,r.mono st⟩⟩
theorem RS.set{ρ:am}(h:RS K H σ ρ)(i:Nat){d:D}(r:RD K H d v):RS K H (σ.set i (E v)) (ρ.set i (E d)):=by
 refine⟨by simp[h.1],λj e q=>?_⟩
 by_cases hij:i=j
 ·subst hij;have hi:i<ρ.length:=by
   have:=(HU.mp q).1;simpa using this
  rw[JM hi]at q
  cases q
  exact⟨v,by rw[JM (by rw[h.1];exact hi)],r⟩
 ·rw[Ko hij]at q⊢;exact h.2 j e q
noncomputable def rl(fr:List (Option Nat))(ρ:am):am:=fr.map λo=>o.bind λj=>(ρ[j]?).join
theorem RS.inh{ρ:am}(h:RS K H σ ρ)(fr:List (Option Nat)):RS K H (inh fr σ) (rl fr ρ):=by
 refine⟨by simp[L2.inh,rl],λi d e=>?_⟩
 unfold rl at e;unfold L2.inh;rw[I8]at e⊢
 cases q:fr[i]? with
 |none=>rw[q]at e;cases e
 |some o=>
  rw[q]at e
  cases o with
  |none=>cases e
  |some j=>
   have e':E ((ρ[j]?).join)=E (E d):=e
   cases q':ρ[j]? with
   |none=>rw[q']at e';cases e'
   |some w=>
    rw[q']at e'
    cases e'
    obtain⟨v,v1,v2⟩:=h.2 j d q';exact⟨v,by simp[v1],v2⟩
theorem RO.mono(st:Stab H H'){o:O}(h:RO K H a o)(e:∀ho,H a=E ho->H' a=E ho):RO K H' a o:=by
 cases o with
 |lst ds=>obtain⟨vs,q,r⟩:=h;exact⟨vs,e _ q,r.mono st⟩
 |dct t kvs=>
  cases t with
  |false=>obtain⟨ps,q,r⟩:=h;exact⟨ps,e _ q,Sr r λ_ _ z=>⟨z.1,z.2.mono st⟩⟩
  |true=>obtain⟨ps,q,r⟩:=h;exact⟨ps,e _ q,Sr r λ_ _ z=>⟨z.1,z.2.mono st⟩⟩
 |fdc kvs=>obtain⟨ob,ps,q,r⟩:=h;exact⟨ob,ps,e _ q,Sr r λ_ _ z=>⟨z.1,z.2.mono st⟩⟩
 |fdn kvs=>obtain⟨ob,xs,q,r⟩:=h;exact⟨ob,xs,e _ q,Sr r λ_ _ j=>(by obtain⟨B,F,v,J,L⟩:=j;exact⟨B,F.keeps st.tup,v,J,L.mono st⟩)⟩
 |dcn kvs=>obtain⟨xs,q,r⟩:=h;exact⟨xs,e _ q,Sr r λ_ _ j=>(by obtain⟨B,F,v,J,L⟩:=j;exact⟨B,F.keeps st.tup,v,J,L.mono st⟩)⟩
 |tab pos u=>obtain⟨ps,U,Y⟩:=h;exact⟨ps,e _ U,Y.imp_right λj=>(by obtain⟨c',oc,vs,t,B,F,J⟩:=j;exact⟨c',oc,vs,t,B,st.frz _ _ _ F,J⟩)⟩
theorem RM.new{p:SS}(r:RM K M H)(n:H p=Z):RM K M (upd H p ho):=λa o e=>by
 have ne:a≠p:=λz=>by subst z;obtain⟨_,q,_⟩:=r.mut e;rw[n]at q;cases q
 refine(r a o e).mono ⟨λb xs q=>?_,λb o u q=>?_⟩ λj q=>by rw[aj ne];exact q
 ·rw[aj (aX q n)];exact q
 ·rw[aj (aX q n)];exact q
theorem SE{p:SS}(n:H p=Z):Ext M H M (upd H p ho):=⟨λa o _ e=>by rw[aj (aX e n)];exact e,λ_ _ _ _=>rfl⟩
theorem RM.lay{p:SS}{o:O}(r:RM K M H)(n:H p=Z)(h:RO K (upd H p ho) p o):RM K (ad M p o) (upd H p ho):=λa o' e=>by
 by_cases z:a=p
 ·subst z;rw[aa]at e;cases e;exact h
 ·rw[ax z]at e;exact r.new n a o' e
theorem Ext.lay{p:SS}{o:O}(n:H p=Z):Ext M H (ad M p o) (upd H p ho):=⟨λa u _ e=>by rw[aj (aX e n)];exact e,λa u m e=>by rw[ax (aX e n)]⟩
theorem RM.put{p:SS}{o o0:O}(r:RM K M H)(m:M p=E o0)(h:RO K (upd H p ho) p o)(w:fz (E o0)=R9:=by rfl):RM K (ad M p o) (upd H p ho):=λa o' e=>by
 by_cases z:a=p
 ·subst z;rw[aa]at e;cases e;exact h
 ·rw[ax z]at e;obtain⟨L,j,B,F⟩:=r.mut m;refine(r a o' e).mono ⟨λb xs q=>?_,λb o u q=>?_⟩ λJ q=>by rw[aj z];exact q
  ·rw[aj (λz=>by subst z;rw[j]at q;cases q;exact B xs rfl)];exact q
  ·rw[aj (λz=>by subst z;rw[j]at q;cases q;exact F w o u rfl)];exact q
theorem Ext.put{p:SS}{o o0:O}(m:M p=E o0)(w:fz (E o0)=R9:=by rfl):Ext M H (ad M p o) (upd H p ho):=⟨λa u n e=>by rw[aj (λz=>by subst z;rw[m,w]at n;cases n)];exact e,λa u n e=>ax (λz=>by subst z;rw[m,w]at n;cases n)⟩
theorem RM.stabPut{p:SS}{o0:O}(r:RM K M H)(m:M p=E o0)(w:fz (E o0)=R9:=by rfl):Stab H (upd H p ho):=(Ext.put (o:=o0) (ho:=ho) m w).stab r
end
noncomputable abbrev QD:=D->Mem->Prop
noncomputable abbrev TEd:=am->Mem->QD->Prop
noncomputable abbrev TTd:=am->Mem->(Bool->Mem->Prop)->Prop
noncomputable abbrev TAd:=am->Mem->(List D->Mem->Prop)->Prop
structure bB where
 nx:am->Mem->Prop
 rt:QD
 bk:am->Mem->Prop:=λ_ _=>False
 ct:am->Mem->Prop:=λ_ _=>False
noncomputable abbrev TSd:=bB->am->Mem->Prop
def ae(T:TEd):Prop:=∀ρ M Q Q',(∀d M',Q d M'->Q' d M')->T ρ M Q->T ρ M Q'
def aC(T:TTd):Prop:=∀ρ M Q Q',(∀d M',Q d M'->Q' d M')->T ρ M Q->T ρ M Q'
def aY(T:TAd):Prop:=∀ρ M Q Q',(∀d M',Q d M'->Q' d M')->T ρ M Q->T ρ M Q'
structure LeD(a b:bB):Prop where
 nx:∀ρ M,a.nx ρ M->b.nx ρ M
 rt:∀d M,a.rt d M->b.rt d M
 bk:∀ρ M,a.bk ρ M->b.bk ρ M
 ct:∀ρ M,a.ct ρ M->b.ct ρ M
def aD(T:TSd):Prop:=∀a b ρ M,LeD a b->T a ρ M->T b ρ M
noncomputable def KE'(K:Frag)(M:Mem)(H:Hp)(Q:VK):QD:=λd M'=>∀v H',Ext M H M' H'->RM K M' H'->RD K H' d v->Q v H'
noncomputable def KT'(K:Frag)(M:Mem)(H:Hp)(Q:Bool->Hp->Prop):Bool->Mem->Prop:=λb M'=>∀H',Ext M H M' H'->RM K M' H'->Q b H'
noncomputable def KA'(K:Frag)(M:Mem)(H:Hp)(Q:List V->Hp->Prop):List D->Mem->Prop:=λds M'=>∀vs H',Ext M H M' H'->RM K M' H'->RDs K H' ds vs->Q vs H'
noncomputable def lE(K:Frag)(T:TEd):TE:=λσ H Q=>∃ρ M,RS K H σ ρ/\RM K M H/\T ρ M (KE' K M H Q)
noncomputable def lT(K:Frag)(T:TTd):TT:=λσ H Q=>∃ρ M,RS K H σ ρ/\RM K M H/\T ρ M (KT' K M H Q)
noncomputable def lA(K:Frag)(T:TAd):TA:=λσ H Q=>∃ρ M,RS K H σ ρ/\RM K M H/\T ρ M (KA' K M H Q)
structure Link(K:Frag)(M:Mem)(H:Hp)(a:bB)(b:bN):Prop where
 nx:∀ρ M' σ H',Ext M H M' H'->RS K H' σ ρ->RM K M' H'->a.nx ρ M'->b.nx σ H'
 rt:∀d M' v H',Ext M H M' H'->RM K M' H'->RD K H' d v->a.rt d M'->b.rt v H'
 bk:∀ρ M' σ H',Ext M H M' H'->RS K H' σ ρ->RM K M' H'->a.bk ρ M'->b.bk σ H'
 ct:∀ρ M' σ H',Ext M H M' H'->RS K H' σ ρ->RM K M' H'->a.ct ρ M'->b.ct σ H'
noncomputable def lS(K:Frag)(T:TSd):TS:=λD σ H=>∃ρ M A,RS K H σ ρ/\RM K M H/\Link K M H A D/\T A ρ M
theorem Link.ext{M M':Mem}{a:bB}{b:bN}(l:Link K M H a b)(x:Ext M H M' H'):Link K M' H' a b:=⟨λρ M2 σ H2 y=>l.nx ρ M2 σ H2 (x.trans y),λd M2 v H2 y=>l.rt d M2 v H2 (x.trans y),λρ M2 σ H2 y=>l.bk ρ M2 σ H2 (x.trans y),λρ M2 σ H2 y=>l.ct ρ M2 σ H2 (x.trans y)⟩
theorem PE.imp{t t':TE}(h:PE X e t)(i:∀σ H Q,t' σ H Q->t σ H Q):PE X e t':=λpins s σ H Q I q=>h pins s σ H Q I (i _ _ _ q)
theorem PT.imp{t t':TT}(h:PT X e t)(i:∀σ H Q,t' σ H Q->t σ H Q):PT X e t':=λpins s σ H Q I q=>h pins s σ H Q I (i _ _ _ q)
theorem PW.imp{t t':TT}(h:PW X e t)(i:∀σ H Q,t' σ H Q->t σ H Q):PW X e t':=λwh pins s σ H Q I q=>h wh pins s σ H Q I (i _ _ _ q)
theorem PA.imp{e:List Expr}{t t':TA}(h:PA X e t)(i:∀σ H Q,t' σ H Q->t σ H Q):PA X e t':=λp pins s σ H Q I q=>h p pins s σ H Q I (i _ _ _ q)
theorem PS.imp{e:Stmt}{t t':TS}(h:PS X e t)(i:∀D σ H,t' D σ H->t D σ H):PS X e t':=λpins s σ H D I q=>h pins s σ H D I (i _ _ _ q)
theorem PSs.imp{e:List Stmt}{t t':TS}(h:PSs X e t)(i:∀D σ H,t' D σ H->t D σ H):PSs X e t':=λpins s σ H D I q=>h pins s σ H D I (i _ _ _ q)
end
variable{M M':Mem}{ds:List D}{d:D}{Q:VK}{ta:TEd}{tr:TAd}{j:Nat}{es:List Expr}
section
theorem KE'.ext{M2:Mem}{H2:Hp}(x:Ext M H M2 H2)(h:KE' K M H Q d M'):KE' K M2 H2 Q d M':=λv H' y=>h v H' (x.trans y)
theorem KT'.ext{M2:Mem}{H2:Hp}{Q:Bool->Hp->Prop}{d:Bool}(x:Ext M H M2 H2)(h:KT' K M H Q d M'):KT' K M2 H2 Q d M':=λH' y=>h H' (x.trans y)
noncomputable abbrev R2d:=D->D->Mem->QD->Prop
noncomputable abbrev R1d:=D->Mem->QD->Prop
noncomputable abbrev RAd:=List D->Mem->QD->Prop
def aJ(r:R2d):Prop:=∀x y M Q Q',(∀d M',Q d M'->Q' d M')->r x y M Q->r x y M Q'
def rn(r:R1d):Prop:=∀x M Q Q',(∀d M',Q d M'->Q' d M')->r x M Q->r x M Q'
def aU(r:RAd):Prop:=∀x M Q Q',(∀d M',Q d M'->Q' d M')->r x M Q->r x M Q'
noncomputable def l2(K:Frag)(rd:R2d):R2:=λv u H Q=>∃x y M,RM K M H/\RD K H x v/\RD K H y u/\rd x y M (KE' K M H Q)
noncomputable def l1(K:Frag)(rd:R1d):V->Hp->VK->Prop:=λv H Q=>∃x M,RM K M H/\RD K H x v/\rd x M (KE' K M H Q)
noncomputable def lR(K:Frag)(rd:RAd):List V->Hp->VK->Prop:=λvs H Q=>∃ds M,RM K M H/\RDs K H ds vs/\rd ds M (KE' K M H Q)
noncomputable def lMt(K:Frag)(rd:D->List D->Mem->QD->Prop):V->List V->Hp->VK->Prop:=λv vs H Q=>∃x ds M,RM K M H/\RD K H x v/\RDs K H ds vs/\rd x ds M (KE' K M H Q)
noncomputable def br(i:Nat):TEd:=λρ M Q=>∃d,ρ[i]?=E (E d)/\Q d M
noncomputable def wC(d:D):TEd:=λ_ M Q=>Q d M
noncomputable def wOp(rd:R2d)(ta tb:TEd):TEd:=λρ M Q=>ta ρ M λx M1=>tb ρ M1 λy M2=>rd x y M2 Q
noncomputable def wUn(rd:R1d)(ta:TEd):TEd:=λρ M Q=>ta ρ M λx M1=>rd x M1 Q
noncomputable def bD:TAd:=λ_ M Q=>Q [] M
noncomputable def aH(ta:TEd)(tr:TAd):TAd:=λρ M Q=>ta ρ M λx M1=>tr ρ M1 λxs M2=>Q (x::xs) M2
noncomputable def wAr(rd:RAd)(t:TAd):TEd:=λρ M Q=>t ρ M λds M1=>rd ds M1 Q
theorem wk:ae (br i):=λ_ _ _ _ h j=>(by obtain⟨d,e,q⟩:=j;exact⟨d,e,h _ _ q⟩)
theorem fU:ae (wC d):=λ_ _ _ _ h q=>h _ _ q
theorem eM{rd:R2d}{tb:TEd}(j:aJ rd)(z:ae ta)(B:ae tb):ae (wOp rd ta tb):=λρ M Q Q' h q=>z _ _ _ _ (λx L F=>B _ _ _ _ (λy M2 J=>j _ _ _ _ _ h J) F) q
theorem yX{rd:R1d}(j:rn rd)(z:ae ta):ae (wUn rd ta):=λρ M Q Q' h q=>z _ _ _ _ (λx F B=>j _ _ _ _ h B) q
theorem aw:aY bD:=λ_ _ _ _ h q=>h _ _ q
theorem aq(j:ae ta)(z:aY tr):aY (aH ta tr):=λρ M Q Q' h q=>j _ _ _ _ (λx J B=>z _ _ _ _ (λxs M2 F=>h _ _ F) B) q
theorem gB{rd:RAd}{t:TAd}(j:aU rd)(z:aY t):ae (wAr rd t):=λρ M Q Q' h q=>z _ _ _ _ (λds F B=>j _ _ _ _ h B) q
section
variable{X:Cx}{a b:Expr}{ta tb:TEd}{pos:Pos}
theorem B9(B:X.N[i]?=E x)(j:Vis X.env.scope x)(hd:(x==("__debug__":Str))=R9)(z:(x==("__classdict__":Str))=R9):PE X (.Name x pos) (lE X.K (br i)):=by refine PE.imp (Au B j hd z) λσ H Q h=>?_;obtain⟨ρ,M,rs,rm,d,e,q⟩:=h;obtain⟨v,j,rd⟩:=rs.2 i d e;exact⟨v,j,q v H Ext.refl rm rd⟩
theorem le_int{i:Int}:PE X (.Constant (.int i) j pos) (lE X.K (wC (.int i))):=PE.imp Av λσ H Q g9=>(by obtain⟨ρ,M,rs,rm,q⟩:=g9;exact q _ H Ext.refl rm (Sl.mpr rfl))
theorem CY{i:Bool}:PE X (.Constant (.bool i) j pos) (lE X.K (wC (.bl i))):=PE.imp Cu λσ H Q g9=>(by obtain⟨ρ,M,rs,rm,q⟩:=g9;exact q _ H Ext.refl rm (So.mpr rfl))
theorem Ba:PE X (.Constant .none j pos) (lE X.K (wC .non)):=PE.imp Aw λσ H Q g9=>(by obtain⟨ρ,M,rs,rm,q⟩:=g9;exact q _ H Ext.refl rm (SA.mpr rfl))
theorem Bb:PE X (.Constant (.str x) j pos) (lE X.K (wC (.str x))):=PE.imp Ax λσ H Q g9=>(by obtain⟨ρ,M,rs,rm,q⟩:=g9;exact q _ H Ext.refl rm (Sy.mpr rfl))
theorem gC{rd:R2d}(O:aJ rd)(ma:ae ta)(mb:ae tb)(σ:St)(H:Hp)(Q:VK)(h:lE K (wOp rd ta tb) σ H Q):tOp (l2 K rd) (lE K ta) (lE K tb) σ H Q:=by obtain⟨ρ,M,rs,rm,q⟩:=h;refine⟨ρ,M,rs,rm,ma _ _ _ _ (λx U Y v H1 J j z=>?_) q⟩;refine⟨ρ,U,rs.mono (J.stab rm),j,mb _ _ _ _ (λy M2 F2 u H2 L B F=>?_) Y⟩;exact⟨x,y,M2,B,z.mono (L.stab j),F,O _ _ _ _ _ (λd M' k=>k.ext (J.trans L)) F2⟩
theorem CZ{op:Mt}{rd:R2d}(ho:OpR X (JT op) (l2 X.K rd))(j:aJ rd)(ma:ae ta)(mb:ae tb)(z:PE X a (lE X.K ta))(B:PE X b (lE X.K tb)):PE X (.BinOp a op b pos) (lE X.K (wOp rd ta tb)):=PE.imp (CF ho z B) (gC j ma mb)
theorem Bc{op:CmpOp}{rd:R2d}(ho:OpR X (Ku op) (l2 X.K rd))(j:aJ rd)(ma:ae ta)(mb:ae tb)(z:PE X a (lE X.K ta))(B:PE X b (lE X.K tb))(hm:Mc op b=R9):PE X (.Compare a [op] [b] pos) (lE X.K (wOp rd ta tb)):=PE.imp (yN ho z B hm) (gC j ma mb)
noncomputable def jO(t:TEd):TTd:=λρ M Q=>t ρ M λx M1=>∃k,x=.bl k/\Q k M1
theorem wl{t:TEd}(h:ae t):aC (jO t):=λρ M Q Q' i q=>h _ _ _ _ (λx B j=>(by obtain⟨k,e,z⟩:=j;exact⟨k,e,i _ _ z⟩)) q
theorem wm{t:TEd}(m:ae t)(σ:St)(H:Hp)(Q:Bool->Hp->Prop)(h:lT K (jO t) σ H Q):xY (lE K t) σ H Q:=by obtain⟨ρ,M,rs,rm,q⟩:=h;refine⟨ρ,M,rs,rm,m _ _ _ _ (λx J g9 v H1 F j z=>?_) q⟩;obtain⟨k,e,B⟩:=g9;subst e;exact⟨k,So.mp z,B H1 F j⟩
theorem Be{op:CmpOp}{rd:R2d}(ho:OpR X (Ku op) (l2 X.K rd))(j:aJ rd)(ma:ae ta)(mb:ae tb)(z:PE X a (lE X.K ta))(B:PE X b (lE X.K tb))(hm:Mc op b=R9):
 PT X (.Compare a [op] [b] pos) (lT X.K (jO (wOp rd ta tb))):=
 PT.imp (yO ho z B hm) λσ H Q h=>by have h1:=wm (eM j ma mb) σ H Q h;exact gC j ma mb σ H _ h1
theorem D3{op:UnaryOp}{rd:R1d}(ho:UnR X (unaryOp op) (l1 X.K rd))(B:rn rd)(ma:ae ta)(F:PE X a (lE X.K ta)):PE X (.UnaryOp op a pos) (lE X.K (wUn rd ta)):=PE.imp (CG ho F) λσ H Q g9=>(by obtain⟨ρ,M,rs,rm,q⟩:=g9;exact⟨ρ,M,rs,rm,ma _ _ _ _ (λx J L v H1 O j z=>⟨x,J,j,z,B _ _ _ _ (λd M' k=>k.ext O) L⟩) q⟩)
theorem D4{rd:R2d}(ho:IxR X (l2 X.K rd))(j:aJ rd)(ma:ae ta)(mb:ae tb)(z:PE X a (lE X.K ta))(B:PE X b (lE X.K tb))(hs:jJ b):PE X (.Subscript a b pos) (lE X.K (wOp rd ta tb)):=PE.imp (CN ho z B hs) (gC j ma mb)
theorem dW:PA X [] (lA X.K bD):=PA.imp AW λσ H Q g9=>(by obtain⟨ρ,M,rs,rm,q⟩:=g9;exact q _ H Ext.refl rm RDs.nil)
theorem tK(ma:ae ta)(mr:aY tr)(σ:St)(H:Hp)(Q:List V->Hp->Prop)(h:lA K (aH ta tr) σ H Q):y0 (lE K ta) (lA K tr) σ H Q:=by obtain⟨ρ,M,rs,rm,q⟩:=h;refine⟨ρ,M,rs,rm,ma _ _ _ _ (λx O U v H1 J j z=>?_) q⟩;refine⟨ρ,O,rs.mono (J.stab rm),j,mr _ _ _ _ (λxs M2 Y vs H2 L B F=>?_) U⟩;exact Y (v::vs) H2 (J.trans L) B (RDs.cons (z.mono (L.stab j)) F)
theorem bV(ma:ae ta)(mr:aY tr)(j:PE X e (lE X.K ta))(z:PA X es (lA X.K tr))(hs:IG (e::es) X.env=(R9,eval e X.env)::IG es X.env):PA X (e::es) (lA X.K (aH ta tr)):=PA.imp (yP j z hs) (tK ma mr)
theorem bI{rd:RAd}{t:TAd}(B:aU rd)(mt:aY t)(σ:St)(H:Hp)(Q:VK)(h:lE K (wAr rd t) σ H Q):tCB (lR K rd) (lA K t) σ H Q:=by obtain⟨ρ,M,rs,rm,q⟩:=h;exact⟨ρ,M,rs,rm,mt _ _ _ _ (λds F J vs H1 L j z=>⟨ds,F,j,z,B _ _ _ _ (λd M' k=>k.ext L) J⟩) q⟩
noncomputable def ng:RAd:=λds M Q=>ds.length<=HZ/\Q (.tup ds) M
noncomputable def rp:RAd:=λds M Q=>ds.length<=HZ/\∀p,M p=Z->Q (.ref p) (ad M p (.lst ds))
theorem tL:aU ng:=λ_ _ _ _ h j=>(by obtain⟨z,q⟩:=j;exact⟨z,h _ _ q⟩)
theorem tM:aU rp:=λ_ _ _ _ h j=>(by obtain⟨z,q⟩:=j;exact⟨z,λp n=>h _ _ (q p n)⟩)
theorem dJ{p:SS}(rm:RM K M H)(rd:RDs K H ds vs)(q:KE' K M H Q (.tup ds) M)(n:H p=Z):Q (.ref p) (upd H p (.tup vs)):=by have x:Ext M H M (upd H p (.tup vs)):=SE n;exact q (.ref p) _ x (rm.new n) (SF ⟨p,vs,rfl,az,rd.mono (x.stab rm)⟩)
theorem cC{p:SS}(rm:RM K M H)(rd:RDs K H ds vs)(q:∀p,M p=Z->KE' K M H Q (.ref p) (ad M p (.lst ds)))(n:H p=Z):Q (.ref p) (upd H p (.lst vs)):=by have x:Ext M H (ad M p (.lst ds)) (upd H p (.lst vs)):=Ext.lay n;have x0:Ext M H M (upd H p (.lst vs)):=SE n;exact q p (rm.out n) (.ref p) _ x (rm.lay n ⟨vs,az,rd.mono (x0.stab rm)⟩) (Sm.mpr rfl)
theorem Bf{t:TAd}{k:Nat}(mt:aY t)(h:PA X es (lA X.K t)):PE X (.Tuple es k pos) (lE X.K (wAr ng t)):=PE.imp (AX h) λσ H Q B=>(by obtain⟨ρ,M,rs,rm,q⟩:=B;exact⟨ρ,M,rs,rm,mt _ _ _ _ (λds O B vs H1 J F j=>(by obtain⟨z,L⟩:=B;exact⟨by rw[j.length];exact z,λp n=>dJ F j (L.ext J) n⟩)) q⟩)
theorem Bg{t:TAd}(mt:aY t)(h:PA X es (lA X.K t)):PE X (.List es pos) (lE X.K (wAr rp t)):=PE.imp (AY h) λσ H Q B=>(by obtain⟨ρ,M,rs,rm,q⟩:=B;exact⟨ρ,M,rs,rm,mt _ _ _ _ (λds O B vs H1 J F j=>(by obtain⟨z,L⟩:=B;exact⟨by rw[j.length];exact z,λp n=>cC F j (λp' n'=>(L p' n').ext J) n⟩)) q⟩)
end
end
end Mi
section
section
variable{X:Cx}
theorem fV:∀{ns:List Int} {ys:List q7},CarriedAll ys (ns.map PyData.int)->Vals (ns.map V.int) ys
 |[],ys,h=>by cases h;exact .nil
 |n::ns,ys,h=>by
  rw[Ii]at h
  cases h with
  |cons h1 h2=>
   refine .cons ?_ (fV h2)
   cases h1
   exact⟨_,rfl⟩
theorem yY{e:Expr}{te:TE}{p p2 j:Pos}(Y:X.calm=N2)(he:PE X e te)(F2:Gl X "list")(hm:X.mg "list"=Z)(J:Gl X "range")(L:X.mg "range"=Z)(hs:IG [e] X.env=[(R9,eval e X.env)]):
 PE X (.Call (.Name "list" p) [.Call (.Name "range" p2) [e] [] j] [] pos) (λσ H Q=>te σ H λx H1=>∃n:Nat,x=.int (n:Nat)/\n<=1000000/\∀q,H1 q=Z->Q (.ref q) (upd H1 q (.lst ((HV n).map λi=>V.int (i:Nat))))):=by
 intro pins s σ H Q I h;refine KP (cV I F2 hm (u:=.type "list") (by decide +kernel) ?_ (by decide) (by decide))
 refine Jl ?_ rfl rfl;refine Lr ?_;refine KP (cV I J L (u:=.type "range") RP ?_ (by decide) (by decide))
 refine Jl ?_ (by rw[hs];rfl) rfl
 rw[hs];refine Lr (thn (he pins s σ H _ I h) λu s1 g9=>?_);obtain⟨x,H1,B,r1,q1⟩:=g9;obtain⟨n,rfl,hn,q⟩:=q1;obtain⟨t,rfl⟩:=r1;refine Mv ?_;refine call_range_1 (Mv ?_);have I2:Inv X pins σ H1 {s1 with heap:=s1.heap.push {cls:=.type "range",data:=.fields #[.int 0 s1.toks,.int (n:Nat) t,.int 1 (s1.toks+1)]},toks:=s1.toks+1+1}:=B.kept (t':=s1.toks+1+1) λb ob q=>tv _ q
 obtain⟨m,F⟩:=I2.fr;have hsz:Mo 0 (n:Nat) 1=((n:Nat):Int):=by
  unfold Mo;rw[if_pos (by decide)]
  by_cases h0:(0:Int)<(n:Nat)
  ·rw[if_pos h0];lia
  ·rw[if_neg h0];lia
 refine list_rangeD (news:=[]) (B.ok.hd Y) F (λ_ hp=>by cases hp) (I9 _ rfl) ?_ hsz ∅ λh' tk ys _ _ kp _ _ np car=>?_
 ·unfold Builtin.Range.small;rw[hsz];have f:∀z:Int,0<=z->z<=1000001->NA z=N2:=fun z h1 h2=>by
   unfold NA;simp only[D0,decide_eq_true_eq];lia
  rw[f 0 ∅ ∅,f (n:Nat) ∅ ∅,f 1 ∅ ∅,if_pos (by decide),f ((n:Nat)+(1-1)) ∅ ∅]
  simp
 ·have O:=fV car;have er:(rangeInts 0 1 n).map V.int=(HV n).map fun i=>V.int (i:Nat):=by
   unfold rangeInts;rw[Jr];exact Jh λi _=>by simp
  rw[er]at O;obtain⟨⟨c',e'⟩,_⟩:=np;have U:(s1.heap.push {cls:=.type "range",data:=.fields #[.int 0 s1.toks,.int (n:Nat) t,.int 1 (s1.toks+1)]}).objs.size=s1.heap.objs.size+1:=JU ..;have kp':∀b o,s1.heap.get? b=E o->h'.get? b=E o:=λb o e=>kp b o (tv _ e);refine⟨.ref (s1.heap.push {cls:=.type "range",data:=.fields #[.int 0 s1.toks,.int (n:Nat) t,.int 1 (s1.toks+1)]}).objs.size,_,B.laid (t':=tk) (o:=.lst ((HV n).map λi=>V.int (i:Nat))) kp' (by rw[U];lia) ?_,rfl,q _ (B.hok.fresh (by rw[U];lia))⟩
  exact⟨by rw[hG,Ic,z4];lia,ys,c',O,e'⟩
end
namespace Mi
section
variable{X:Cx}
noncomputable def m7(ta:TEd):TEd:=λρ M Q=>ta ρ M λx M1=>∃n:Nat,x=.int (n:Nat)/\n<=1000000/\∀p,M1 p=Z->Q (.ref p) (ad M1 p (.lst ((HV n).map λi=>D.int (i:Nat))))
theorem tN{ta:TEd}(h:ae ta):ae (m7 ta):=λρ M Q Q' i q=>h _ _ _ _ (λx F j=>(by obtain⟨n,e,z,B⟩:=j;exact⟨n,e,z,λp n=>i _ _ (B p n)⟩)) q
theorem tO{K:Frag}{H:Hp}(n:Nat):RDs K H ((HV n).map λi=>D.int (i:Nat)) ((HV n).map λi=>V.int (i:Nat)):=by have:=RDs.ints (K:=K) (H:=H) ((HV n).map λi=>((i:Nat):Int));rw[Jr,Jr]at this;exact this
theorem yZ{e:Expr}{ta:TEd}{p p2 pos j:Pos}(m:ae ta)(L:X.calm=N2)(he:PE X e (lE X.K ta))(O:Gl X "list")(hm:X.mg "list"=Z)(B:Gl X "range")(F:X.mg "range"=Z)(hs:IG [e] X.env=[(R9,eval e X.env)]):
 PE X (.Call (.Name "list" p) [.Call (.Name "range" p2) [e] [] j] [] pos) (lE X.K (m7 ta)):=by
 refine PE.imp (yY L he O hm B F hs) λσ H Q h=>?_;obtain⟨ρ,M,rs,rm,q⟩:=h;refine⟨ρ,M,rs,rm,m _ _ _ _ (λx M1 g9 v H1 F2 J rd1=>?_) q⟩;obtain⟨n,e,U,Y⟩:=g9;subst e
 cases Sl.mp rd1
 exact⟨n,rfl,U,λp z=>cC J (tO n) (λp' n'=>(Y p' n').ext F2) z⟩
end
end Mi
end
section
theorem ic:fillsNumberSlot (.type "tuple") "mul"=pure R9:=PyProof.Rows.fillsNumberSlot_seq (id:="tuple.__mul__") (r:=E (.builtin "tuple.__rmul__")) F.slot_tuple_mul.lookup (by decide +kernel) F.slot_tuple_rmul.lookup (by decide +kernel)
theorem nh:seqRepeat? (.type "tuple")=pure (E (.builtin "tuple.__mul__")):=by
 unfold seqRepeat?;rw[Ox (T:="tuple") (name:="__mul__") (id:="tuple.__mul__") F.slot_tuple_mul.lookup (by decide +kernel),Ox (T:="tuple") (name:="__rmul__") (id:="tuple.__rmul__") F.slot_tuple_rmul.lookup (by decide +kernel)]
 rfl
theorem jP(a:Int)(t:Tok)(l:SS)(items:Array q7)(n:Nat)(d:Option SS)(sl:Array (Option q7)):
 Meets (KW.«int.__rmul__» ⟨[.int a t,.ref l],[]⟩) (λ_ R s=>s.heap.get? l=E {cls:=.type "tuple",dict:=d,data:=.seq items n,slots:=sl}/\R (.ok (.ret Value.notImplemented)) s):=
 .of_wp λprog w A R s h=>by obtain⟨j,g,d,tk,os⟩:=s;obtain⟨z,h⟩:=h;wp_walk;exact⟨_,rfl,h⟩
open AutoSeq1 (wpAny_loadPart') in
theorem tP(l:SS)(items:Array q7)(n:Nat)(dd:Option SS)(sl:Array (Option q7))(x:Int)(u:Tok)(h1:-(2^63)<=x)(h2:x<2^63)(F:items.size*x.toNat<=HZ):
 Meets (KW.«tuple.__mul__» ⟨[.ref l,.int x u],[]⟩) (λ_ R s=>s.heap.get? l=E {cls:=.type "tuple",dict:=dd,data:=.seq items n,slots:=sl} /\
  (if items.isEmpty || x==1 then R (.ok (.ret (.ref l))) s else R (.ok (.ret (.ref s.heap.objs.size))) {s with heap:=s.heap.push {cls:=.type "tuple",data:=.seq ((HN x.toNat items).foldl (· ++ ·) #[])}})):=
 .of_wp λprog w A R s h=>by
  obtain⟨F2,g,d,tk,os⟩:=s;obtain⟨z,h⟩:=h;have f1:=AutoSeq1.idx_int;have J:(decide (x < -(2^63)) || decide (x≥2^63))=R9:=by rw[decide_eq_false ∅,decide_eq_false ∅];rfl
  wp_walk using LG z
  refine OX (decide_eq_false (by rw[J];decide)) ?_
  dsimp only
  by_cases j:(items.isEmpty || x==1)=N2
  ·rw[if_pos j]at h
   wp_walk using LG z
   exact⟨_,rfl,h⟩
  ·rw[if_neg j]at h
   wp_walk using LG z
   simp only[OY,not_or]at j
   by_cases e2:x<=0
   ·have B:(decide (x<=0) || items.isEmpty)=N2:=by rw[decide_eq_true e2];rfl
    rw[if_pos B];have L:x.toNat=0:=∅
    rw[L]at h
    wp_walk
    exact⟨_,rfl,h⟩
   ·have B:¬(decide (x<=0) || items.isEmpty)=N2:=by simp;exact⟨∅,by simpa using j.1⟩
    rw[if_neg B];have hx:((items.size:Nat):Int)*x=((items.size*x.toNat:Nat):Int):=by rw[OZ,Ma ∅]
    have hs:HZ=16777216:=z4;have O:¬((items.size:Nat):Int)*x > (2^63-1) / 8:=by rw[hx];lia
    rw[if_neg O];have U:¬NR (((items.size:Nat):Int)*x)=N2:=by rw[hx];unfold NR;intro Y;have h7:=of_decide_eq_true Y;lia
    rw[if_neg U]
    wp_walk
    have hsz:((HN x.toNat items).foldl (· ++ ·) #[]).size<=HZ:=by
     have:∀(k:Nat) (a:Array q7),((HN k items).foldl (· ++ ·) a).size=a.size+items.size*k:=by
      intro k;induction k with
      |zero=>intro a;simp
      |succ k ih=>intro a;rw[Jx,JL,ih,Array.size_append,Nat.mul_succ];lia
     rw[this];simpa using F
    refine OX (decide_eq_false (RW.mpr hsz)) ?_
    wp_walk
    exact⟨_,rfl,h⟩
end
section
section
variable{X:Cx}
noncomputable def yd(K:Frag):R2:=λx y H Q=>∃l k xs,x=.ref l/\y=.int k/\SqT K H l xs /\ -(2^63)<=k/\k<2^63/\xs.length*k.toNat<=HZ /\
 ((xs=[]∨k=1)->Q (.ref l) H)/\(¬(xs=[]∨k=1)->∀p,H p=Z->Q (.ref p) (upd H p (.tup (HN k.toNat xs).flatten)))
theorem z9:OpR X (JT .Mult) (yd X.K):=by
 intro pins s σ H x y v u Q I rx ry h;obtain⟨l,k,xs,rfl,rfl,J,h1,h2,j,L,O⟩:=h
 cases rx
 obtain⟨t,rfl⟩:=ry;obtain⟨its,r,Y,_⟩:=I.tuple J;have F2:=r.length;obtain⟨⟨cls,dd,dat,sl⟩,e,B,n,hd⟩:=Y;dsimp only at B hd;subst B hd;have hlen:its.toArray.size*k.toNat<=HZ:=by rw[Ia,<-F2];exact j
 have f0:∀m:Nat,Qi (λx1 x2=>x1++x2) #[] (HN m its.toArray)=(HN m its).flatten.toArray:=λm=>by have:=fR its m [];rw[OU]at this;exact this
 refine NT (T:="tuple") (U:="int") (by decide) ⟨_,e,rfl⟩ (λs'=>OK s' k t) ic Rz Nm nh F.slot_int_index.lookup
  (MY Nm (OK s k t) QO (Qx _ _) (jP k t l its.toArray n dd sl)
    ⟨e,rfl,⟨_,e,rfl⟩,MY F.slot_tuple_mul ⟨_,e,rfl⟩ F.entry_tuple_mul (F.args_tuple_mul_2 _ _) (tP l its.toArray n dd sl k t h1 h2 hlen) ⟨e,?_⟩⟩)
 have hi:(its.toArray.isEmpty || k==1)=N2↔(xs=[]∨k=1):=by rw[<-r.nil_iff];simp
 split
 ·next c=>exact⟨.ref l,H,I,rfl,L (hi.mp c)⟩
 ·next c=>rw[f0];refine⟨.ref s.heap.objs.size,_,I.laid (t':=s.toks) (o:=.tup (HN k.toNat xs).flatten) (λb ob q=>tv _ q) (HW _) ?_,rfl,O (λz=>c (hi.mpr z)) _ (I.hok.fresh (HW _))⟩;exact⟨by rw[pY,LU];exact j,_,r.rep k.toNat,NH _ _⟩
end
end
section
section
variable{X:Cx}
theorem za:OpR X (JT .Add) (λx y H Q=>∃a b ys,x=.ref a/\y=.ref b/\SqT X.K H a []/\SqT X.K H b ys/\Q (.ref b) H):=by
 intro pins s σ H x y v u Q I rx ry h;obtain⟨a,b,ys,rfl,rfl,Y,F2,q⟩:=h
 cases rx
 cases ry
 obtain⟨its,r1,p1,_⟩:=I.tuple Y;obtain⟨j,r2,p2,_⟩:=I.tuple F2;have e0:its=[]:=r1.nil_iff.mpr rfl;obtain⟨⟨cls,dd,data,sl⟩,ho,O,n,hd⟩:=id p1;obtain⟨⟨U,J,data2,L⟩,z,B,n2,hd2⟩:=id p2;simp only at O hd B hd2;subst O hd B hd2;exact Qt ⟨_,ho,rfl⟩ ⟨_,z,rfl⟩ Oq Q1 My Mp (Md _ _)
  (tuple_addW0 a b its.toArray j.toArray n n2 dd J sl L (by simp[e0])) ⟨ho,z,⟨.ref b,H,I,rfl,q⟩⟩
end
end
namespace Mi
variable{K:Frag}{M:Mem}{H:Hp}{Q:VK}{v:V}
section
def MulOk(i j:Int):Prop:=(-(2^64)<i/\i<2^64)∨(-(2^64)<j/\j<2^64)∨(PU i<=2^20/\PU j<=2^20)
theorem MulOk.ok{i j:Int}(h:MulOk i j):IntMulOk i j:=by
 rcases h with h|h|h
 ·exact IntMulOk.of_left (intBits_le_64 h.1 h.2)
 ·exact IntMulOk.of_right (intBits_le_64 h.1 h.2)
 ·exact IntMulOk.of_bits h.1 h.2
noncomputable def dX:R2d
 |.int i,.int j,M,Q=>Q (.int (i+j)) M
 |.tup a,.tup b,M,Q=>(a≠[]∨True)/\a.length+b.length<=HZ/\Q (.tup (a++b)) M
 |.ref a,.ref b,M,Q=>∃xs ys,M a=E (.lst xs)/\M b=E (.lst ys)/\xs.length+ys.length<=HZ/\∀p,M p=Z->Q (.ref p) (ad M p (.lst (xs++ys)))
 |.str x,.str y,M,Q=>x.length+y.length<=HZ/\Q (.str (x++y)) M
 |_,_,_,_=>False
noncomputable def jQ:R2d
 |.int i,.int j,M,Q=>Q (.int (i-j)) M
 |_,_,_,_=>False
noncomputable def ff:R2d
 |.int i,.int j,M,Q=>MulOk i j/\Q (.int (i*j)) M
 |.ref a,.int k,M,Q=>∃xs,M a=E (.lst xs) /\ -(2^63)<=k/\k<2^63/\xs.length*k.toNat<=HZ/\∀p,M p=Z->Q (.ref p) (ad M p (.lst (HN k.toNat xs).flatten))
 |.tup ds,.int k,M,Q=>-(2^63)<=k/\k<2^63/\ds.length*k.toNat<=HZ/\Q (.tup (HN k.toNat ds).flatten) M
 |_,_,_,_=>False
noncomputable def iY:R2d
 |.int i,.int j,M,Q=>0<j/\j<2^256/\Q (.int (i / j)) M
 |_,_,_,_=>False
noncomputable def ie:R2d
 |.int i,.int j,M,Q=>0<j/\Q (.int (i%j)) M
 |_,_,_,_=>False
noncomputable def ni:R2d
 |.int i,.int j,M,Q=>0<=j/\j<=1000000/\i.natAbs<2^64/\Q (.int (i^j.toNat)) M
 |_,_,_,_=>False
theorem wn:aJ dX:=by
 intro x y M Q Q' h q
 cases x<;>cases y<;>first
  |exact q.elim
  |exact h _ _ q
  |exact⟨q.1,h _ _ q.2⟩
  |exact⟨q.1,q.2.1,h _ _ q.2.2⟩
  |(obtain⟨xs,ys,j,B,z,q⟩:=q;exact⟨xs,ys,j,B,z,λp n=>h _ _ (q p n)⟩)
theorem wq:aJ jQ:=by
 intro x y M Q Q' h q
 cases x<;>cases y<;>first|exact q.elim|exact h _ _ q
theorem wt:aJ ff:=by
 intro x y M Q Q' h q
 cases x<;>cases y<;>first
  |exact q.elim
  |exact⟨q.1,h _ _ q.2⟩
  |exact⟨q.1,q.2.1,q.2.2.1,h _ _ q.2.2.2⟩
  |(obtain⟨xs,j,z,B,F,q⟩:=q;exact⟨xs,j,z,B,F,λp n=>h _ _ (q p n)⟩)
theorem tQ:aJ iY:=by
 intro x y M Q Q' h q
 cases x<;>cases y<;>first|exact q.elim|exact⟨q.1,q.2.1,h _ _ q.2.2⟩
theorem wu:aJ ie:=by
 intro x y M Q Q' h q
 cases x<;>cases y<;>first|exact q.elim|exact⟨q.1,h _ _ q.2⟩
theorem wv:aJ ni:=by
 intro x y M Q Q' h q
 cases x<;>cases y<;>first|exact q.elim|exact⟨q.1,q.2.1,q.2.2.1,h _ _ q.2.2.2⟩
section
variable{X:Cx}
theorem OpR.of{f:q7->q7->Sem q7}{r r':R2}(h:OpR X f r)(i:∀v u H Q,r' v u H Q->r v u H Q):OpR X f r':=λpins s σ H x y v u Q I rx ry q=>h pins s σ H x y v u Q I rx ry (i _ _ _ _ q)
theorem IxR.of{r r':R2}(h:IxR X r)(i:∀v u H Q,r' v u H Q->r v u H Q):IxR X r':=λa b pins s σ H x y v u Q I rx ry q=>h a b pins s σ H x y v u Q I rx ry (i _ _ _ _ q)
theorem CallR.of{f:q7}{r r':List V->Hp->VK->Prop}(h:CallR X f r)(i:∀vs H Q,r' vs H Q->r vs H Q):CallR X f r':=λpins s σ H xs us Q I rx q=>h pins s σ H xs us Q I rx (i _ _ _ q)
theorem D5{a b:List D}{u:V}(rm:RM K M H)(rx:RD K H (.tup a) v)(ry:RD K H (.tup b) u)(q:dX (.tup a) (.tup b) M (KE' K M H Q)):y6 K v u H Q∨∃a b ys,v=.ref a/\u=.ref b/\SqT K H a []/\SqT K H b ys/\Q (.ref b) H:=by
 obtain⟨a',vs,rfl,z,j⟩:=Sv rx;obtain⟨b',us,rfl,B,F⟩:=Sv ry;obtain⟨_,L,q⟩:=q;have l1:=j.length;have l2:=F.length
 by_cases J:a=[]
 ·subst J;have:vs=[]:=RDs.nil_iff.mp j;subst this;exact .inr ⟨a',b',us,rfl,rfl,z,B,q _ H Ext.refl rm ry⟩
 refine .inl ⟨a',b',vs,us,rfl,rfl,z,B,λe=>J (Jf.mp (by rw[<-l1,e];rfl)),∅,λe=>?_,λ_ p n=>dJ rm (j.append F) q n⟩
 have eb:b=[]:=Jf.mp (by rw[<-l2,e];rfl)
 subst eb;rw[Jt]at q;exact q _ H Ext.refl rm rx
theorem ww:OpR X (JT .Add) (l2 X.K dX):=by
 refine OpR.of (op_add.or ((op_catT.or za).or (op_cat.or r8))) λv u H Q h=>?_;obtain⟨x,y,M,rm,rx,ry,q⟩:=h
 cases x<;>cases y<;>first
  |exact q.elim
  |(cases Sl.mp rx;cases Sl.mp ry;exact .inl ⟨_,_,rfl,rfl,q _ H Ext.refl rm (Sl.mpr rfl)⟩)
  |exact .inr (.inl (D5 rm rx ry q))
  | (cases Sm.mp rx;cases Sm.mp ry
     obtain⟨xs,ys,F,J,z,q⟩:=q;obtain⟨vs,h1,j⟩:=rm _ _ F;obtain⟨us,h2,B⟩:=rm _ _ J;have l1:=j.length;have l2:=B.length;refine .inr (.inr (.inl ⟨_,_,vs,us,rfl,rfl,h1,h2,∅,λp n=>cC rm (j.append B) q n⟩)))
  |(cases Sy.mp rx;cases Sy.mp ry;exact .inr (.inr (.inr ⟨_,_,rfl,rfl,q.1,q.2 _ H Ext.refl rm (Sy.mpr rfl)⟩)))
theorem wx:OpR X (JT .Sub) (l2 X.K jQ):=by
 refine OpR.of AQ λv u H Q h=>?_;obtain⟨x,y,M,rm,rx,ry,q⟩:=h
 cases x<;>cases y<;>first
  |exact q.elim
  |(cases Sl.mp rx;cases Sl.mp ry;exact⟨_,_,rfl,rfl,q _ H Ext.refl rm (Sl.mpr rfl)⟩)
theorem op_mul_i:OpR X (JT .Mult) (rI MulOk λi j=>.int (i*j)):=opI λ_ _ _ _ _ _ _ z q=>mul_int q z.ok
theorem D6{a:List D}{k:Int}{u:V}(rm:RM K M H)(rx:RD K H (.tup a) v)(ry:RD K H (.int k) u)(q:ff (.tup a) (.int k) M (KE' K M H Q)):yd K v u H Q:=by
 obtain⟨a',vs,rfl,z,j⟩:=Sv rx
 cases Sl.mp ry
 obtain⟨B,F,J,q⟩:=q;have l1:=j.length;refine⟨a',k,vs,rfl,rfl,z,B,F,by rw[l1];exact J,λe=>?_,λ_ p n=>dJ rm (j.rep _) q n⟩
 have ea:(HN k.toNat a).flatten=a:=by
  rcases e with e|e
  ·have:a=[]:=Jf.mp (by rw[<-l1,e];rfl)
   subst this;simp
  ·subst e;simp
 rw[ea]at q;exact q _ H Ext.refl rm rx
theorem wy:OpR X (JT .Mult) (l2 X.K ff):=by
 refine OpR.of (op_mul_i.or (op_rep.or z9)) λv u H Q h=>?_;obtain⟨x,y,M,rm,rx,ry,q⟩:=h
 cases x<;>cases y<;>first
  |exact q.elim
  |(cases Sl.mp rx;cases Sl.mp ry;exact .inl ⟨_,_,rfl,rfl,q.1,q.2 _ H Ext.refl rm (Sl.mpr rfl)⟩)
  | (cases Sm.mp rx;cases Sl.mp ry
     obtain⟨xs,z,B,F,J,q⟩:=q;obtain⟨vs,h1,j⟩:=rm _ _ z;have l1:=j.length;exact .inr (.inl ⟨_,_,vs,rfl,rfl,h1,B,F,by rw[l1];exact J,λp n=>cC rm (j.rep _) q n⟩))
  |exact .inr (.inr (D6 rm rx ry q))
theorem wz:OpR X (JT .FloorDiv) (rI (λ_ j=>0<j/\j<2^256) λi j=>.int (i / j)):=L2.opI λi j _ _ _ _ _ z q=>by
 have h1:(0:Int)<j:=z.1;have h2:j<2^256:=z.2;have B:j.natAbs.log2<256:=(Nat.log2_lt ∅).mpr ∅
 exact floordiv_int ∅ (by rw[Int.fdiv_eq_ediv_of_nonneg i ∅];exact q) (.inl (PyProof.noPylong_of_log2 ∅))
theorem tR:OpR X (JT .FloorDiv) (l2 X.K iY):=by
 refine OpR.of wz λv u H Q h=>?_;obtain⟨x,y,M,rm,rx,ry,q⟩:=h
 cases x<;>cases y<;>first
  |exact q.elim
  |(cases Sl.mp rx;cases Sl.mp ry;exact⟨_,_,rfl,rfl,⟨q.1,q.2.1⟩,q.2.2 _ H Ext.refl rm (Sl.mpr rfl)⟩)
theorem wB:OpR X (JT .Mod) (l2 X.K ie):=by
 refine OpR.of AR λv u H Q h=>?_;obtain⟨x,y,M,rm,rx,ry,q⟩:=h
 cases x<;>cases y<;>first
  |exact q.elim
  |(cases Sl.mp rx;cases Sl.mp ry;exact⟨_,_,rfl,rfl,q.1,q.2 _ H Ext.refl rm (Sl.mpr rfl)⟩)
theorem wD:OpR X (JT .Pow) (l2 X.K ni):=by
 refine OpR.of AS λv u H Q h=>?_;obtain⟨x,y,M,rm,rx,ry,q⟩:=h
 cases x<;>cases y<;>first
  |exact q.elim
  |(cases Sl.mp rx;cases Sl.mp ry;exact⟨_,_,rfl,rfl,⟨q.1,q.2.1,q.2.2.1⟩,q.2.2.2 _ H Ext.refl rm (Sl.mpr rfl)⟩)
noncomputable def nj:R1d
 |.int i,M,Q=>Q (.int (-i)) M
 |_,_,_=>False
theorem nk:rn nj:=by
 intro x M Q Q' h q
 cases x<;>first|exact q.elim|exact h _ _ q
theorem UnR.of{f:q7->Sem q7}{r r':V->Hp->VK->Prop}(h:UnR X f r)(i:∀v H Q,r' v H Q->r v H Q):UnR X f r':=λpins s σ H x v Q I rx q=>h pins s σ H x v Q I rx (i _ _ _ q)
theorem wF:UnR X (unaryOp .USub) (l1 X.K nj):=by
 refine UnR.of AT λv H Q h=>?_;obtain⟨x,M,rm,rx,q⟩:=h
 cases x<;>first
  |exact q.elim
  |(cases Sl.mp rx;exact⟨_,rfl,q _ H Ext.refl rm (Sl.mpr rfl)⟩)
noncomputable def aE{α β:Type}(f:α->Option β):List α->Option (List β)
 |[]=>E []
 |x::xs=>(f x).bind λy=>(aE f xs).map (y :: ·)
noncomputable def rb:Nat->Mem->D->Option Js
 |_,_,.non=>E .none
 |_,_,.bl b=>E (.bool b)
 |_,_,.int i=>E (.int i)
 |_,_,.str x=>if QE x=N2 then E (.str x)else Z
 |n+1,M,.tup ds=>(aE (rb n M) ds).map PyData.tuple
 |n+1,M,.con ds=>(aE (rb n M) ds).map Rm
 | n+1,M,.ref a=>match M a with
   |some (.lst ds)=>(aE (rb n M) ds).map Rm
   |_=>Z
 |0,_,.tup _=>Z
 |0,_,.con _=>Z
 |0,_,.ref _=>Z
 |_,_,.fn _=>Z
theorem dw{n:Nat}{M:Mem}(ih:∀d p,rb n M d=E p->p.depth<=n/\p.canLay0=N2):∀{ds:List D} {ps:List Js},aE (rb n M) ds=E ps->KD ps<=n/\JD ps=N2
 |[],ps,h=>by simp[aE]at h;subst h;exact⟨JG _,rfl⟩
 |d::ds,ps,h=>by
  simp only[aE]at h
  cases e1:rb n M d with
  |none=>rw[e1]at h;cases h
  |some p=>
   rw[e1]at h
   cases e2:aE (rb n M) ds with
   |none=>simp[e2]at h
   |some qs=>
    simp[e2]at h;subst h;obtain⟨a1,a2⟩:=ih d p e1;obtain⟨b1,b2⟩:=dw ih e2;refine⟨?_,?_⟩
    ·show max p.depth (KD qs)<=n;lia
    ·show(p.canLay0&&JD qs)=N2;rw[a2,b2];rfl
theorem cA{M:Mem}:∀(n:Nat) (d:D) (p:Js),rb n M d=E p->p.depth<=n/\p.canLay0=N2
 |n,.non,p,h=>by simp[rb]at h;subst h;exact⟨JG _,rfl⟩
 |n,.bl b,p,h=>by simp[rb]at h;subst h;exact⟨JG _,rfl⟩
 |n,.int b,p,h=>by simp[rb]at h;subst h;exact⟨JG _,rfl⟩
 |n,.str x,p,h=>by simp[rb]at h;obtain⟨h1,h2⟩:=h;subst h2;exact⟨JG _,h1⟩
 |0,.tup _,p,h=>by simp[rb]at h
 |0,.con _,p,h=>by simp[rb]at h
 |0,.ref _,p,h=>by simp[rb]at h
 |n,.fn _,p,h=>by simp[rb]at h
 |n+1,.tup ds,p,h=>by
  simp only[rb]at h
  cases e:aE (rb n M) ds with
  |none=>rw[e]at h;cases h
  |some ps=>rw[e]at h;cases h;obtain⟨a,b⟩:=dw (cA n) e;exact⟨MX a,b⟩
 |n+1,.con ds,p,h=>by
  simp only[rb]at h
  cases e:aE (rb n M) ds with
  |none=>rw[e]at h;cases h
  |some ps=>rw[e]at h;cases h;obtain⟨a,b⟩:=dw (cA n) e;exact⟨MX a,b⟩
 |n+1,.ref a,p,h=>by
  simp only[rb]at h
  cases e0:M a with
  |none=>rw[e0]at h;cases h
  |some o=>
   rw[e0]at h
   cases o with
   |dct _ _=>cases h
   |fdc _=>cases h
   |dcn _=>cases h
   |tab _ _=>cases h
   |fdn _=>cases h
   |lst ds=>
    simp only at h
    cases e:aE (rb n M) ds with
    |none=>rw[e]at h;cases h
    |some ps=>rw[e]at h;cases h;obtain⟨a,b⟩:=dw (cA n) e;exact⟨MX a,b⟩
theorem dy{K:Frag}{H:Hp}{n:Nat}{M:Mem}{h:Heap}(ih:∀d p v u,rb n M d=E p->RD K H d v->RelV v u->∃as,MB h u p as):
 ∀{ds:List D} {ps:List Js} {vs:List V} {us:List q7},aE (rb n M) ds=E ps->RDs K H ds vs->Vals vs us->∃as,Pq h us ps as
 |[],ps,vs,us,hm,r,rv=>by
  simp[aE]at hm;subst hm;rw[RDs.nil_iff.mp r]at rv
  cases rv
  exact⟨_,.nil⟩
 |d::ds,ps,vs,us,hm,r,rv=>by
  obtain⟨v,vr,rfl,j,z⟩:=Sn.mp r
  cases rv with
  |cons B F=>
   simp only[aE]at hm
   cases e1:rb n M d with
   |none=>rw[e1]at hm;cases hm
   |some p=>
    rw[e1]at hm
    cases e2:aE (rb n M) ds with
    |none=>simp[e2]at hm
    |some qs=>simp[e2]at hm;subst hm;obtain⟨as,ra⟩:=ih d p v _ e1 j B;obtain⟨bs,rbs⟩:=dy ih e2 z F;exact⟨_,.cons ra rbs⟩
theorem ca{pins:List (SS×Obj)}{σ:St}{H:Hp}{s:D1}{M:Mem}(I:Inv X pins σ H s)(rm:RM X.K M H):∀(n:Nat) (d:D) (p:Js) (v:V) (u:q7),rb n M d=E p->RD X.K H d v->RelV v u->∃as,MB s.heap u p as
 |n,.non,p,v,u,h,r,q=>by simp[rb]at h;subst h;cases SA.mp r;cases q;exact⟨_,.none⟩
 |n,.bl b,p,v,u,h,r,q=>by simp[rb]at h;subst h;cases So.mp r;cases q;exact⟨_,.bool b⟩
 |n,.int b,p,v,u,h,r,q=>by simp[rb]at h;subst h;cases Sl.mp r;obtain⟨t,rfl⟩:=q;exact⟨_,.int b t⟩
 |n,.str x,p,v,u,h,r,q=>by simp[rb]at h;obtain⟨_,h2⟩:=h;subst h2;cases Sy.mp r;obtain⟨t,rfl⟩:=q;exact⟨_,.str x t⟩
 |0,.tup _,p,_,_,h,_,_=>by simp[rb]at h
 |0,.con _,p,_,_,h,_,_=>by simp[rb]at h
 |0,.ref _,p,_,_,h,_,_=>by simp[rb]at h
 |n,.fn _,p,_,_,h,_,_=>by simp[rb]at h
 |n+1,.tup ds,p,v,u,h,r,q=>by
  simp only[rb]at h
  cases e:aE (rb n M) ds with
  |none=>rw[e]at h;cases h
  |some ps=>
   rw[e]at h;cases h;obtain⟨a,vs,rfl,j,rs⟩:=Sv r
   cases q
   obtain⟨its,rv,⟨o,ho,z,k,hd⟩,_⟩:=I.tuple j;obtain⟨as,ra⟩:=dy (ca I rm n) e rs rv;exact⟨_,.tuple ho z hd (by simpa using ra)⟩
 |n+1,.con ds,p,v,u,h,r,q=>by
  simp only[rb]at h
  cases e:aE (rb n M) ds with
  |none=>rw[e]at h;cases h
  |some ps=>
   rw[e]at h;cases h;obtain⟨a,vs,rfl,j,rs⟩:=Su.mp r
   cases q
   obtain⟨its,rv,⟨o,k,ho,z,_,hd⟩,_⟩:=I.list j.sq;obtain⟨as,ra⟩:=dy (ca I rm n) e rs rv;exact⟨_,.list ho z hd (by simpa using ra)⟩
 |n+1,.ref a,p,v,u,h,r,q=>by
  simp only[rb]at h
  cases e0:M a with
  |none=>rw[e0]at h;cases h
  |some o=>
   rw[e0]at h
   cases o with
   |dct _ _=>cases h
   |fdc _=>cases h
   |dcn _=>cases h
   |tab _ _=>cases h
   |fdn _=>cases h
   |lst ds=>
    simp only at h
    cases e:aE (rb n M) ds with
    |none=>rw[e]at h;cases h
    |some ps=>
     rw[e]at h;cases h
     cases Sm.mp r
     cases q
     obtain⟨vs,j,rs⟩:=rm _ _ e0;obtain⟨its,rv,⟨o,k,ho,z,_,hd⟩,_⟩:=I.list (SqL.of j);obtain⟨as,ra⟩:=dy (ca I rm n) e rs rv;exact⟨_,.list ho z hd (by simpa using ra)⟩
noncomputable def wEq:R2d:=λx y M Q=>∃p q,rb 16 M x=E p/\rb 16 M y=E q/\Q (.bl (Jz p q)) M
noncomputable def wNe:R2d:=λx y M Q=>∃p q,rb 16 M x=E p/\rb 16 M y=E q/\Q (.bl (!PyData.eqv p q)) M
theorem zb:aJ wEq:=λ_ _ _ _ _ h j=>(by obtain⟨p,q,a,b,c⟩:=j;exact⟨p,q,a,b,h _ _ c⟩)
theorem zc:aJ wNe:=λ_ _ _ _ _ h j=>(by obtain⟨p,q,a,b,c⟩:=j;exact⟨p,q,a,b,h _ _ c⟩)
theorem zd(F:X.A.units+16<Lk):OpR X (Ku .Eq) (l2 X.K wEq):=by intro pins s σ H x y v u Q I rx ry h;obtain⟨d,e,M,rm,rd,re,p,q,j,z,k⟩:=h;obtain⟨as,ra⟩:=ca I rm _ _ _ _ _ j rd rx;obtain⟨bs,rb'⟩:=ca I rm _ _ _ _ _ z re ry;obtain⟨J,p2⟩:=cA _ _ _ j;obtain⟨L,B⟩:=cA _ _ _ z;exact SeqAt.compareEq_reads ra rb' p2 B ∅ ⟨.bl _,H,I,rfl,k _ H Ext.refl rm (So.mpr rfl)⟩
theorem ze(F:X.A.units+16<Lk):OpR X (Ku .NotEq) (l2 X.K wNe):=by intro pins s σ H x y v u Q I rx ry h;obtain⟨d,e,M,rm,rd,re,p,q,j,z,k⟩:=h;obtain⟨as,ra⟩:=ca I rm _ _ _ _ _ j rd rx;obtain⟨bs,rb'⟩:=ca I rm _ _ _ _ _ z re ry;obtain⟨J,p2⟩:=cA _ _ _ j;obtain⟨L,B⟩:=cA _ _ _ z;exact SeqAt.compareNe_reads ra rb' p2 B ∅ ⟨.bl _,H,I,rfl,k _ H Ext.refl rm (So.mpr rfl)⟩
noncomputable def wLt:R2d
 |.int i,.int j,M,Q=>Q (.bl (decide (i<j))) M
 |_,_,_,_=>False
noncomputable def wLe:R2d
 |.int i,.int j,M,Q=>Q (.bl (decide (i<=j))) M
 |_,_,_,_=>False
noncomputable def wGt:R2d
 |.int i,.int j,M,Q=>Q (.bl (decide (j<i))) M
 |_,_,_,_=>False
noncomputable def wGe:R2d
 |.int i,.int j,M,Q=>Q (.bl (decide (j<=i))) M
 |_,_,_,_=>False
theorem zf:aJ wLt:=by
 intro x y M Q Q' h q
 cases x<;>cases y<;>first|exact q.elim|exact h _ _ q
theorem zg:aJ wLe:=by
 intro x y M Q Q' h q
 cases x<;>cases y<;>first|exact q.elim|exact h _ _ q
theorem zh:aJ wGt:=by
 intro x y M Q Q' h q
 cases x<;>cases y<;>first|exact q.elim|exact h _ _ q
theorem zi:aJ wGe:=by
 intro x y M Q Q' h q
 cases x<;>cases y<;>first|exact q.elim|exact h _ _ q
theorem zj:OpR X (Ku .Lt) (l2 X.K wLt):=by
 refine OpR.of CH λv u H Q h=>?_;obtain⟨x,y,M,rm,rx,ry,q⟩:=h
 cases x<;>cases y<;>first
  |exact q.elim
  |(cases Sl.mp rx;cases Sl.mp ry;exact⟨_,_,rfl,rfl,q _ H Ext.refl rm (So.mpr rfl)⟩)
theorem zk:OpR X (Ku .LtE) (l2 X.K wLe):=by
 refine OpR.of CI λv u H Q h=>?_;obtain⟨x,y,M,rm,rx,ry,q⟩:=h
 cases x<;>cases y<;>first
  |exact q.elim
  |(cases Sl.mp rx;cases Sl.mp ry;exact⟨_,_,rfl,rfl,q _ H Ext.refl rm (So.mpr rfl)⟩)
theorem zm:OpR X (Ku .Gt) (l2 X.K wGt):=by
 refine OpR.of CJ λv u H Q h=>?_;obtain⟨x,y,M,rm,rx,ry,q⟩:=h
 cases x<;>cases y<;>first
  |exact q.elim
  |(cases Sl.mp rx;cases Sl.mp ry;exact⟨_,_,rfl,rfl,q _ H Ext.refl rm (So.mpr rfl)⟩)
theorem zn:OpR X (Ku .GtE) (l2 X.K wGe):=by
 refine OpR.of CK λv u H Q h=>?_;obtain⟨x,y,M,rm,rx,ry,q⟩:=h
 cases x<;>cases y<;>first
  |exact q.elim
  |(cases Sl.mp rx;cases Sl.mp ry;exact⟨_,_,rfl,rfl,q _ H Ext.refl rm (So.mpr rfl)⟩)
end
end
variable{a:SS}{ds:List D}{vs:List V}{d x:D}
section
noncomputable def wIx:R2d:=λx y M Q=>match x with
 |.tup ds=>∃i d,y=.int i/\atI ds i=E d/\Q d M
 |.con ds=>∃i d,y=.int i/\atI ds i=E d/\Q d M
 |.ref a=>(∃ds i d,M a=E (.lst ds)/\y=.int i/\atI ds i=E d/\Q d M)∨(∃t kvs d,M a=E (.dct t kvs)/\iX t y=N2/\dget kvs y=E d/\Q d M)∨∃kvs d,M a=E (.fdc kvs)/\bZ y=N2/\dget kvs y=E d/\Q d M
 |_=>False
theorem q0:aJ wIx:=by
 intro x y M Q Q' h q
 cases x with
 |tup ds=>obtain⟨i,d,e,j,q⟩:=q;exact⟨i,d,e,j,h _ _ q⟩
 |con ds=>obtain⟨i,d,e,j,q⟩:=q;exact⟨i,d,e,j,h _ _ q⟩
 |ref a=>
  rcases q with⟨ds,i,d,z,j,B,q⟩|⟨t,kvs,d,z,j,B,q⟩|⟨kvs,d,z,j,B,q⟩
  ·exact .inl ⟨ds,i,d,z,j,B,h _ _ q⟩
  ·exact .inr (.inl ⟨t,kvs,d,z,j,B,h _ _ q⟩)
  ·exact .inr (.inr ⟨kvs,d,z,j,B,h _ _ q⟩)
 |_=>exact q.elim
theorem nr{i:Int}(r:RDs K H ds vs)(e:atI ds i=E d):∃v,atI vs i=E v/\RD K H d v:=by
 unfold atI at e⊢;rw[r.length]
 cases q:ixN ds.length i with
 |none=>rw[q]at e;cases e
 |some j=>rw[q]at e;exact r.get e
theorem jR{k:D}{q:Key}(r:RKey k q)(h:RD K H k v):v=kV q:=by
 cases k<;>first
  |exact r.elim
  |(cases(show q=_ from r);first|exact Sl.mp h|exact Sy.mp h)
theorem fg{K:Frag}{H:Hp}:∀{ds:List D} {ks:List Key} {vs:List V},IZ RKey ds ks->RDs K H ds vs->vs=ks.map kV
 |_,_,vs,.nil,h=>by rw[RDs.nil_iff.mp h];rfl
 |_,_,vs,.cons r t,h=>by obtain⟨v,vr,rfl,h1,h2⟩:=Sn.mp h;rw[jR r h1,fg t h2];rfl
theorem RKey.inj{e:D}{k:Key}(a:RKey d k)(b:RKey e k):d=e:=by
 cases d<;>first
  |exact a.elim
  |(cases e<;>first|exact b.elim|(cases(show k=_ from a);injection (show _=_ from b)with z;rw[z])|(cases(show k=_ from a);cases(show _=_ from b)))
theorem RKeysP.inj:∀{d e:List D} {k:List Key},IZ RKey d k->IZ RKey e k->d=e
 |_,_,_,.nil,.nil=>rfl
 |_,_,_,.cons r t,.cons r' t'=>by rw[r.inj r',RKeysP.inj t t']
theorem RKeys.inj{e:D}{k:List Key}(a:RKeys d k)(b:RKeys e k):d=e:=by
 cases d<;>first
  |exact a.elim
  |(cases e<;>first|exact b.elim|exact congrArg D.tup (RKeysP.inj a b))
theorem RKey.fun{k k':Key}(a:RKey d k)(b:RKey d k'):k=k':=by
 cases d<;>first
  |exact a.elim
  |(cases(show k=_ from a);cases(show k'=_ from b);rfl)
theorem RKeysP.fun:∀{d:List D} {k k':List Key},IZ RKey d k->IZ RKey d k'->k=k'
 |_,_,_,.nil,.nil=>rfl
 |_,_,_,.cons r t,.cons r' t'=>by rw[r.fun r',RKeysP.fun t t']
theorem RKeys.fun{k k':List Key}(a:RKeys d k)(b:RKeys d k'):k=k':=by
 cases d<;>first
  |exact a.elim
  |exact RKeysP.fun a b
section
variable{κ:Type}[DecidableEq κ]{K:Frag}{H:Hp}{RK:D->κ->Prop}(inj:∀{d e:D} {k:κ},RK d k->RK e k->d=e)(fn:∀{d:D} {k k':κ},RK d k->RK d k'->k=k')
include inj fn
theorem ig{k:D}{q:κ}(j:RK k q):∀{kvs:List (D×D)} {ps:List (κ×V)},IZ (λp r=>RK p.1 r.1/\RD K H p.2 r.2) kvs ps->
 (∀d,dget kvs k=E d->∃v,bW ps q=E v/\RD K H d v)/\(dget kvs k=Z->bW ps q=Z)
 |_,_,.nil=>⟨λd e=>by simp[dget]at e,λ_=>rfl⟩
 |_,_,.cons (a:=p) (b:=r) (l₂:=ps) B t=>by
  obtain⟨F,J⟩:=ig j t
  by_cases e:p.1=k
  ·have e':r.1=q:=by
    have h1:=B.1;rw[e]at h1;exact fn h1 j
   refine⟨λd he=>?_,λhe=>?_⟩
   ·simp[dget,Ka,e]at he;subst he;exact⟨r.2,eY e',B.2⟩
   ·simp[dget,Ka,e]at he
  ·have e':¬r.1=q:=fun z=>e (by
    have h1:=B.1;rw[z]at h1;exact inj h1 j)
   have eq1:∀l:List (D×D),dget (p::l) k=dget l k:=λl=>by simp[dget,Ka,e]
   have eq2:bW (r::ps) q=bW ps q:=eZ e';refine⟨λd he=>?_,λhe=>?_⟩
   ·rw[eq1]at he;rw[eq2];exact F d he
   ·rw[eq1]at he;rw[eq2];exact J he
end
section
variable{X:Cx}
theorem tS{ps:List (List Key×V)}{kvs:List (D×D)}{k:D}(B:Rd H a (.dT ps))(pr:IZ (λ(p:D×D) (q:List Key×V)=>RKeys p.1 q.1/\RD K H p.2 q.2) kvs ps)(ok:bZ k=N2)(rk:RD K H k v):
 ∃o,DGet H a v o/\(∀d,dget kvs k=E d->∃w,o=E w/\RD K H d w)/\(dget kvs k=Z->o=Z):=by
 obtain⟨q,j⟩:=jM ok;obtain⟨g1,g2⟩:=ig (RK:=RKeys) RKeys.inj RKeys.fun j pr;refine⟨bW ps q,?_,g1,g2⟩
 cases k<;>first
  |exact j.elim
  | (obtain⟨b,us,rfl,z,ru⟩:=SJ (jN ok) rk
     rw[fg j ru]at z;exact .inr ⟨ps,q,b,B,rfl,z,rfl⟩)
theorem q8{t:Bool}{kvs:List (D×D)}{k:D}(rm:RM K M H)(e:M a=E (.dct t kvs))(ok:iX t k=N2)(rk:RD K H k v):
 ∃o,DGet H a v o/\(∀d,dget kvs k=E d->∃w,o=E w/\RD K H d w)/\(dget kvs k=Z->o=Z):=by
 have ro:=rm a _ e
 cases t with
 |false=>obtain⟨ps,j,pr⟩:=ro;obtain⟨q,z⟩:=n9 (show fb k=N2 from ok);obtain⟨g1,g2⟩:=ig (RK:=RKey) RKey.inj RKey.fun z pr;refine⟨bW ps q,?_,g1,g2⟩;rw[jR z rk];exact DGet.k j
 |true=>obtain⟨ps,j,pr⟩:=ro;exact tS (.inl j) pr ok rk
theorem zo(j:X.A.units+1<Lk):IxR X (λx y H Q=>∃a v,x=.ref a/\DGet H a y (E v)/\Q v H):=by
 intro value slice pins s σ H x y v u Q I rx ry h hs;obtain⟨a,w,rfl,g,q⟩:=h
 cases rx
 have hd:IsD H a:=by
  rcases g with⟨kvs,k,e,_⟩|⟨kvs,k,b,e,_⟩
  ·exact .inl ⟨kvs,e⟩
  ·exact .inr ⟨kvs,e⟩
 obtain⟨z,_⟩:=iR I hd;exact tail_any z PySem.F.slot_dict_getitem.lookup (tF j I g ry λw' s' I' r'=>⟨w,H,I',r',q⟩) hs
theorem Eg(J:X.A.units+1<Lk):IxR X (l2 X.K wIx):=by
 refine IxR.of (ix_list.or (ix_tup.or (zo J))) λv u H Q h=>?_;obtain⟨x,y,M,rm,rx,ry,q⟩:=h
 cases x with
 |tup ds=>
  obtain⟨i,d,rfl,e,q⟩:=q;obtain⟨a,vs,rfl,j,rs⟩:=Sv rx
  cases Sl.mp ry
  obtain⟨w,hw,rw'⟩:=nr rs e;exact .inr (.inl ⟨a,vs,i,w,rfl,rfl,j,hw,q w H Ext.refl rm rw'⟩)
 |con ds=>
  obtain⟨i,d,rfl,e,q⟩:=q;obtain⟨a,vs,rfl,j,rs⟩:=Su.mp rx
  cases Sl.mp ry
  obtain⟨w,hw,rw'⟩:=nr rs e;exact .inl ⟨a,vs,i,w,rfl,rfl,j.sq,hw,q w H Ext.refl rm rw'⟩
 |ref a=>
  cases Sm.mp rx
  rcases q with⟨ds,i,d,z,rfl,B,q⟩|⟨t,kvs,d,z,F,B,q⟩|⟨kvs,d,z,F,B,q⟩
  ·cases Sl.mp ry
   obtain⟨vs,j,rs⟩:=rm _ _ z;obtain⟨w,hw,rw'⟩:=nr rs B;exact .inl ⟨a,vs,i,w,rfl,rfl,SqL.of j,hw,q w H Ext.refl rm rw'⟩
  ·obtain⟨o,g,g1,_⟩:=q8 rm z F ry;obtain⟨w,rfl,rw'⟩:=g1 d B;exact .inr (.inr ⟨a,w,rfl,g,q w H Ext.refl rm rw'⟩)
  ·obtain⟨ob,ps,L,pr⟩:=rm _ _ z;obtain⟨o,g,g1,_⟩:=tS (.inr ⟨ob,L⟩) pr F ry;obtain⟨w,rfl,rw'⟩:=g1 d B;exact .inr (.inr ⟨a,w,rfl,g,q w H Ext.refl rm rw'⟩)
 |_=>exact q.elim
noncomputable def ii(M:Mem):D->Option Nat
 |.tup ds=>E ds.length
 |.con ds=>E ds.length
 |.ref a=>match M a with
  |some (.lst ds)=>E ds.length
  |_=>Z
 |_=>Z
noncomputable def fh:RAd:=λxs M Q=>∃x n,xs=[x]/\ii M x=E n/\Q (.int n) M
theorem nv:aU fh:=λ_ _ _ _ h j=>(by obtain⟨x,n,e,l,q⟩:=j;exact⟨x,n,e,l,h _ _ q⟩)
theorem RDs.one(h:RDs K H [d] vs):∃v,vs=[v]/\RD K H d v:=by obtain⟨v,r,rfl,h1,h2⟩:=Sn.mp h;rw[RDs.nil_iff.mp h2];exact⟨v,rfl,h1⟩
theorem RDs.two{e:D}(h:RDs K H [d,e] vs):∃v u,vs=[v,u]/\RD K H d v/\RD K H e u:=by obtain⟨v,r,rfl,h1,h2⟩:=Sn.mp h;obtain⟨u,rfl,j⟩:=RDs.one h2;exact⟨v,u,rfl,h1,j⟩
theorem rq:CallR X (.builtin "len") (lR X.K fh):=by
 refine CallR.of vX λvs H Q h=>?_;obtain⟨ds,M,rm,rs,x,n,rfl,l,q⟩:=h;obtain⟨v,rfl,r⟩:=rs.one;refine⟨v,n,rfl,?_,q _ H Ext.refl rm (Sl.mpr rfl)⟩
 cases x with
 |tup ds=>
  cases l
  obtain⟨a,us,rfl,j,ru⟩:=Sv r;exact .inr ⟨us,j,ru.length.symm⟩
 |con ds=>
  cases l
  obtain⟨a,us,rfl,j,ru⟩:=Su.mp r;exact .inl ⟨us,j.sq,ru.length.symm⟩
 |ref a=>
  cases Sm.mp r
  simp only[ii]at l
  cases e:M a with
  |none=>rw[e]at l;cases l
  |some o=>
   rw[e]at l
   cases o with
   |dct _ _=>cases l
   |fdc _=>cases l
   |dcn _=>cases l
   |tab _ _=>cases l
   |fdn _=>cases l
   |lst ds=>
    cases l
    obtain⟨us,j,ru⟩:=rm _ _ e;exact .inl ⟨us,SqL.of j,ru.length.symm⟩
 |_=>cases l
noncomputable def jS:RAd:=λxs M Q=>∃i,xs=[.int i]/\Q (.int (if i<0 then -i else i)) M
noncomputable def iZ:RAd:=λxs M Q=>∃i j,xs=[.int i,.int j]/\Q (.int (if j > i then j else i)) M
noncomputable def j3:RAd:=λxs M Q=>∃i j,xs=[.int i,.int j]/\Q (.int (if j<i then j else i)) M
noncomputable def jT:RAd:=λxs M Q=>(∃i,xs=[.int i]/\Q (.int i) M)∨∃k,xs=[.bl k]/\Q (.int (if k then 1 else 0)) M
theorem ny:aU jS:=λ_ _ _ _ h j=>(by obtain⟨i,e,q⟩:=j;exact⟨i,e,h _ _ q⟩)
theorem kU:aU iZ:=λ_ _ _ _ h z=>(by obtain⟨i,j,e,q⟩:=z;exact⟨i,j,e,h _ _ q⟩)
theorem kW:aU j3:=λ_ _ _ _ h z=>(by obtain⟨i,j,e,q⟩:=z;exact⟨i,j,e,h _ _ q⟩)
theorem nA:aU jT:=λ_ _ _ _ h q=>q.elim (λj=>(by obtain⟨i,e,q⟩:=j;exact .inl ⟨i,e,h _ _ q⟩)) λj=>(by obtain⟨i,e,q⟩:=j;exact .inr ⟨i,e,h _ _ q⟩)
theorem rA:CallR X (.builtin "abs") (lR X.K jS):=by
 refine CallR.of vW λvs H Q h=>?_;obtain⟨ds,M,rm,rs,i,rfl,q⟩:=h;obtain⟨v,rfl,r⟩:=rs.one
 cases Sl.mp r
 exact⟨i,rfl,q _ H Ext.refl rm (Sl.mpr rfl)⟩
theorem pG(z:X.calm=N2):CallR X (.builtin "max") (lR X.K iZ):=by
 refine CallR.of (tf z) λvs H Q h=>?_;obtain⟨ds,M,rm,rs,i,j,rfl,q⟩:=h;obtain⟨v,u,rfl,B,F⟩:=rs.two
 cases Sl.mp B
 cases Sl.mp F
 exact⟨i,j,rfl,q _ H Ext.refl rm (Sl.mpr rfl)⟩
theorem pH(z:X.calm=N2):CallR X (.builtin "min") (lR X.K j3):=by
 refine CallR.of (tj z) λvs H Q h=>?_;obtain⟨ds,M,rm,rs,i,j,rfl,q⟩:=h;obtain⟨v,u,rfl,B,F⟩:=rs.two
 cases Sl.mp B
 cases Sl.mp F
 exact⟨i,j,rfl,q _ H Ext.refl rm (Sl.mpr rfl)⟩
theorem rB:CallR X (.type "int") (lR X.K jT):=by
 refine CallR.of tm λvs H Q h=>?_;obtain⟨ds,M,rm,rs,⟨i,rfl,q⟩|⟨i,rfl,q⟩⟩:=h
 ·obtain⟨v,rfl,r⟩:=rs.one
  cases Sl.mp r
  exact .inl ⟨i,rfl,q _ H Ext.refl rm (Sl.mpr rfl)⟩
 ·obtain⟨v,rfl,r⟩:=rs.one
  cases So.mp r
  exact .inr ⟨i,rfl,q _ H Ext.refl rm (Sl.mpr rfl)⟩
noncomputable def aM(M:Mem):D->Option (List D)
 |.tup ds=>E ds
 |.con ds=>E ds
 |.ref a=>match M a with
  |some (.lst ds)=>E ds
  |_=>Z
 |_=>Z
theorem tT(rm:RM K M H)(r:RD K H x v)(e:aM M x=E ds):∃p vs,v=.ref p/\(SqL K H p vs∨SqT K H p vs)/\RDs K H ds vs:=by
 cases x with
 |tup es=>
  cases e
  obtain⟨a,us,rfl,j,ru⟩:=Sv r;exact⟨a,us,rfl,.inr j,ru⟩
 |con es=>
  cases e
  obtain⟨a,us,rfl,j,ru⟩:=Su.mp r;exact⟨a,us,rfl,.inl j.sq,ru⟩
 |ref a=>
  cases Sm.mp r
  simp only[aM]at e
  cases e0:M a with
  |none=>rw[e0]at e;cases e
  |some o=>
   rw[e0]at e
   cases o with
   |dct _ _=>cases e
   |fdc _=>cases e
   |dcn _=>cases e
   |tab _ _=>cases e
   |fdn _=>cases e
   |lst es=>
    cases e
    obtain⟨us,j,ru⟩:=rm _ _ e0;exact⟨a,us,rfl,.inl (SqL.of j),ru⟩
 |_=>cases e
noncomputable def m8:RAd:=λxs M Q=>∃x ds,xs=[x]/\aM M x=E ds/\∀p,M p=Z->Q (.ref p) (ad M p (.lst ds))
noncomputable def fW:RAd:=λxs M Q=>∃x ds,xs=[x]/\aM M x=E ds/\Q (.tup ds) M
theorem kX:aU m8:=λ_ _ _ _ h j=>(by obtain⟨x,ds,e,l,q⟩:=j;exact⟨x,ds,e,l,λp n=>h _ _ (q p n)⟩)
theorem j4:aU fW:=λ_ _ _ _ h j=>(by obtain⟨x,ds,e,l,q⟩:=j;exact⟨x,ds,e,l,h _ _ q⟩)
theorem pI:CallR X (.type "list") (lR X.K m8):=by refine CallR.of mV λvs H Q h=>?_;obtain⟨ds,M,rm,rs,x,es,rfl,l,q⟩:=h;obtain⟨v,rfl,r⟩:=rs.one;obtain⟨p,us,rfl,sq,ru⟩:=tT rm r l;exact⟨p,us,rfl,sq,λl' n=>cC rm ru q n⟩
theorem nB:CallR X (.type "tuple") (lR X.K fW):=by
 refine CallR.of lW λvs H Q h=>?_;obtain⟨ds,M,rm,rs,x,es,rfl,l,q⟩:=h;obtain⟨v,rfl,r⟩:=rs.one
 cases x with
 |tup ds'=>
  cases l
  obtain⟨a,us,rfl,j,ru⟩:=Sv r;exact⟨a,us,rfl,.inr ⟨j,q _ H Ext.refl rm r⟩⟩
 |con ds'=>
  cases l
  obtain⟨a,us,rfl,j,ru⟩:=Su.mp r;exact⟨a,us,rfl,.inl ⟨j.sq,λl' n=>dJ rm ru q n⟩⟩
 |ref a=>
  cases Sm.mp r
  simp only[aM]at l
  cases e0:M a with
  |none=>rw[e0]at l;cases l
  |some o=>
   rw[e0]at l
   cases o with
   |dct _ _=>cases l
   |fdc _=>cases l
   |dcn _=>cases l
   |tab _ _=>cases l
   |fdn _=>cases l
   |lst es'=>
    cases l
    obtain⟨us,j,ru⟩:=rm _ _ e0;exact⟨a,us,rfl,.inl ⟨SqL.of j,λl' n=>dJ rm ru q n⟩⟩
 |_=>cases l
end
end
variable{e:Expr}{tA:TTd}
section
section
variable{X:Cx}
noncomputable def rC(M:Mem):D->Option Bool
 |.non=>E R9
 |.bl b=>E b
 |.int i=>E (i != 0)
 |.tup ds=>E (!ds.isEmpty)
 |.con ds=>E (!ds.isEmpty)
 |.ref a=>match M a with
  |some (.lst ds)=>E (!ds.isEmpty)
  |_=>Z
 |_=>Z
noncomputable def rE(t:TEd):TTd:=λρ M Q=>t ρ M λx M1=>∃b,rC M1 x=E b/\Q b M1
theorem wG{t:TEd}(h:ae t):aC (rE t):=λρ M Q Q' i q=>h _ _ _ _ (λx B j=>(by obtain⟨k,e,z⟩:=j;exact⟨k,e,i _ _ z⟩)) q
theorem Bh{b:Bool}(rm:RM K M H)(r:RD K H x v)(e:rC M x=E b):vT K v H b:=by
 have emp:∀{ds:List D} {vs:List V},RDs K H ds vs->(!ds.isEmpty) = !vs.isEmpty:=λ{ds vs} h=>by
  have l:=h.length
  cases ds<;>cases vs<;>first|rfl|(simp at l)
 cases x with
 |non=>cases e;cases SA.mp r;rfl
 |bl k=>cases e;cases So.mp r;rfl
 |int i=>cases e;cases Sl.mp r;rfl
 |tup ds=>
  cases e
  obtain⟨a,vs,rfl,j,rs⟩:=Sv r;exact .inr (.inl ⟨vs,j,emp rs⟩)
 |con ds=>
  cases e
  obtain⟨a,vs,rfl,j,rs⟩:=Su.mp r;exact .inl ⟨vs,j.sq,emp rs⟩
 |ref a=>
  cases Sm.mp r
  simp only[rC]at e
  cases e0:M a with
  |none=>rw[e0]at e;cases e
  |some o=>
   rw[e0]at e
   cases o with
   |dct _ _=>cases e
   |fdc _=>cases e
   |dcn _=>cases e
   |tab _ _=>cases e
   |fdn _=>cases e
   |lst ds=>
    cases e
    obtain⟨vs,j,rs⟩:=rm _ _ e0;exact .inl ⟨vs,SqL.of j,emp rs⟩
 |str _=>cases e
 |fn _=>cases e
variable{a b:Expr}{ta tb:TEd}{pos:Pos}
theorem Bi(m:ae ta)(B:PE X a (lE X.K ta))(he:∀whole,isTrue a X.env whole=(do let v <-whole;O0 a.pos;holding [v] (truthy v))):PT X a (lT X.K (rE ta)):=by refine PT.imp (vU B he) λσ H Q h=>?_;obtain⟨ρ,M,rs,rm,q⟩:=h;exact⟨ρ,M,rs,rm,m _ _ _ _ (λx O F v H1 J j z=>(by obtain⟨k,e,L⟩:=F;exact⟨k,Bh j z e,L H1 J j⟩)) q⟩
noncomputable def m9(t:TTd):TTd:=λρ M Q=>t ρ M λc M1=>Q (!c) M1
theorem tU{t:TTd}(h:aC t):aC (m9 t):=λρ M Q Q' i q=>h _ _ _ _ (λc z j=>i _ _ j) q
theorem Bj(m:aC tA)(j:PT X a (lT X.K tA)):PT X (.UnaryOp .Not a pos) (lT X.K (m9 tA)):=by refine PT.imp (AA j) λσ H Q h=>?_;obtain⟨ρ,M,rs,rm,q⟩:=h;exact⟨ρ,M,rs,rm,m _ _ _ _ (λc B z=>z) q⟩
noncomputable def md(t u:TTd):TTd:=λρ M Q=>t ρ M λc M1=>if c=N2 then u ρ M1 Q else Q R9 M1
noncomputable def rF(t u:TTd):TTd:=λρ M Q=>t ρ M λc M1=>if c=N2 then Q N2 M1 else u ρ M1 Q
theorem tV{t u:TTd}(h:aC t)(k:aC u):aC (md t u):=λρ M Q Q' i q=>h _ _ _ _ (λc z j=>by
 cases c with
 |true=>rw[if_pos rfl]at j⊢;exact k _ _ _ _ i j
 |false=>rw[if_neg Ih]at j⊢;exact i _ _ j) q
theorem wH{t u:TTd}(h:aC t)(k:aC u):aC (rF t u):=λρ M Q Q' i q=>h _ _ _ _ (λc z j=>by
 cases c with
 |true=>rw[if_pos rfl]at j⊢;exact i _ _ j
 |false=>rw[if_neg Ih]at j⊢;exact k _ _ _ _ i j) q
theorem zp(j:PT X a (lT X.K tA)):PW X (.BoolOp .And [a] pos) (lT X.K tA):=yG j
theorem Bk(j:PT X a (lT X.K tA)):PW X (.BoolOp .Or [a] pos) (lT X.K tA):=Ay j
theorem Bl{tB:TTd}{rest:List Expr}(mA:aC tA)(mB:aC tB)(F:PT X a (lT X.K tA))(J:PW X (.BoolOp .And (b::rest) pos) (lT X.K tB)):PW X (.BoolOp .And (a::b::rest) pos) (lT X.K (md tA tB)):=by
 refine PW.imp (Az F J) λσ H Q h=>?_;obtain⟨ρ,M,rs,rm,q⟩:=h;refine⟨ρ,M,rs,rm,mA _ _ _ _ (λc L z H1 B j=>?_) q⟩
 cases c with
 |true=>rw[if_pos rfl]at z⊢;exact⟨ρ,L,rs.mono (B.stab rm),j,mB _ _ _ _ (λd M2 k=>k.ext B) z⟩
 |false=>rw[if_neg Ih]at z⊢;exact z H1 B j
theorem D7{tB:TTd}{rest:List Expr}(mA:aC tA)(mB:aC tB)(F:PT X a (lT X.K tA))(J:PW X (.BoolOp .Or (b::rest) pos) (lT X.K tB)):PW X (.BoolOp .Or (a::b::rest) pos) (lT X.K (rF tA tB)):=by
 refine PW.imp (Cv F J) λσ H Q h=>?_;obtain⟨ρ,M,rs,rm,q⟩:=h;refine⟨ρ,M,rs,rm,mA _ _ _ _ (λc L z H1 B j=>?_) q⟩
 cases c with
 |true=>rw[if_pos rfl]at z⊢;exact z H1 B j
 |false=>rw[if_neg Ih]at z⊢;exact⟨ρ,L,rs.mono (B.stab rm),j,mB _ _ _ _ (λd M2 k=>k.ext B) z⟩
noncomputable def mf(ta tb:TEd):TEd:=λρ M Q=>ta ρ M λx M1=>∃c,x=.bl c/\if c=N2 then tb ρ M1 Q else Q (.bl R9) M1
noncomputable def rG(ta tb:TEd):TEd:=λρ M Q=>ta ρ M λx M1=>∃c,x=.bl c/\if c=N2 then Q (.bl N2) M1 else tb ρ M1 Q
noncomputable def mj(ta:TEd):TEd:=λρ M Q=>ta ρ M λx M1=>∃c,x=.bl c/\Q (.bl (!c)) M1
theorem tW(h:ae ta)(k:ae tb):ae (mf ta tb):=λρ M Q Q' i q=>h _ _ _ _ (λx z ⟨c,e,j⟩=>⟨c,e,by
 cases c with
 |true=>rw[if_pos rfl]at j⊢;exact k _ _ _ _ i j
 |false=>rw[if_neg Ih]at j⊢;exact i _ _ j⟩) q
theorem wJ(h:ae ta)(k:ae tb):ae (rG ta tb):=λρ M Q Q' i q=>h _ _ _ _ (λx z ⟨c,e,j⟩=>⟨c,e,by
 cases c with
 |true=>rw[if_pos rfl]at j⊢;exact i _ _ j
 |false=>rw[if_neg Ih]at j⊢;exact k _ _ _ _ i j⟩) q
theorem tX(h:ae ta):ae (mj ta):=λρ M Q Q' i q=>h _ _ _ _ (λx B j=>(by obtain⟨c,e,z⟩:=j;exact⟨c,e,i _ _ z⟩)) q
theorem tY{op:BoolOp}{t:TEd}(h:PE X a (lE X.K t)):PE X (.BoolOp op [a] pos) (lE X.K t):=AB h
theorem Bm{rest:List Expr}(ma:ae ta)(mb:ae tb)(J:PE X a (lE X.K ta))(L:PE X (.BoolOp .And (b::rest) pos) (lE X.K tb)):PE X (.BoolOp .And (a::b::rest) pos) (lE X.K (mf ta tb)):=by
 refine PE.imp (AC J L) λσ H Q h=>?_;obtain⟨ρ,M,rs,rm,q⟩:=h;refine⟨ρ,M,rs,rm,ma _ _ _ _ (λx O g9 v H1 B j F=>?_) q⟩;obtain⟨c,e,z⟩:=g9;subst e;refine⟨c,So.mp F,?_⟩
 cases c with
 |true=>rw[if_pos rfl]at z⊢;exact⟨ρ,O,rs.mono (B.stab rm),j,mb _ _ _ _ (λd M2 k=>k.ext B) z⟩
 |false=>rw[if_neg Ih]at z⊢;exact z _ H1 B j (So.mpr rfl)
theorem D8{rest:List Expr}(ma:ae ta)(mb:ae tb)(J:PE X a (lE X.K ta))(L:PE X (.BoolOp .Or (b::rest) pos) (lE X.K tb)):PE X (.BoolOp .Or (a::b::rest) pos) (lE X.K (rG ta tb)):=by
 refine PE.imp (Cz J L) λσ H Q h=>?_;obtain⟨ρ,M,rs,rm,q⟩:=h;refine⟨ρ,M,rs,rm,ma _ _ _ _ (λx O g9 v H1 B j F=>?_) q⟩;obtain⟨c,e,z⟩:=g9;subst e;refine⟨c,So.mp F,?_⟩
 cases c with
 |true=>rw[if_pos rfl]at z⊢;exact z _ H1 B j (So.mpr rfl)
 |false=>rw[if_neg Ih]at z⊢;exact⟨ρ,O,rs.mono (B.stab rm),j,mb _ _ _ _ (λd M2 k=>k.ext B) z⟩
theorem Bn(ma:ae ta)(B:PE X a (lE X.K ta)):PE X (.UnaryOp .Not a pos) (lE X.K (mj ta)):=by refine PE.imp (AD B) λσ H Q h=>?_;obtain⟨ρ,M,rs,rm,q⟩:=h;refine⟨ρ,M,rs,rm,ma _ _ _ _ (λx L g9 v H1 J j z=>?_) q⟩;obtain⟨c,e,F⟩:=g9;subst e;exact⟨c,So.mp z,F _ H1 J j (So.mpr rfl)⟩
noncomputable def wIf(t:TTd)(ta tb:TEd):TEd:=λρ M Q=>t ρ M λc M1=>if c=N2 then ta ρ M1 Q else tb ρ M1 Q
theorem zq{t:TTd}(h:aC t)(z:ae ta)(B:ae tb):ae (wIf t ta tb):=λρ M Q Q' i q=>h _ _ _ _ (λc F j=>by
 cases c with
 |true=>rw[if_pos rfl]at j⊢;exact z _ _ _ _ i j
 |false=>rw[if_neg Ih]at j⊢;exact B _ _ _ _ i j) q
theorem D9{c:Expr}{t:TTd}(mt:aC t)(ma:ae ta)(mb:ae tb)(J:PT X c (lT X.K t))(L:PE X a (lE X.K ta))(O:PE X b (lE X.K tb)):PE X (.IfExp c a b pos) (lE X.K (wIf t ta tb)):=by
 refine PE.imp (vN J L O) λσ H Q h=>?_;obtain⟨ρ,M,rs,rm,q⟩:=h;refine⟨ρ,M,rs,rm,mt _ _ _ _ (λx F z H1 B j=>?_) q⟩
 cases x with
 |true=>rw[if_pos rfl]at z⊢;exact⟨ρ,F,rs.mono (B.stab rm),j,ma _ _ _ _ (λd M2 k=>k.ext B) z⟩
 |false=>rw[if_neg Ih]at z⊢;exact⟨ρ,F,rs.mono (B.stab rm),j,mb _ _ _ _ (λd M2 k=>k.ext B) z⟩
noncomputable def fj(xs:List D)(lo hi:Option Int):List D:=(xs.drop (HT.sIx xs.length 0 lo)).take (HT.sIx xs.length xs.length hi-HT.sIx xs.length 0 lo)
theorem nC(r:RDs K H ds vs)(lo hi:Option Int):RDs K H (fj ds lo hi) (fQ vs lo hi):=by unfold fj fQ;rw[r.length];exact(r.drop _).take _
noncomputable abbrev TOd:=am->Mem->(Option Int->Mem->Prop)->Prop
def fq(T:TOd):Prop:=∀ρ M Q Q',(∀d M',Q d M'->Q' d M')->T ρ M Q->T ρ M Q'
noncomputable def gD:TOd:=λ_ M Q=>Q Z M
noncomputable def mm(t:TEd):TOd:=λρ M Q=>t ρ M λx M1=>∃i,x=.int i/\Q (E i) M1
theorem pJ:fq gD:=λ_ _ _ _ h q=>h _ _ q
theorem tZ(h:ae ta):fq (mm ta):=λρ M Q Q' i q=>h _ _ _ _ (λx B j=>(by obtain⟨c,e,z⟩:=j;exact⟨c,e,i _ _ z⟩)) q
noncomputable def lO(K:Frag)(T:TOd):TO:=λσ H Q=>∃ρ M,RS K H σ ρ/\RM K M H/\T ρ M (λo M'=>∀H',Ext M H M' H'->RM K M' H'->Q o H')
theorem zr:PO X Z (lO X.K gD):=λpins s σ H Q I h=>by obtain⟨ρ,M,rs,rm,q⟩:=h;exact yS pins s σ H Q I (q H Ext.refl rm)
theorem zt(m:ae ta)(h:PE X e (lE X.K ta)):PO X (E e) (lO X.K (mm ta)):=λpins s σ H Q I hq=>by obtain⟨ρ,M,rs,rm,q⟩:=hq;refine yT h pins s σ H Q I ⟨ρ,M,rs,rm,m _ _ _ _ (λx J g9 v H1 F j z=>?_) q⟩;obtain⟨i,e,B⟩:=g9;subst e;exact⟨i,Sl.mp z,B H1 F j⟩
noncomputable def dY:D->Option Int->Option Int->Mem->QD->Prop:=λx lo hi M Q=>match x with
 |.tup ds=>Q (.tup (fj ds lo hi)) M
 |.ref a=>∃ds,M a=E (.lst ds)/\∀p,M p=Z->Q (.ref p) (ad M p (.lst (fj ds lo hi)))
 |.con ds=>∀p,M p=Z->Q (.ref p) (ad M p (.lst (fj ds lo hi)))
 |_=>False
noncomputable def wSl(te:TEd)(tl th:TOd):TEd:=λρ M Q=>te ρ M λx M1=>tl ρ M1 λl M2=>th ρ M2 λu M3=>dY x l u M3 Q
theorem rH{lo hi:Option Int}{Q Q':QD}(h:∀d M',Q d M'->Q' d M')(q:dY x lo hi M Q):dY x lo hi M Q':=by
 cases x with
 |tup ds=>exact h _ _ q
 |ref a=>obtain⟨ds,e,q⟩:=q;exact⟨ds,e,λp n=>h _ _ (q p n)⟩
 |con ds=>exactλp n=>h _ _ (q p n)
 |_=>exact q.elim
theorem zu{tl th:TOd}(m:ae ta)(ml:fq tl)(mh:fq th):ae (wSl ta tl th):=λρ M Q Q' i q=>m _ _ _ _ (λx F j=>ml _ _ _ _ (λl M2 z=>mh _ _ _ _ (λu J B=>rH i B) z) j) q
theorem Da{lo hi:Option Expr}{tl th:TOd}{p2:Pos}(m:ae ta)(ml:fq tl)(mh:fq th)(he:PE X e (lE X.K ta))(hl:PO X lo (lO X.K tl))(hu:PO X hi (lO X.K th)):
 PE X (.Subscript e (.Slice lo hi Z p2) pos) (lE X.K (wSl ta tl th)):=by
 refine PE.imp (w4 (sl_tup.or (sl_list.or wa)) he hl hu) λσ H Q h=>?_;obtain⟨ρ,M,rs,rm,q⟩:=h;refine⟨ρ,M,rs,rm,m _ _ _ _ (λx M1 q1 v H1 U J Y=>?_) q⟩;refine⟨ρ,M1,rs.mono (U.stab rm),J,ml _ _ _ _ (λl M2 q2 H2 F2 O=>?_) q1⟩;refine⟨ρ,M2,(rs.mono (U.stab rm)).mono (F2.stab J),O,mh _ _ _ _ (λu M3 z H3 x3 j=>?_) q2⟩;have B:=U.trans (F2.trans x3);have F:=(Y.mono (F2.stab J)).mono (x3.stab O)
 cases x with
 |tup ds=>
  obtain⟨a,vs,rfl,L,r⟩:=Sv F
  by_cases hw:HT.sIx vs.length 0 l=0/\HT.sIx vs.length vs.length u=vs.length
  ·refine .inr (.inr ⟨a,vs,rfl,L,hw,?_⟩);have e:fj ds l u=ds:=by
    unfold fj;rw[<-r.length,hw.1,hw.2,r.length];simp
   simp only[dY]at z;rw[e]at z;exact z.ext B _ H3 Ext.refl j F
  ·simp only[dY]at z;exact .inl ⟨a,vs,rfl,L,hw,λp n=>dJ j (nC r l u) (z.ext B) n⟩
 |ref a=>
  cases Sm.mp F
  obtain⟨ds,e,z⟩:=z;obtain⟨vs,L,r⟩:=j _ _ e;exact .inr (.inl ⟨a,vs,rfl,SqL.of L,λp n=>cC j (nC r l u) (λp' n'=>(z p' n').ext B) n⟩)
 |con ds=>obtain⟨a,vs,rfl,L,r⟩:=Su.mp F;exact .inr (.inl ⟨a,vs,rfl,L.sq,λp n=>cC j (nC r l u) (λp' n'=>(z p' n').ext B) n⟩)
 |_=>exact z.elim
end
end
variable{pos:Pos}{tg:Expr}{ta:TAd}{H1:Hp}
section
section
variable{X:Cx}
noncomputable def wBM(rd:D->List D->Mem->QD->Prop)(to:TEd)(t:TAd):TEd:=λρ M Q=>to ρ M λx M1=>(∃a xs,x=.ref a/\M1 a=E (.lst xs))/\t ρ M1 λds M2=>rd x ds M2 Q
def gE(rd:D->List D->Mem->QD->Prop):Prop:=∀x ds M Q Q',(∀d M',Q d M'->Q' d M')->rd x ds M Q->rd x ds M Q'
theorem zw{rd:D->List D->Mem->QD->Prop}{to:TEd}{t:TAd}(j:gE rd)(mo:ae to)(mt:aY t):ae (wBM rd to t):=λρ M Q Q' i q=>mo _ _ _ _ (λx J z=>(by obtain⟨e,B⟩:=z;exact⟨e,mt _ _ _ _ (λds M2 F=>j _ _ _ _ _ i F) B⟩)) q
theorem Db(rm:RM K M H)(r:RD K H x v)(h:∃a xs,x=.ref a/\M a=E (.lst xs)):tyV K "list" v H:=by
 obtain⟨a,xs,rfl,e⟩:=h
 cases Sm.mp r
 obtain⟨vs,j,_⟩:=rm _ _ e;exact .inl ⟨rfl,vs,SqL.of j⟩
theorem jU{rd:D->List D->Mem->QD->Prop}{r:V->List V->Hp->VK->Prop}{to:TEd}{t:TAd}(O:gE rd)(mo:ae to)(mt:aY t)(U:∀v vs H Q,lMt K rd v vs H Q->r v vs H Q)(σ:St)(H:Hp)(Q:VK)(h:lE K (wBM rd to t) σ H Q):tBM K "list" r (lE K to) (lA K t) σ H Q:=by obtain⟨ρ,M,rs,rm,q⟩:=h;refine⟨ρ,M,rs,rm,mo _ _ _ _ (λx Y ⟨e,F2⟩ v H1 J j z=>⟨Db j z e,?_⟩) q⟩;refine⟨ρ,Y,rs.mono (J.stab rm),j,mt _ _ _ _ (λds M2 q2 vs H2 L B F=>?_) F2⟩;exact U v vs H2 Q ⟨x,ds,M2,B,z.mono (L.stab j),F,O _ _ _ _ _ (λd M' k=>k.ext (J.trans L)) q2⟩
noncomputable def gF:D->List D->Mem->QD->Prop:=λx ds M Q=>∃a xs y,x=.ref a/\ds=[y]/\M a=E (.lst xs)/\xs.length<HZ/\Q .non (ad M a (.lst (xs++[y])))
noncomputable def gG:D->List D->Mem->QD->Prop:=λx ds M Q=>∃a b xs ys,x=.ref a/\ds=[.ref b]/\M a=E (.lst xs)/\M b=E (.lst ys)/\xs.length+ys.length<=HZ/\Q .non (ad M a (.lst (xs++ys)))
theorem i3:gE gF:=λ_ _ _ _ _ h j=>(by obtain⟨a,xs,y,B,F,J,z,q⟩:=j;exact⟨a,xs,y,B,F,J,z,h _ _ q⟩)
theorem i4:gE gG:=λ_ _ _ _ _ h j=>(by obtain⟨a,b,xs,y,B,F,J,L,z,q⟩:=j;exact⟨a,b,xs,y,B,F,J,L,z,h _ _ q⟩)
theorem jV{o0:O}(rm:RM K M H)(m:M a=E o0)(rd:RDs K H ds vs)(r:RD K H d v)(q:KE' K M H Q d (ad M a (.lst ds)))(w:fz (E o0)=R9:=by rfl):
 Q v (upd H a (.lst vs)):=by
 have st:Stab H (upd H a (.lst vs)):=rm.stabPut m w;exact q v _ (Ext.put m w) (rm.put m ⟨vs,az,rd.mono st⟩ w) (r.mono st)
theorem wK(v:V)(vs:List V)(H:Hp)(Q:VK)(h:lMt K gF v vs H Q):pW v vs H Q:=by
 obtain⟨x,ds,M,rm,rx,rs,a,xs,y,rfl,rfl,e,z,q⟩:=h
 cases Sm.mp rx
 obtain⟨w,rfl,rw'⟩:=rs.one;obtain⟨us,j,ru⟩:=rm _ _ e;exact⟨a,us,w,rfl,rfl,j,by rw[ru.length];exact z,jV rm e (ru.append (RDs.cons rw' RDs.nil)) (SA.mpr rfl) q⟩
theorem wL(v:V)(vs:List V)(H:Hp)(Q:VK)(h:lMt K gG v vs H Q):pX v vs H Q:=by
 obtain⟨x,ds,M,rm,rx,rs,a,b,xs,y,rfl,rfl,e,B,z,q⟩:=h
 cases Sm.mp rx
 obtain⟨w,rfl,rw'⟩:=rs.one
 cases Sm.mp rw'
 obtain⟨us,F,ru⟩:=rm _ _ e;obtain⟨ws,J,j⟩:=rm _ _ B;have l1:=ru.length;have l2:=j.length;exact⟨a,b,us,ws,rfl,rfl,F,J,∅,jV rm e (ru.append j) (SA.mpr rfl) q⟩
noncomputable abbrev BT:=D->am->Option am
noncomputable abbrev BTs:=List D->am->Option am
noncomputable def bh(i:Nat):BT:=λd ρ=>E (ρ.set i (E d))
noncomputable def fX:BTs:=λds ρ=>match ds with|[]=>E ρ|_=>Z
noncomputable def bX(b:BT)(bs:BTs):BTs:=λds ρ=>match ds with|d::r=>(b d ρ).bind λρ'=>bs r ρ'|[]=>Z
noncomputable def rJ(bs:BTs):BT:=λd ρ=>match d with|.tup ds=>bs ds ρ|_=>Z
noncomputable def lG(K:Frag)(b:BT):TG:=λv σ H Q=>∃d ρ ρ',RD K H d v/\RS K H σ ρ/\b d ρ=E ρ'/\∀σ',RS K H σ' ρ'->Q σ' H
noncomputable def lGs(K:Frag)(b:BTs):TGs:=λvs σ H Q=>∃ds ρ ρ',RDs K H ds vs/\RS K H σ ρ/\b ds ρ=E ρ'/\∀σ',RS K H σ' ρ'->Q σ' H
theorem PG.imp{t t':TG}(h:PG X e t)(i:∀v σ H Q,t' v σ H Q->t v σ H Q):PG X e t':=λpins s σ H v u Q I r q=>h pins s σ H v u Q I r (i _ _ _ _ q)
theorem PGs.imp{e:List Expr}{t t':TGs}(h:PGs X e t)(i:∀v σ H Q,t' v σ H Q->t v σ H Q):PGs X e t':=λpins s σ H v u Q I r q=>h pins s σ H v u Q I r (i _ _ _ _ q)
theorem zx{i:Nat}{x:Str}(j:X.N.Nodup)(hi:X.N[i]?=E x)(hx:Loc X.env.scope x)(hf:X.fn x=N2∨X.env.scope.names.lookup x=E .local):PG X (.Name x pos) (lG X.K (bh i)):=
 PG.imp (pT j hi hx hf) λv σ H Q ⟨d,ρ,ρ',r,rs,e,q⟩=>by
  cases e
  exact q _ (rs.set i r)
theorem zy:PGs X [] (lGs X.K fX):=PGs.imp yK λvs σ H Q ⟨ds,ρ,ρ',r,rs,e,q⟩=>by
 cases ds with
 |nil=>cases e;exact⟨RDs.nil_iff.mp r,q σ rs⟩
 |cons _ _=>cases e
theorem wM{es:List Expr}{b:BT}{bs:BTs}(h1:PG X e (lG X.K b))(h2:PGs X es (lGs X.K bs))(hs:(Kg (e::es) X.env).map (·.2)=assign e X.env::(Kg es X.env).map (·.2)):
 PGs X (e::es) (lGs X.K (bX b bs)):=PGs.imp (vQ h1 h2 hs) λvs σ H Q ⟨ds,ρ,ρ',r,rs,e,q⟩=>by
 cases ds with
 |nil=>cases e
 |cons d ds=>
  obtain⟨v,vr,rfl,z,B⟩:=Sn.mp r;simp only[bX]at e
  cases j:b d ρ with
  |none=>rw[j]at e;cases e
  |some ρ1=>rw[j]at e;exact⟨v,vr,rfl,d,ρ,ρ1,z,rs,j,λσ' rs'=>⟨ds,ρ1,ρ',B,rs',e,q⟩⟩
theorem Bo{es:List Expr}{k:Nat}{bs:BTs}{n:Nat}(z:X.calm=N2)(hlen:∀ds ρ ρ',bs ds ρ=E ρ'->ds.length=n)(h:PGs X es (lGs X.K bs))(B:(Kg es X.env).length=n)(j:(Kg es X.env).findIdx? (·.1)=Z):
 PG X (.Tuple es k pos) (lG X.K (rJ bs)):=PG.imp (AI z h B j) λv σ H Q ⟨d,ρ,ρ',r,rs,e,q⟩=>by
 cases d with
 |tup ds=>obtain⟨a,vs,rfl,F,rv⟩:=Sv r;exact⟨a,vs,rfl,F,by rw[rv.length];exact hlen _ _ _ e,ds,ρ,ρ',rv,rs,e,q⟩
 |_=>cases e
noncomputable abbrev TId:=am->Mem->(List D->(Mem->Prop)->Mem->Prop)->Prop
def cj(T:TId):Prop:=∀ρ M Q Q',(∀xs c M',Q xs c M'->Q' xs c M')->T ρ M Q->T ρ M Q'
def Yl(H H':Hp):Prop:=H'=H∨∃q vs,H q=Z/\H'=upd H q (.tup vs)
def fY(K:Frag)(H1:Hp)(xs:List D)(chk:Mem->Prop)(J:It):Prop:=∀M H,Stab H1 H->RM K M H->chk M->∀i,(xs.length<=i->J.stop i H)/\(i<xs.length->J.go i H /\
 ∀x H',J.yld i H x H'->Yl H H'/\∃d,xs[i]?=E d/\RD K H' d x)
noncomputable def lI(K:Frag)(T:TId):TI:=λσ H R=>∃ρ M,RS K H σ ρ/\RM K M H/\T ρ M (λxs chk M1=>∀J H1,Ext M H M1 H1->RM K M1 H1->fY K H1 xs chk J->R J H1)
theorem PI.imp{t t':TI}(h:PI X tg e t)(i:∀σ H Q,t' σ H Q->t σ H Q):PI X tg e t':=λpins s σ H Q I q=>h pins s σ H Q I (i _ _ _ q)
theorem Yl.ext{H':Hp}(rm:RM K M H)(y:Yl H H'):Ext M H M H'/\RM K M H':=by
 rcases y with rfl|⟨q,vs,n,rfl⟩
 ·exact⟨Ext.refl,rm⟩
 ·exact⟨SE n,rm.new n⟩
noncomputable def Eh(K:Frag)(tl:TE):TI:=λσ H R=>tl σ H λx H1=>∃a,x=.ref a/\(((∃xs,SqL K H1 a xs)/\R (Itl K a) H1)∨((∃xs,SqT K H1 a xs)/\R (Itt K a) H1))
theorem Bp{l:Expr}{tl:TE}(F:PE X l tl):PI X tg l (Eh X.K tl):=by
 intro pins s σ H R I h;refine thn (F pins s σ H _ I h) λv s1 J=>?_;obtain⟨x,H1,j,L,O⟩:=J;obtain⟨a,e,q⟩:=O;subst e
 cases L
 rcases q with⟨⟨xs,z⟩,q⟩|⟨⟨xs,z⟩,q⟩
 ·obtain⟨its,rv,p,U⟩:=j.list z;refine Kx p.isList ?_;refine⟨s1.heap.objs.size,[s1.heap.objs.size],_,_,H1,rfl,j.kept (t':=s1.toks) λb o e=>tv _ e,t6 a _,⟨_,I9 _ rfl,rfl,rfl⟩,λb B=>?_,q⟩;have e:b=s1.heap.objs.size:=by simpa using B
  subst e;exact j.fpOk (HW _) (j.hok.fresh (HW _))
 ·obtain⟨its,rv,p,U⟩:=j.tuple z;refine JX (show s1.heap.IsTuple a its.toArray from p) ?_;refine⟨s1.heap.objs.size,[s1.heap.objs.size],_,_,H1,rfl,j.kept (t':=s1.toks) λb o e=>tv _ e,qW a _,⟨_,I9 _ rfl,rfl,rfl⟩,λb B=>?_,q⟩;have e:b=s1.heap.objs.size:=by simpa using B
  subst e;exact j.fpOk (HW _) (j.hok.fresh (HW _))
noncomputable def rK(ta:TEd):TId:=λρ M R=>ta ρ M λx M1=>∃ds,aM M1 x=E ds/\R ds (λM=>aM M x=E ds) M1
theorem wN{ta:TEd}(h:ae ta):cj (rK ta):=λρ M Q Q' i q=>h _ _ _ _ (λx B j=>(by obtain⟨ds,e,z⟩:=j;exact⟨ds,e,i _ _ _ z⟩)) q
theorem u3{chk:Mem->Prop}(h:∀M H,Stab H1 H->RM K M H->chk M->∃vs,SqL K H a vs/\RDs K H ds vs):fY K H1 ds chk (Itl K a):=λM H st rm c i=>by
 obtain⟨vs,sq,r⟩:=h M H st rm c;have l:=r.length;refine⟨λhi=>⟨vs,sq,∅⟩,λhi=>⟨⟨vs,vs[i]'∅,sq,r4 ∅⟩,λx H' y=>?_⟩⟩
 obtain⟨e,y⟩:=y;subst e;exact⟨.inl rfl,r.getV (y vs sq)⟩
theorem Bq{chk:Mem->Prop}(h:∀M H,Stab H1 H->RM K M H->chk M->∃vs,SqT K H a vs/\RDs K H ds vs):fY K H1 ds chk (Itt K a):=λM H st rm c i=>by
 obtain⟨vs,sq,r⟩:=h M H st rm c;have l:=r.length;refine⟨λhi=>⟨vs,sq,∅⟩,λhi=>⟨⟨vs,vs[i]'∅,sq,r4 ∅⟩,λx H' y=>?_⟩⟩
 obtain⟨e,y⟩:=y;subst e;exact⟨.inl rfl,r.getV (y vs sq)⟩
theorem Br{l:Expr}{ta:TEd}(m:ae ta)(J:PE X l (lE X.K ta)):PI X tg l (lI X.K (rK ta)):=by
 refine PI.imp (Bp J) λσ H R h=>?_;obtain⟨ρ,M,rs,rm,q⟩:=h;refine⟨ρ,M,rs,rm,m _ _ _ _ (λx O g9 v H1 F j rd1=>?_) q⟩;obtain⟨ds,e,B⟩:=g9
 cases x with
 |tup es=>
  cases e
  obtain⟨a,vs,rfl,z,rv⟩:=Sv rd1;exact⟨a,rfl,.inr ⟨⟨vs,z⟩,B _ H1 F j (Bq λM' H' st _ _=>⟨vs,st.sqT z,rv.mono st⟩)⟩⟩
 |con es=>
  cases e
  obtain⟨a,vs,rfl,z,rv⟩:=Su.mp rd1;exact⟨a,rfl,.inl ⟨⟨vs,z.sq⟩,B _ H1 F j (u3 λM' H' st _ _=>⟨vs,(st.sqF z).sq,rv.mono st⟩)⟩⟩
 |ref a=>
  cases Sm.mp rd1
  have get:∀{M':Mem} {es:List D},aM M' (.ref a)=E es->M' a=E (.lst es):=λ{M' es} e=>by
   simp only[aM]at e
   cases e0:M' a with
   |none=>rw[e0]at e;cases e
   |some o=>
    rw[e0]at e
    cases o with
    |dct _ _=>cases e
    |fdc _=>cases e
    |dcn _=>cases e
    |tab _ _=>cases e
    |fdn _=>cases e
    |lst es'=>cases e;rfl
  obtain⟨vs,z,rv⟩:=j _ _ (get e);exact⟨a,rfl,.inl ⟨⟨vs,SqL.of z⟩,B _ H1 F j (u3 λM' H' st rm' c=>by obtain⟨us,L,ru⟩:=rm' _ _ (get c);exact⟨us,SqL.of L,ru⟩)⟩⟩
 |_=>cases e
noncomputable def ce(lo:Int)(n:Nat):List D:=(HV n).map λi=>.int (lo+(i:Nat))
theorem u4{lo:Int}{n:Nat}:fY K H1 (ce lo n) (λ_=>True) (Itr lo n):=λM H st rm c i=>by
 have l:(ce lo n).length=n:=by simp[ce]
 refine⟨λhi=>by show n<=i;lia,λhi=>⟨by show i<n;lia,λx H' y=>?_⟩⟩
 obtain⟨e,y⟩:=y;subst e y;refine⟨.inl rfl,.int (lo+i),?_,Sl.mpr rfl⟩;simp only[ce,I8,K8 (show i<n by lia),LF]
noncomputable def mn(ta:TAd):TId:=λρ M R=>ta ρ M λds M1=>∃j:Int,ds=[.int j] /\ -(2^62)<=j/\j<2^62/\R (ce 0 j.toNat) (λ_=>True) M1
noncomputable def mq(ta:TAd):TId:=λρ M R=>ta ρ M λds M1=>∃i j:Int,ds=[.int i,.int j]/\(-(2^62)<=i/\i<2^62 /\ -(2^62)<=j/\j<2^62)/\R (ce i (j-i).toNat) (λ_=>True) M1
theorem u5(h:aY ta):cj (mn ta):=λρ M Q Q' i q=>h _ _ _ _ (λx F z=>(by obtain⟨j,e,a,b,B⟩:=z;exact⟨j,e,a,b,i _ _ _ B⟩)) q
theorem u6(h:aY ta):cj (mq ta):=λρ M Q Q' i q=>h _ _ _ _ (λx F z=>(by obtain⟨k,j,e,a,B⟩:=z;exact⟨k,j,e,a,i _ _ _ B⟩)) q
theorem zz{a:Expr}{p:Pos}(m:aY ta)(B:Gl X "range")(hm:X.mg "range"=Z)(F:PA X [a] (lA X.K ta))(hs:IG [a] X.env=[(R9,eval a X.env)]):PI X tg (.Call (.Name "range" p) [a] [] pos) (lI X.K (mn ta)):=by
 refine PI.imp (t7 B hm F hs) λσ H R h=>?_;obtain⟨ρ,M,rs,rm,q⟩:=h;refine⟨ρ,M,rs,rm,m _ _ _ _ (λds Y g9 vs H1 U z rd1=>?_) q⟩;obtain⟨j,e,J,L,O⟩:=g9;subst e;obtain⟨v,rfl,r⟩:=rd1.one
 cases Sl.mp r
 exact⟨j,rfl,J,L,O _ H1 U z u4⟩
theorem zA{a b:Expr}{p:Pos}(m:aY ta)(J:Gl X "range")(hm:X.mg "range"=Z)(L:PA X [a,b] (lA X.K ta))(hs:IG [a,b] X.env=[(R9,eval a X.env),(R9,eval b X.env)])(B:IG [b] X.env=[(R9,eval b X.env)]):
 PI X tg (.Call (.Name "range" p) [a,b] [] pos) (lI X.K (mq ta)):=by
 refine PI.imp (t8 J hm L hs B) λσ H R h=>?_;obtain⟨ρ,M,rs,rm,q⟩:=h;refine⟨ρ,M,rs,rm,m _ _ _ _ (λds M1 g9 vs H1 U F rd1=>?_) q⟩;obtain⟨i,j,e,z,O⟩:=g9;subst e;obtain⟨v,u,rfl,Y,F2⟩:=rd1.two
 cases Sl.mp Y
 cases Sl.mp F2
 exact⟨i,j,rfl,z,O _ H1 U F u4⟩
end
end
end Mi
namespace Mi
end Mi
namespace Mi
variable{K:Frag}{M:Mem}{H H1:Hp}{x:D}{ta:TEd}{xs:List D}{pos pos':Pos}
section
section
variable{X:Cx}
noncomputable def isT:D->Bool|.tup _=>N2|_=>R9
theorem eN{ds:List D}{v:V}(rm:RM K M H)(r:RD K H x v)(e:aM M x=E ds):∃p vs,v=.ref p/\SqV K (isT x) H p vs/\RDs K H ds vs:=by
 cases x with
 |tup es=>
  cases e
  obtain⟨a,vs,rfl,j,rv⟩:=Sv r;exact⟨a,vs,rfl,j,rv⟩
 |con es=>
  cases e
  obtain⟨a,vs,rfl,j,rv⟩:=Su.mp r;exact⟨a,vs,rfl,j.sq,rv⟩
 |ref a=>
  cases Sm.mp r
  simp only[aM]at e
  cases e0:M a with
  |none=>rw[e0]at e;cases e
  |some o=>
   rw[e0]at e
   cases o with
   |dct _ _=>cases e
   |fdc _=>cases e
   |dcn _=>cases e
   |tab _ _=>cases e
   |fdn _=>cases e
   |lst es=>
    cases e
    obtain⟨vs,j,rv⟩:=rm _ _ e0;exact⟨a,vs,rfl,SqL.of j,rv⟩
 |_=>cases e
noncomputable def gH(x y:D):D:=.tup [x,y]
noncomputable def jW(ta tb:TEd):TId:=λρ M R=>aH ta (aH tb bD) ρ M λds M1=>∃x y xs ys,ds=[x,y]/\aM M1 x=E xs/\aM M1 y=E ys/\R (LV gH xs ys) (λM=>aM M x=E xs/\aM M y=E ys) M1
theorem wP{tb:TEd}(j:ae ta)(z:ae tb):cj (jW ta tb):=λρ M Q Q' i q=>aq j (aq z aw) _ _ _ _ (λds O B=>(by obtain⟨x,y,xs,ys,e,F,J,L⟩:=B;exact⟨x,y,xs,ys,e,F,J,i _ _ _ L⟩)) q
theorem nE{p:SS}{o:HO}(n:H p=Z):Stab H (upd H p o):=⟨λa xs e=>by rw[aj (λz=>by rw[z,n]at e;cases e)];exact e,λa o u e=>by rw[aj (λz=>by rw[z,n]at e;cases e)];exact e⟩
theorem Bt{y:D}{ys:List D}{a b:SS}(rx:RD K H1 x (.ref a))(ry:RD K H1 y (.ref b)):fY K H1 (LV gH xs ys) (λM=>aM M x=E xs/\aM M y=E ys) (Itz K (isT x) (isT y) a b):=λM H st rm c i=>by
 obtain⟨p1,vs,U,j,L⟩:=eN rm (rx.mono st) c.1;obtain⟨p2,us,Y,z,O⟩:=eN rm (ry.mono st) c.2
 cases U
 cases Y
 have l1:=L.length;have l2:=O.length;have lz:(LV gH xs ys).length=min xs.length ys.length:=Nv;refine⟨λhi=>⟨vs,us,j,z,∅⟩,λhi=>⟨⟨vs,us,vs[i]'∅,us[i]'∅,j,z,r4 ∅,r4 ∅⟩,λv H' F2=>?_⟩⟩
 obtain⟨p,v1,v2,n,rfl,rfl,g⟩:=F2;obtain⟨g1,g2⟩:=g vs us j z;obtain⟨d1,B,F⟩:=L.getV g1;obtain⟨d2,hd2,J⟩:=O.getV g2;have sb:=nE (o:=.tup [v1,v2]) n;refine⟨.inr ⟨p,[v1,v2],n,rfl⟩,.tup [d1,d2],?_,SF ⟨p,[v1,v2],rfl,az,RDs.cons (F.mono sb) (RDs.cons (J.mono sb) RDs.nil)⟩⟩;rw[P4,B,hd2];rfl
theorem Bu{elts:List Expr}{cx}{p:Pos}{a b:Expr}{tb:TEd}(ma:ae ta)(mb:ae tb)(J:Gl X "zip")(hm:X.mg "zip"=Z)(L:PA X [a,b] (lA X.K (aH ta (aH tb bD))))(hs:IG [a,b] X.env=[(R9,eval a X.env),(R9,eval b X.env)])(z:IG [b] X.env=[(R9,eval b X.env)]):
 PI X (.Tuple elts cx pos) (.Call (.Name "zip" p) [a,b] [] pos') (lI X.K (jW ta tb)):=by
 refine PI.imp (B7 J hm L hs z) λσ H R h=>?_;obtain⟨ρ,M,rs,rm,q⟩:=h;refine⟨ρ,M,rs,rm,aq ma (aq mb aw) _ _ _ _ (λds M1 g9 vs H1 F2 j rd1=>?_) q⟩;obtain⟨x,y,xs,ys,e,O,U,Y⟩:=g9;subst e;obtain⟨v,u,rfl,B,F⟩:=rd1.two;obtain⟨p1,vs,rfl,s1,_⟩:=eN j B O;obtain⟨p2,us,rfl,s2,_⟩:=eN j F U;exact⟨p1,p2,isT x,isT y,vs,us,rfl,s1,s2,Y _ H1 F2 j (Bt B F)⟩
end
end
section
section
variable{X:Cx}
noncomputable def cH(xs:List D):List D:=xs.mapIdx λi x=>.tup [.int (i:Nat),x]
noncomputable def mv(ta:TEd):TId:=λρ M R=>ta ρ M λx M1=>∃xs,aM M1 x=E xs/\R (cH xs) (λM=>aM M x=E xs) M1
theorem u7(h:ae ta):cj (mv ta):=λρ M Q Q' i q=>h _ _ _ _ (λx B j=>(by obtain⟨ds,e,z⟩:=j;exact⟨ds,e,i _ _ _ z⟩)) q
theorem Bv{a:SS}(rx:RD K H1 x (.ref a)):fY K H1 (cH xs) (λM=>aM M x=E xs) (Ite K (isT x) a):=λM H st rm c i=>by
 obtain⟨O,vs,J,j,F⟩:=eN rm (rx.mono st) c
 cases J
 have l1:=F.length;have lz:(cH xs).length=xs.length:=by simp[cH]
 refine⟨λhi=>⟨vs,j,∅⟩,λhi=>⟨⟨vs,vs[i]'∅,j,r4 ∅⟩,λv H' L=>?_⟩⟩
 obtain⟨p,v1,n,rfl,rfl,g⟩:=L;obtain⟨d1,z,B⟩:=F.getV (g vs j);have sb:=nE (o:=.tup [.int (i:Nat),v1]) n;refine⟨.inr ⟨p,[.int (i:Nat),v1],n,rfl⟩,.tup [.int (i:Nat),d1],?_,SF ⟨p,[.int (i:Nat),v1],rfl,az,RDs.cons (Sl.mpr rfl) (RDs.cons (B.mono sb) RDs.nil)⟩⟩;simp[cH,L9,z]
theorem zB{elts:List Expr}{cx}{p:Pos}{a:Expr}(ma:ae ta)(B:Gl X "enumerate")(hm:X.mg "enumerate"=Z)(F:PA X [a] (lA X.K (aH ta bD)))(hs:IG [a] X.env=[(R9,eval a X.env)]):
 PI X (.Tuple elts cx pos) (.Call (.Name "enumerate" p) [a] [] pos') (lI X.K (mv ta)):=by
 refine PI.imp (yW B hm F hs) λσ H R h=>?_;obtain⟨ρ,M,rs,rm,q⟩:=h;refine⟨ρ,M,rs,rm,ma _ _ _ _ (λx Y g9 vs H1 O j rd1=>?_) q⟩;obtain⟨xs,J,L⟩:=g9;obtain⟨v,rfl,z⟩:=rd1.one;obtain⟨U,us,rfl,s1,_⟩:=eN j z J;exact⟨U,isT x,us,rfl,s1,L _ H1 O j (Bv z)⟩
end
end
variable{b:BT}{vs:List V}{te:TEd}{src:TId}
section
noncomputable abbrev NC:=am->Mem->List D->Prop
noncomputable abbrev TCd:=am->Mem->List D->NC->Prop
def ck(T:TCd):Prop:=∀ρ M acc N N',(∀ρ' M' acc',N ρ' M' acc'->N' ρ' M' acc')->T ρ M acc N->T ρ M acc N'
structure ExtP(p:SS)(M:Mem)(H:Hp)(M':Mem)(H':Hp):Prop where
 kp:∀a o,a≠p->fz (M a)=N2->H a=E o->H' a=E o
 nw:∀a o,fz (M a)=N2->H a=E o->M' a=M a
section
variable{K:Frag}{M M' M'':Mem}{H H' H'':Hp}{p:SS}
theorem ExtP.new(x:ExtP p M H M' H')(a:SS)(o:HO)(n:M a=Z)(e:H a=E o):M' a=Z:=(x.nw a o (by rw[n];rfl) e).trans n
theorem Ext.toP(x:Ext M H M' H'):ExtP p M H M' H':=⟨λa o _=>x.kp a o,x.nw⟩
theorem ExtP.refl:ExtP p M H M H:=⟨λ_ _ _ _ h=>h,λ_ _ _ _=>rfl⟩
theorem ExtP.trans(a:ExtP p M H M' H')(B:H p=E (.lst vs))(j:∃vs',H' p=E (.lst vs'))(b:ExtP p M' H' M'' H''):ExtP p M H M'' H'':=
 ⟨fun c o ne n h=>b.kp c o ne (by rw[a.nw c o n h];exact n) (a.kp c o ne n h),fun c o n h=>by
  have n':fz (M' c)=N2:=by rw[a.nw c o n h];exact n
  refine Eq.trans ?_ (a.nw c o n h)
  by_cases z:c=p
  ·subst z;obtain⟨vs',e⟩:=j;exact b.nw c _ n' e
  ·exact b.nw c o n' (a.kp c o z n h)⟩
theorem ExtP.stab(r:RM K M H)(j:H p=E (.lst vs))(x:ExtP p M H M' H'):Stab H H' where
 tup:=λa xs e=>x.kp a _ (λz=>by subst z;rw[j]at e;cases e) (by rw[r.fzT e];rfl) e
 frz:=λa o u e=>x.kp a _ (λz=>by subst z;rw[j]at e;cases e) (r.fzF e) e
theorem nF{ho:HO}(j:H p=E (.lst vs)):Stab H (upd H p ho):=⟨λa xs e=>by rw[aj (λz=>by subst z;rw[j]at e;cases e)];exact e,λa o u e=>by rw[aj (λz=>by subst z;rw[j]at e;cases e)];exact e⟩
theorem RM.side{ho:HO}(r:RM K M H)(n:M p=Z)(j:H p=E (.lst vs)):RM K M (upd H p ho):=λa o e=>by
 have ne:a≠p:=λz=>by subst z;rw[n]at e;cases e
 exact(r a o e).mono (nF j) λB q=>by rw[aj ne];exact q
end
def gI(K:Frag)(H:Hp)(p:SS)(acc:List D):Prop:=∃vs,H p=E (.lst vs)/\RDs K H acc vs
noncomputable def KC(K:Frag)(p:SS)(M:Mem)(H:Hp)(N:St->Hp->Prop):NC:=λρ' M' acc'=>∀σ' H',ExtP p M H M' H'->RS K H' σ' ρ'->RM K M' H'->gI K H' p acc'->N σ' H'
noncomputable def lC(K:Frag)(p:SS)(T:TCd):TC:=λσ H N=>∃ρ M acc,RS K H σ ρ/\RM K M H/\M p=Z/\gI K H p acc/\T ρ M acc (KC K p M H N)
theorem KC.ext{p:SS}{M2 M':Mem}{H2:Hp}{N:St->Hp->Prop}{ρ:am}{acc:List D}(z:H p=E (.lst vs))(j:∃vs',H2 p=E (.lst vs'))(x:ExtP p M H M2 H2)(h:KC K p M H N ρ M' acc):KC K p M2 H2 N ρ M' acc:=λσ' H' y=>h σ' H' (x.trans z j y)
noncomputable def bO(te:TEd):TCd:=λρ M acc N=>te ρ M λx M1=>acc.length<HZ/\N ρ M1 (acc++[x])
noncomputable def bg:List TTd->TCd->TCd
 |[],tb=>tb
 |t::r,tb=>λρ M acc N=>t ρ M λb M1=>if b=N2 then bg r tb ρ M1 acc N else N ρ M1 acc
noncomputable def aZ(b:BT)(tb:TCd)(chk:Mem->Prop)(N:NC):List D->NC
 |[]=>λρ M acc=>chk M/\N ρ M acc
 |x::xs=>λρ M acc=>chk M/\∃ρ',b x ρ=E ρ'/\tb ρ' M acc (aZ b tb chk N xs)
noncomputable def dL(src:TId)(b:BT)(tb:TCd):TCd:=λρ M acc N=>src ρ M λxs chk M1=>aZ b tb chk N xs ρ M1 acc
noncomputable def gJ(fr:List (Option Nat))(src:TId)(b:BT)(tb:TCd):TEd:=λρ M Q=>src ρ M λxs chk M1=>aZ b tb chk (λ_ M' acc=>∀p,M' p=Z->Q (.ref p) (ad M' p (.lst acc))) xs (rl fr ρ) M1 []
theorem bM(h:ae te):ck (bO te):=λρ M acc N N' i q=>h _ _ _ _ (λx F j=>(by obtain⟨z,B⟩:=j;exact⟨z,i _ _ _ B⟩)) q
theorem aN{tb:TCd}(z:ck tb):∀{ts:List TTd},(∀t∈ts,aC t)->ck (bg ts tb)
 |[],_=>z
 |t::r,h=>fun ρ M acc N N' i q=>h t I0 _ _ _ _ (fun b F j=>by
  cases b with
  |true=>rw[if_pos rfl]at j⊢;exact aN z (λt' B=>h t' (HR _ B)) _ _ _ _ _ i j
  |false=>rw[if_neg Ih]at j⊢;exact i _ _ _ j) q
theorem fZ{b:BT}{tb:TCd}(z:ck tb){chk:Mem->Prop}{N N':NC}(i:∀ρ' M' acc',N ρ' M' acc'->N' ρ' M' acc'):∀(xs:List D) (ρ:am) (M:Mem) (acc:List D),aZ b tb chk N xs ρ M acc->aZ b tb chk N' xs ρ M acc
 |[],ρ,M,acc,h=>⟨h.1,i _ _ _ h.2⟩
 |x::xs,ρ,M,acc,⟨c,ρ',e,q⟩=>⟨c,ρ',e,z _ _ _ _ _ (λρ2 M2 j B=>fZ z i xs ρ2 M2 j B) q⟩
theorem i5{tb:TCd}(hs:cj src)(j:ck tb):ck (dL src b tb):=λρ M acc N N' i q=>hs _ _ _ _ (λxs c B z=>fZ j i xs _ _ _ z) q
theorem kY{fr:List (Option Nat)}{tb:TCd}(hs:cj src)(j:ck tb):ae (gJ fr src b tb):=λρ M Q Q' i q=>hs _ _ _ _ (λxs c F z=>fZ j (λ_ M' acc B p n=>i _ _ (B p n)) xs _ _ _ z) q
section
variable{K:Frag}{p:SS}
theorem gd(m:ae te)(σ:St)(H:Hp)(N:St->Hp->Prop)(h:lC K p (bO te) σ H N):yb p (lE K te) σ H N:=by
 obtain⟨ρ,M,acc,rs,rm,n,⟨vs,O,ra⟩,q⟩:=h;refine⟨ρ,M,rs,rm,m _ _ _ _ (λx F2 g9 v H1 F J L=>?_) q⟩;obtain⟨z,U⟩:=g9;have j:=F.keep p _ n O;have Y:=F.new p _ n O;have st:=F.stab rm;have B:Stab H1 (upd H1 p (.lst (vs++[v]))):=nF j;refine⟨vs,j,by rw[ra.length];exact z,U σ _ ⟨λa o ne m' e=>?_,F.nw⟩ ((rs.mono st).mono B) (J.side Y j) ⟨vs++[v],az,((ra.mono st).mono B).append (RDs.cons (L.mono B) RDs.nil)⟩⟩
 rw[aj ne];exact F.kp a o m' e
theorem j5{tb:TCd}(mb:ck tb):∀{ts:List TTd},(∀t∈ts,aC t)->∀(σ:St) (H:Hp) (N:St->Hp->Prop),lC K p (bg ts tb) σ H N->iS (ts.map (lT K)) (lC K p tb) σ H N
 |[],_,σ,H,N,h=>h
 |t::r,hm,σ,H,N,h=>by
  obtain⟨ρ,M,acc,rs,rm,n,⟨vs,J,ra⟩,q⟩:=h;refine⟨ρ,M,rs,rm,hm t I0 _ _ _ _ (λb O F H1 z B=>?_) q⟩;have j:=z.keep p _ n J;have U:=z.new p _ n J;have st:=z.stab rm
  cases b with
  |false=>rw[if_neg Ih]at F;dsimp only;rw[if_neg Ih];exact F σ H1 z.toP (rs.mono st) B ⟨vs,j,ra.mono st⟩
  |true=>
   rw[if_pos rfl]at F;dsimp only;rw[if_pos rfl];exact j5 mb (λt' L=>hm t' (HR _ L)) σ H1 N ⟨ρ,O,acc,rs.mono st,B,U,⟨vs,j,ra.mono st⟩,
    aN mb (λt' L=>hm t' (HR _ L)) _ _ _ _ _ (λρ' M' acc' k=>k.ext J ⟨vs,j⟩ z.toP) F⟩
theorem kZ{tb:TCd}(mb:ck tb){chk:Mem->Prop}{J:It}{B:Mem}{Nd:NC}{N:St->Hp->Prop}{σ:St}{ρ:am}{acc:List D}(it:fY K H1 xs chk J)(rs:RS K H1 σ ρ)(rm:RM K B H1)(n:B p=Z)(ac:gI K H1 p acc)(q:aZ b tb chk Nd xs ρ B acc)(hN:∀ρ' M' acc' σ' H',ExtP p B H1 M' H'->RS K H' σ' ρ'->RM K M' H'->gI K H' p acc'->Nd ρ' M' acc'->N σ' H'):
 cF J (lG K b) (lC K p tb) N σ H1:=by
 obtain⟨Gq,F,_⟩:=id ac;refine⟨λi m σ H=>m=xs.length-i/\i<=xs.length/\∃ρ M acc,RS K H σ ρ/\RM K M H/\M p=Z/\gI K H p acc/\ExtP p B H1 M H/\aZ b tb chk Nd (xs.drop i) ρ M acc,⟨xs.length,by simp,JG _,ρ,B,acc,rs,rm,n,ac,ExtP.refl,q⟩,?_⟩
 rintro i m σ H ⟨rfl,hi,ρ,M,acc,rs,j,n,ac,x,q⟩;have st:=x.stab rm F;obtain⟨vs,hp,ra⟩:=id ac
 by_cases z:i<xs.length
 ·rw[L3 z]at q;obtain⟨c,ρ',hb,q⟩:=q;obtain⟨go,yl⟩:=(it M H st j c i).2 z;refine .inr ⟨go,λσ' H'=>∃m',m'<xs.length-i/\(m'=xs.length-(i+1)/\i+1<=xs.length/\∃ρ M acc,RS K H' σ' ρ/\RM K M H'/\M p=Z/\gI K H' p acc/\ExtP p B H1 M H'/\aZ b tb chk Nd (xs.drop (i+1)) ρ M acc),λσ' H' h=>h,λx' H' y=>?_⟩;obtain⟨yy,d,hd,rd⟩:=yl x' H' y;rw[r4 z]at hd
  cases hd
  obtain⟨xy,rmy⟩:=yy.ext j;have sty:=xy.stab j;have L:=xy.keep p _ n hp;refine⟨_,ρ,ρ',rd,rs.mono sty,hb,λσ2 U=>?_⟩;refine⟨ρ',M,acc,U,rmy,n,⟨vs,L,ra.mono sty⟩,mb _ _ _ _ _ (λρ3 M3 O q3 σ3 H3 x3 Y F2 Gp=>?_) q⟩;have n3:M3 p=Z:=x3.new p _ n L;exact⟨xs.length-(i+1),∅,rfl,z,ρ3,M3,O,Y,F2,n3,Gp,(x.trans F ⟨vs,hp⟩ xy.toP).trans F ⟨vs,L⟩ x3,q3⟩
 ·have e:i=xs.length:=by lia
  subst e;rw[QX]at q;exact .inl ⟨(it M H st j q.1 _).1 (HW _),hN ρ M acc σ H x rs j ac q.2⟩
theorem i6{tb:TCd}(ms:cj src)(mb:ck tb)(σ:St)(H:Hp)(N:St->Hp->Prop)(h:lC K p (dL src b tb) σ H N):(lI K src) σ H λJ H1=>cF J (lG K b) (lC K p tb) N σ H1:=by obtain⟨ρ,M,acc,rs,rm,n,⟨vs,B,ra⟩,q⟩:=h;refine⟨ρ,M,rs,rm,ms _ _ _ _ (λxs chk U L J H1 z F it=>?_) q⟩;have j:=z.keep p _ n B;have O:=z.new p _ n B;have st:=z.stab rm;exact kZ mb it (rs.mono st) F O ⟨vs,j,ra.mono st⟩ L λρ' M' acc' σ' H' x2 rs' rm' ac' k=>k σ' H' (z.toP.trans B ⟨vs,j⟩ x2) rs' rm' ac'
theorem eC{fr:List (Option Nat)}{tb:TCd}(ms:cj src)(mb:ck tb)(σ:St)(H:Hp)(Q:VK)(h:lE K (gJ fr src b tb) σ H Q):rj (lI K src) (lG K b) (λp=>lC K p tb) fr σ H Q:=by
 obtain⟨ρ,M,rs,rm,q⟩:=h;refine⟨ρ,M,rs,rm,ms _ _ _ _ (λxs chk L Y J H1 F j it p n=>?_) q⟩;have st:=F.stab rm;have xn:Ext L H1 L (upd H1 p (.lst [])):=SE n;have stn:=xn.stab j;have U:L p=Z:=j.out n;refine kZ (p:=p) mb (xs:=xs) (chk:=chk) (λM' H' st'=>it M' H' ⟨λa xs e=>st'.tup _ _ (stn.tup _ _ e),λa o u e=>st'.frz _ _ _ (stn.frz _ _ _ e)⟩) (((rs.mono st).mono stn).inh fr) (j.new n) U ⟨[],az,RDs.nil⟩ Y λρ' M' acc' σ' H' O rs' rm' ac' k=>?_;obtain⟨vs,F2,ra⟩:=ac';have n':M' p=Z:=O.new p _ U az;refine k p n' (.ref p) H' ⟨λa o m e=>?_,λa o m e=>?_⟩ (λa o e=>?_) (Sm.mpr rfl)
 ·have B:=F.kp a o m e;have ne:a≠p:=λz=>by subst z;rw[n]at B;cases B
  exact O.kp a o ne (by rw[F.nw a o m e];exact m) (by rw[aj ne];exact B)
 ·have B:=F.kp a o m e;have ne:a≠p:=λz=>by subst z;rw[n]at B;cases B
  rw[ax ne];exact(O.nw a o (by rw[F.nw a o m e];exact m) (by rw[aj ne];exact B)).trans (F.nw a o m e)
 ·by_cases z:a=p
  ·subst z;rw[aa]at e;cases e;exact⟨vs,F2,ra⟩
  ·rw[ax z]at e;exact rm' a o e
end
end
variable{u:TSd}{c:TTd}{i:Nat}
section
noncomputable def j6:TSd:=λD ρ M=>D.nx ρ M
noncomputable def wQ(t u:TSd):TSd:=λD ρ M=>t {D with nx:=u D} ρ M
noncomputable def j7:TSd:=λD ρ M=>D.bk ρ M
noncomputable def mw:TSd:=λD ρ M=>D.ct ρ M
noncomputable def mz(te:TEd):TSd:=λD ρ M=>te ρ M λ_ M1=>D.nx ρ M1
noncomputable def rL(te:TEd):TSd:=λD ρ M=>te ρ M D.rt
noncomputable def sIf(c:TTd)(t u:TSd):TSd:=λD ρ M=>c ρ M λb M1=>if b=N2 then t D ρ M1 else u D ρ M1
noncomputable def jX(te:TEd)(b:BT):TSd:=λD ρ M=>te ρ M λx M1=>∃ρ',b x ρ=E ρ'/\D.nx ρ' M1
noncomputable def rM(ta:TAd)(bs:BTs):TSd:=λD ρ M=>ta ρ M λxs M1=>∃ρ',bs xs ρ=E ρ'/\D.nx ρ' M1
noncomputable def bP(b:BT)(tb:TSd)(chk:Mem->Prop)(D:bB):List Mi.D->am->Mem->Prop
 |[]=>λρ M=>chk M/\D.nx ρ M
 |x::xs=>λρ M=>chk M/\∃ρ',b x ρ=E ρ'/\tb {D with nx:=bP b tb chk D xs,ct:=bP b tb chk D xs,bk:=D.nx} ρ' M
noncomputable def rN(src:TId)(b:BT)(tb:TSd):TSd:=λD ρ M=>src ρ M λxs chk M1=>bP b tb chk D xs ρ M1
noncomputable def aV(c:TTd)(tb:TSd)(D:bB):Nat->am->Mem->Prop
 |0=>λ_ _=>False
 |n+1=>λρ M=>c ρ M λb M1=>if b=N2 then tb {D with nx:=aV c tb D n,ct:=aV c tb D n,bk:=D.nx} ρ M1 else D.nx ρ M1
noncomputable def j8(c:TTd)(tb:TSd):TSd:=λD ρ M=>∃n,aV c tb D n ρ M
theorem lc:aD j6:=λ_ _ _ _ h q=>h.nx _ _ q
theorem rO:aD j7:=λ_ _ _ _ h q=>h.bk _ _ q
theorem u8:aD mw:=λ_ _ _ _ h q=>h.ct _ _ q
theorem u9{t:TSd}(j:aD t)(z:aD u):aD (wQ t u):=λa b ρ M h q=>j {a with nx:=u a} {b with nx:=u b} _ _ ⟨λρ' M' q'=>z _ _ _ _ h q',h.rt,h.bk,h.ct⟩ q
theorem ua(h:ae te):aD (mz te):=λa b ρ M i q=>h _ _ _ _ (λ_ z j=>i.nx _ _ j) q
theorem wR(h:ae te):aD (rL te):=λa b ρ M i q=>h _ _ _ _ (λd z j=>i.rt _ _ j) q
theorem wU{t:TSd}(z:aC c)(B:aD t)(F:aD u):aD (sIf c t u):=λa b ρ M i q=>z _ _ _ _ (λk J j=>by
 cases k with
 |true=>rw[if_pos rfl]at j⊢;exact B _ _ _ _ i j
 |false=>rw[if_neg Ih]at j⊢;exact F _ _ _ _ i j) q
theorem wV{bt:BT}(h:ae te):aD (jX te bt):=λa b ρ M i q=>h _ _ _ _ (λd B j=>(by obtain⟨ρ',e,z⟩:=j;exact⟨ρ',e,i.nx _ _ z⟩)) q
theorem wW{ta:TAd}{bs:BTs}(h:aY ta):aD (rM ta bs):=λa b ρ M i q=>h _ _ _ _ (λd B j=>(by obtain⟨ρ',e,z⟩:=j;exact⟨ρ',e,i.nx _ _ z⟩)) q
theorem gh{bt:BT}{tb:TSd}(j:aD tb){chk:Mem->Prop}{a b:bB}(i:LeD a b):∀(xs:List D) (ρ:am) (M:Mem),bP bt tb chk a xs ρ M->bP bt tb chk b xs ρ M
 |[],ρ,M,h=>⟨h.1,i.nx _ _ h.2⟩
 |x::xs,ρ,M,⟨c,ρ',e,q⟩=>⟨c,ρ',e,j {a with nx:=bP bt tb chk a xs,ct:=bP bt tb chk a xs,bk:=a.nx} {b with nx:=bP bt tb chk b xs,ct:=bP bt tb chk b xs,bk:=b.nx} _ _ ⟨λρ2 M2 z=>gh j i xs ρ2 M2 z,i.rt,i.nx,λρ2 M2 z=>gh j i xs ρ2 M2 z⟩ q⟩
theorem wX{bt:BT}{tb:TSd}(hs:cj src)(j:aD tb):aD (rN src bt tb):=λa b ρ M i q=>hs _ _ _ _ (λxs c B z=>gh j i xs _ _ z) q
theorem eL{c:TTd}{tb:TSd}(z:aC c)(B:aD tb){a b:bB}(i:LeD a b):∀(n:Nat) (ρ:am) (M:Mem),aV c tb a n ρ M->aV c tb b n ρ M
 |0,ρ,M,h=>h
 |n+1,ρ,M,h=>z _ _ _ _ (fun k J j=>by
  cases k with
  |true=>rw[if_pos rfl]at j⊢;exact B {a with nx:=aV c tb a n,ct:=aV c tb a n,bk:=a.nx} {b with nx:=aV c tb b n,ct:=aV c tb b n,bk:=b.nx} _ _ ⟨λρ2 M2 F=>eL z B i n ρ2 M2 F,i.rt,i.nx,λρ2 M2 F=>eL z B i n ρ2 M2 F⟩ j
  |false=>rw[if_neg Ih]at j⊢;exact i.nx _ _ j) h
theorem rP{tb:TSd}(j:aC c)(z:aD tb):aD (j8 c tb):=λa b ρ M i g9=>(by obtain⟨n,q⟩:=g9;exact⟨n,eL j z i n _ _ q⟩)
section
variable{K:Frag}
theorem lf(D:bN)(σ:St)(H:Hp)(h:lS K j6 D σ H):qT D σ H:=by obtain⟨ρ,M,A,rs,rm,l,q⟩:=h;exact l.nx ρ M σ H Ext.refl rs rm q
theorem rQ(D:bN)(σ:St)(H:Hp)(h:lS K j7 D σ H):sY D σ H:=by obtain⟨ρ,M,A,rs,rm,l,q⟩:=h;exact l.bk ρ M σ H Ext.refl rs rm q
theorem ub(D:bN)(σ:St)(H:Hp)(h:lS K mw D σ H):xW D σ H:=by obtain⟨ρ,M,A,rs,rm,l,q⟩:=h;exact l.ct ρ M σ H Ext.refl rs rm q
theorem wY{t:TSd}(mt:aD t)(mu:aD u)(D:bN)(σ:St)(H:Hp)(h:lS K (wQ t u) D σ H):AE (lS K t) (lS K u) D σ H:=by obtain⟨ρ,M,A,rs,rm,l,q⟩:=h;exact⟨ρ,M,{A with nx:=u A},rs,rm,⟨λρ' M' σ' H' x rs' rm' q'=>⟨ρ',M',A,rs',rm',l.ext x,q'⟩,l.rt,l.bk,l.ct⟩,q⟩
theorem ud(m:ae te)(D:bN)(σ:St)(H:Hp)(h:lS K (mz te) D σ H):xX (lE K te) D σ H:=by obtain⟨ρ,M,A,rs,rm,l,q⟩:=h;exact⟨ρ,M,rs,rm,m _ _ _ _ (λd B F v H1 z j J=>l.nx ρ B σ H1 z (rs.mono (z.stab rm)) j F) q⟩
theorem wZ(m:ae te)(D:bN)(σ:St)(H:Hp)(h:lS K (rL te) D σ H):AF (lE K te) D σ H:=by obtain⟨ρ,M,A,rs,rm,l,q⟩:=h;exact⟨ρ,M,rs,rm,m _ _ _ _ (λd B F v H1 J j z=>l.rt d B v H1 J j z F) q⟩
theorem zC{t:TSd}(mc:aC c)(D:bN)(σ:St)(H:Hp)(h:lS K (sIf c t u) D σ H):AH (lT K c) (lS K t) (lS K u) D σ H:=by
 obtain⟨ρ,M,A,rs,rm,l,q⟩:=h;refine⟨ρ,M,rs,rm,mc _ _ _ _ (λk F z H1 B j=>?_) q⟩
 cases k with
 |true=>rw[if_pos rfl]at z⊢;exact⟨ρ,F,A,rs.mono (B.stab rm),j,l.ext B,z⟩
 |false=>rw[if_neg Ih]at z⊢;exact⟨ρ,F,A,rs.mono (B.stab rm),j,l.ext B,z⟩
theorem xc(m:ae te)(D:bN)(σ:St)(H:Hp)(h:lS K (jX te b) D σ H):qV (lE K te) (lG K b) D σ H:=by obtain⟨ρ,M,A,rs,rm,l,q⟩:=h;refine⟨ρ,M,rs,rm,m _ _ _ _ (λd F g9 v H1 B j z=>?_) q⟩;obtain⟨ρ',e,J⟩:=g9;exact⟨d,ρ,ρ',z,rs.mono (B.stab rm),e,λσ' rs'=>l.nx ρ' F σ' H1 B rs' j J⟩
theorem lg(m:ae te)(D:bN)(σ:St)(H:Hp)(h:lS K (jX te (bh i)) D σ H):qV (lE K te) (iL i) D σ H:=by
 obtain⟨ρ,M,A,rs,rm,l,q⟩:=h;refine⟨ρ,M,rs,rm,m _ _ _ _ (λd z g9 v H1 j rm1 rd1=>?_) q⟩;obtain⟨ρ',e,B⟩:=g9
 cases e
 exact l.nx _ z _ H1 j ((rs.mono (j.stab rm)).set i rd1) rm1 B
theorem xf{tb:TSd}(ms:cj src)(mb:aD tb)(D:bN)(σ:St)(H:Hp)(h:lS K (rN src b tb) D σ H):AN (lI K src) (lG K b) (lS K tb) D σ H:=by
 obtain⟨ρ,M,A,rs,rm,l,q⟩:=h;refine⟨ρ,M,rs,rm,ms _ _ _ _ (λxs chk M1 q1 J H1 x1 L it=>?_) q⟩;refine⟨λi m σ H'=>m=xs.length-i/\i<=xs.length/\∃ρ M2,RS K H' σ ρ/\RM K M2 H'/\Ext M1 H1 M2 H'/\bP b tb chk A (xs.drop i) ρ M2,⟨xs.length,by simp,JG _,ρ,M1,rs.mono (x1.stab rm),L,Ext.refl,q1⟩,?_⟩
 rintro i m σ2 H2 ⟨rfl,hi,ρ2,M2,O,j,x2,U⟩;have Y:=x2.stab L
 by_cases B:i<xs.length
 ·rw[L3 B]at U;obtain⟨c,ρ',hb,q3⟩:=U;obtain⟨go,yl⟩:=(it M2 H2 Y j c i).2 B;refine .inr ⟨go,λσ' H'=>∃m',m'<xs.length-i/\(m'=xs.length-(i+1)/\i+1<=xs.length/\∃ρ M,RS K H' σ' ρ/\RM K M H'/\Ext M1 H1 M H'/\bP b tb chk A (xs.drop (i+1)) ρ M),λσ' H' h=>h,λx' H' y=>?_⟩;obtain⟨yy,d,hd,rd⟩:=yl x' H' y;rw[r4 B]at hd
  cases hd
  obtain⟨xy,rmy⟩:=yy.ext j;have F2:=x1.trans (x2.trans xy);refine⟨_,ρ2,ρ',rd,O.mono (xy.stab j),hb,λσ3 Gp=>?_⟩;have nx:∀ρ5 F σ5 z,Ext M2 H' F z->RS K z σ5 ρ5->RM K F z->bP b tb chk A (xs.drop (i+1)) ρ5 F->∃m',m'<xs.length-i/\(m'=xs.length-(i+1)/\i+1<=xs.length/\∃ρ M,RS K z σ5 ρ/\RM K M z/\Ext M1 H1 M z/\bP b tb chk A (xs.drop (i+1)) ρ M):=λρ5 F σ5 z x5 Gq Gr q5=>⟨xs.length-(i+1),∅,rfl,B,ρ5,F,Gq,Gr,(x2.trans xy).trans x5,q5⟩
  refine⟨ρ',M2,{A with nx:=bP b tb chk A (xs.drop (i+1)),ct:=bP b tb chk A (xs.drop (i+1)),bk:=A.nx},Gp,rmy,⟨nx,λd F v z x5=>l.rt d F v z (F2.trans x5),λρ5 F σ5 z x5=>l.nx ρ5 F σ5 z (F2.trans x5),nx⟩,q3⟩
 ·have e:i=xs.length:=by lia
  subst e;rw[QX]at U;exact .inl ⟨(it M2 H2 Y j U.1 _).1 (HW _),l.nx ρ2 M2 σ2 H2 (x1.trans x2) O j U.2⟩
theorem rR{tb:TSd}(mc:aC c)(mb:aD tb)(D:bN)(σ:St)(H:Hp)(h:lS K (j8 c tb) D σ H):t5 (lT K c) (lS K tb) D σ H:=by
 obtain⟨ρ,M,A,rs,rm,l,n,q⟩:=h;refine⟨λm σ' H'=>∃ρ' M',RS K H' σ' ρ'/\RM K M' H'/\Ext M H M' H'/\aV c tb A m ρ' M',⟨n,ρ,M,rs,rm,Ext.refl,q⟩,?_⟩;rintro m σ1 H1 ⟨ρ1,M1,L,O,x1,q1⟩
 cases m with
 |zero=>exact q1.elim
 |succ m=>
  refine⟨ρ1,M1,L,O,mc _ _ _ _ (λk M2 q2 H2 x2 U=>?_) q1⟩;have j:=x1.trans x2;have Y:=L.mono (x2.stab O)
  cases k with
  |false=>rw[if_neg Ih]at q2;dsimp only;rw[if_neg Ih];exact l.nx ρ1 M2 σ1 H2 j Y U q2
  |true=>
   rw[if_pos rfl]at q2;dsimp only;rw[if_pos rfl];refine⟨λσ' H'=>∃ρ' M',RS K H' σ' ρ'/\RM K M' H'/\Ext M H M' H'/\aV c tb A m ρ' M',λσ' H' h=>⟨m,Nat.lt_succ_self m,h⟩,ρ1,M2,{A with nx:=aV c tb A m,ct:=aV c tb A m,bk:=A.nx},Y,U,⟨?_,λd z v F2 B=>l.rt d z v F2 (j.trans B),λρ5 z σ5 F2 B=>l.nx ρ5 z σ5 F2 (j.trans B),?_⟩,q2⟩
   ·exactλρ5 z σ5 F2 B F J q5=>⟨ρ5,z,F,J,j.trans B,q5⟩
   ·exactλρ5 z σ5 F2 B F J q5=>⟨ρ5,z,F,J,j.trans B,q5⟩
end
noncomputable def gK:D->D->D->Mem->(Mem->Prop)->Prop:=λo i v M Q=>∃a,o=.ref a /\
 ((∃xs k j,i=.int k/\M a=E (.lst xs)/\ixN xs.length k=E j/\Q (ad M a (.lst (xs.set j v)))) ∨
  ∃t kvs,M a=E (.dct t kvs)/\iX t i=N2/\kvs.length<HZ/\Q (ad M a (.dct t (cz kvs i v))))
noncomputable def rS(te to ti:TEd):TSd:=λD ρ M=>te ρ M λv M1=>to ρ M1 λo M2=>ti ρ M2 λi M3=>gK o i v M3 λM4=>D.nx ρ M4
theorem ue{o i v:D}{Q Q':Mem->Prop}(h:∀M',Q M'->Q' M')(q:gK o i v M Q):gK o i v M Q':=by
 obtain⟨a,e,⟨xs,k,j,z,B,F,q⟩|⟨t,kvs,z,B,F,q⟩⟩:=q
 ·exact⟨a,e,.inl ⟨xs,k,j,z,B,F,h _ q⟩⟩
 ·exact⟨a,e,.inr ⟨t,kvs,z,B,F,h _ q⟩⟩
theorem xg{to ti:TEd}(he:ae te)(ho:ae to)(hi:ae ti):aD (rS te to ti):=λa b ρ M i q=>he _ _ _ _ (λv F j=>ho _ _ _ _ (λo M2 z=>hi _ _ _ _ (λk J B=>ue (λM' q'=>i.nx _ _ q') B) z) j) q
section
variable{X:Cx}{K:Frag}
theorem xh(j:X.A.units+1<Lk):PSet X (λo i v H Q=>∃a H',o=.ref a/\DPut H a i v H'/\Q H'):=by
 intro pins s σ H o i v ov iv u Q I ro ri rv h;obtain⟨a,H',rfl,g,q⟩:=h
 cases ro
 exact tG j I g ri rv λs' I'=>⟨H',I',q⟩
theorem PSet.or{t t':qU}(h:PSet X t)(h':PSet X t'):PSet X (λo i v H Q=>t o i v H Q∨t' o i v H Q):=by
 intro pins s σ H o i v ov iv u Q I ro ri rv q
 rcases q with q|q
 ·exact h pins s σ H o i v ov iv u Q I ro ri rv q
 ·exact h' pins s σ H o i v ov iv u Q I ro ri rv q
section
variable{κ:Type}[DecidableEq κ]{H:Hp}{RK:D->κ->Prop}(inj:∀{d e:D} {k:κ},RK d k->RK e k->d=e)(fn:∀{d:D} {k k':κ},RK d k->RK d k'->k=k')
include inj fn
theorem q9{k:D}{q:κ}(j:RK k q):∀{kvs:List (D×D)} {ps:List (κ×V)},IZ (λp r=>RK p.1 r.1/\RD K H p.2 r.2) kvs ps->
 (kvs.any λp=>decide (p.1=k))=(ps.any λp=>decide (p.1=q))
 |_,_,.nil=>rfl
 |_,_,.cons (a:=p) (b:=r) hr t=>by
  rw[LK,LK,q9 j t];congr 1
  by_cases e:p.1=k
  ·have e':r.1=q:=by have h1:=hr.1;rw[e]at h1;exact fn h1 j
   rw[decide_eq_true e,decide_eq_true e']
  ·have e':¬r.1=q:=λz=>e (by have h1:=hr.1;rw[z]at h1;exact inj h1 j)
   rw[decide_eq_false e,decide_eq_false e']
theorem qa{k:D}{q:κ}(B:RK k q){d:D}{v:V}(F:RD K H d v):∀{kvs:List (D×D)} {ps:List (κ×V)},IZ (λp r=>RK p.1 r.1/\RD K H p.2 r.2) kvs ps->
 IZ (λp r=>RK p.1 r.1/\RD K H p.2 r.2) (kvs.map λp=>if p.1=k then(p.1,d)else p) (ps.map λp=>if p.1=q then(p.1,v)else p)
 |_,_,.nil=>.nil
 |_,_,.cons (a:=p) (b:=r) j t=>by
  refine .cons ?_ (qa B F t)
  by_cases e:p.1=k
  ·have e':r.1=q:=by have h1:=j.1;rw[e]at h1;exact fn h1 B
   dsimp only;rw[if_pos e,if_pos e'];exact⟨j.1,F⟩
  ·have e':¬r.1=q:=λz=>e (by have h1:=j.1;rw[z]at h1;exact inj h1 B)
   dsimp only;rw[if_neg e,if_neg e'];exact j
theorem ik{k:D}{q:κ}(j:RK k q){d:D}{v:V}(z:RD K H d v){kvs:List (D×D)}{ps:List (κ×V)}(r:IZ (λp r=>RK p.1 r.1/\RD K H p.2 r.2) kvs ps):
 IZ (λp r=>RK p.1 r.1/\RD K H p.2 r.2) (cz kvs k d) (bp ps q v):=by
 unfold cz bp;rw[q9 (K:=K) (H:=H) (RK:=RK) inj fn j r]
 by_cases e:(ps.any λp=>decide (p.1=q))=N2
 ·rw[if_pos e,if_pos e];exact qa (RK:=RK) inj fn j z r
 ·rw[if_neg e,if_neg e];exact r.snoc ⟨j,z⟩
end
theorem xi{o i v:D}{ov iv vv:V}{Qd:Mem->Prop}{Q:Hp->Prop}(rm:RM K M H)(ro:RD K H o ov)(ri:RD K H i iv)(rv:RD K H v vv)(h:gK o i v M Qd)(U:∀M' H',Ext M H M' H'->RM K M' H'->Qd M'->Q H'):
 y7 ov iv vv H Q∨∃a H',ov=.ref a/\DPut H a iv vv H'/\Q H':=by
 obtain⟨a,rfl,⟨xs,k,j,rfl,B,O,q⟩|⟨t,kvs,F,B,O,q⟩⟩:=h
 ·cases Sm.mp ro
  cases Sl.mp ri
  obtain⟨vs,ha,rs⟩:=rm _ _ B;have st:Stab H (upd H a (.lst (vs.set j vv))):=rm.stabPut B;exact .inl ⟨a,vs,k,j,rfl,rfl,ha,by rw[rs.length];exact O,U _ _ (Ext.put B) (rm.put (o:=.lst (xs.set j v)) B ⟨_,az,(rs.set j rv).mono st⟩) q⟩
 ·cases Sm.mp ro
  have ro':=rm _ _ F
  cases t with
  |false=>obtain⟨ps,Y,pr⟩:=ro';obtain⟨kq,L⟩:=n9 (show fb i=N2 from B);have st:Stab H (upd H a (.dK (bp ps kq vv))):=rm.stabPut F;have J:=ik (RK:=RKey) RKey.inj RKey.fun L rv pr;rw[jR L ri];refine .inr ⟨a,_,rfl,DPut.k Y (by rw[<-Lb pr];exact O),U _ _ (Ext.put F) (rm.put (o:=.dct R9 (cz kvs i v)) F ⟨_,az,Sr J λ_ _ z=>⟨z.1,z.2.mono st⟩⟩) q⟩
  |true=>
   obtain⟨ps,Y,pr⟩:=ro';obtain⟨kq,L⟩:=jM (show bZ i=N2 from B);have st:Stab H (upd H a (.dT (bp ps kq vv))):=rm.stabPut F;have J:=ik (RK:=RKeys) RKeys.inj RKeys.fun L rv pr
   cases i<;>first
    |exact L.elim
    | (obtain⟨b,us,rfl,F2,ru⟩:=SJ (jN B) ri
       rw[fg L ru]at F2;exact .inr ⟨a,_,rfl,DPut.t Y F2 (by rw[<-Lb pr];exact O),U _ _ (Ext.put F) (rm.put (o:=.dct N2 (cz kvs _ v)) F ⟨_,az,Sr J λ_ _ z=>⟨z.1,z.2.mono st⟩⟩) q⟩)
theorem Bw {o i e:Expr}{to ti:TEd}{tpos:Pos}(hu:X.A.units+1<Lk)(me:ae te)(mo:ae to)(mi:ae ti)(he:PE X e (lE X.K te))(ho:PE X o (lE X.K to))(hi:PE X i (lE X.K ti))(hs:Mb [.Subscript o i tpos] e pos.line X.env=pure R9)(hw:Ld [.Subscript o i tpos] e X.env=pure Z)(ha:∀v,assign (.Subscript o i tpos) X.env v=(do
   let ov <-holding [v] (eval o X.env)
   let iv <-holding [v,ov] (eval i X.env)
   O0 tpos
   holding [v,ov,iv] (setItem ov iv v)
   release [v,ov,iv] [])):PS X (.Assign [.Subscript o i tpos] e pos) (lS X.K (rS te to ti)):=by
 refine PS.imp (sZ he (AJ ho hi (PSet.or w6 (xh hu)) ha) hs hw rfl) λD σ H h=>?_;obtain⟨ρ,M,A,rs,rm,l,q⟩:=h;refine⟨ρ,M,rs,rm,me _ _ _ _ (λv M1 q1 vv H1 F j J=>?_) q⟩;refine⟨ρ,M1,rs.mono (F.stab rm),j,mo _ _ _ _ (λov M2 q2 vo H2 L z O=>?_) q1⟩;refine⟨ρ,M2,(rs.mono (F.stab rm)).mono (L.stab j),z,mi _ _ _ _ (λiv M3 q3 vi H3 U Y F2=>?_) q2⟩;have B:=F.trans (L.trans U);exact xi Y (O.mono (U.stab z)) F2 ((J.mono (L.stab j)).mono (U.stab z)) q3 λM' H' x4 Gp q4=>l.nx ρ M' σ H' (B.trans x4) (rs.mono ((B.trans x4).stab rm)) Gp q4
noncomputable def j9:R2d
 |.int i,.int j,M,Q=>Q (.int (i+j)) M
 |_,_,_,_=>False
noncomputable def ja:R2d
 |.int i,.int j,M,Q=>Q (.int (i-j)) M
 |_,_,_,_=>False
noncomputable def jb:R2d
 |.int i,.int j,M,Q=>MulOk i j/\Q (.int (i*j)) M
 |_,_,_,_=>False
theorem lh:aJ j9:=by
 intro x y M Q Q' h q
 cases x<;>cases y<;>first|exact q.elim|exact h _ _ q
theorem lj:aJ ja:=by
 intro x y M Q Q' h q
 cases x<;>cases y<;>first|exact q.elim|exact h _ _ q
theorem ll:aJ jb:=by
 intro x y M Q Q' h q
 cases x<;>cases y<;>first|exact q.elim|exact⟨q.1,h _ _ q.2⟩
theorem uf:OpR X (Mn .Add) (l2 X.K j9):=by
 refine OpR.of yL λv u H Q h=>?_;obtain⟨x,y,M,rm,rx,ry,q⟩:=h
 cases x<;>cases y<;>first
  |exact q.elim
  |(cases Sl.mp rx;cases Sl.mp ry;exact⟨_,_,rfl,rfl,q _ H Ext.refl rm (Sl.mpr rfl)⟩)
theorem ug:OpR X (Mn .Sub) (l2 X.K ja):=by
 refine OpR.of yM λv u H Q h=>?_;obtain⟨x,y,M,rm,rx,ry,q⟩:=h
 cases x<;>cases y<;>first
  |exact q.elim
  |(cases Sl.mp rx;cases Sl.mp ry;exact⟨_,_,rfl,rfl,q _ H Ext.refl rm (Sl.mpr rfl)⟩)
theorem uh:OpR X (Mn .Mult) (rI MulOk λi j=>.int (i*j)):=opI λ_ _ _ _ _ _ _ z q=>imul_int q z.ok
theorem ui:OpR X (Mn .Mult) (l2 X.K jb):=by
 refine OpR.of uh λv u H Q h=>?_;obtain⟨x,y,M,rm,rx,ry,q⟩:=h
 cases x<;>cases y<;>first
  |exact q.elim
  |(cases Sl.mp rx;cases Sl.mp ry;exact⟨_,_,rfl,rfl,q.1,q.2 _ H Ext.refl rm (Sl.mpr rfl)⟩)
noncomputable def rT(i:Nat)(rd:R2d)(te:TEd):TSd:=λD ρ M=>∃x,ρ[i]?=E (E x)/\te ρ M λy M1=>rd x y M1 λz M2=>D.nx (ρ.set i (E z)) M2
theorem xj{rd:R2d}(j:aJ rd)(he:ae te):aD (rT i rd te):=λa b ρ M l g9=>(by obtain⟨x,e,q⟩:=g9;exact⟨x,e,he _ _ _ _ (λy J B=>j _ _ _ _ _ (λz M2 F=>l.nx _ _ F) B) q⟩)
theorem nG{x:Str}{e:Expr}{op:Mt}{rd:R2d}(Y:X.N.Nodup)(hi:X.N[i]?=E x)(hx:Loc X.env.scope x)(he:PE X e (lE X.K te))(ho:OpR X (Mn op) (l2 X.K rd))(F2:aJ rd)(me:ae te)(hf:X.fn x=N2∨X.env.scope.names.lookup x=E .local):PS X (.AugAssign (.Name x pos') op e pos) (lS X.K (rT i rd te)):=by refine PS.imp (AM Y hi hx he (ti:=l2 X.K rd) ho hf) λD σ H h=>?_;obtain⟨ρ,M,A,rs,rm,l,d,e,q⟩:=h;obtain⟨v,hv,j⟩:=rs.2 i d e;refine⟨v,hv,ρ,M,rs,rm,me _ _ _ _ (λy M1 q1 u H1 B F J=>?_) q⟩;refine⟨d,y,M1,F,j.mono (B.stab rm),J,F2 _ _ _ _ _ (λz M2 q2 w H2 U L O=>?_) q1⟩;exact l.nx _ M2 _ H2 (B.trans U) ((rs.mono ((B.trans U).stab rm)).set i O) L q2
end
end
end Mi
namespace Mi
variable{K:Frag}
theorem uj{ta:TAd}{i j:Nat}(m:aY ta)(D:bN)(σ:St)(H:Hp)(h:lS K (rM ta (bX (bh i) (bX (bh j) fX))) D σ H):AK i j (lA K ta) D σ H:=by
 obtain⟨ρ,M,A,rs,rm,l,q⟩:=h;refine⟨ρ,M,rs,rm,m _ _ _ _ (λds J g9 vs H1 F B z=>?_) q⟩;obtain⟨ρ',e,L⟩:=g9
 match ds,e,z with
 |[d1,d2],e,z=>obtain⟨v,u,rfl,O,U⟩:=z.two;simp only[bX,bh,fX,N1,QF]at e;subst e;exact⟨v,u,rfl,l.nx _ J _ H1 F (((rs.mono (F.stab rm)).set i O).set j U) B L⟩
end Mi
namespace Mi
end Mi
namespace Mi
section
section
variable{X:Cx}
noncomputable def rV:D->Option Bool
 |.bl b=>E b
 |.int i=>E (i != 0)
 |_=>Z
noncomputable def rW:RAd:=λxs M Q=>∃x ds ts,xs=[x]/\aM M x=E ds/\aE rV ds=E ts/\Q (.bl (ts.any id)) M
theorem nH:aU rW:=λ_ _ _ _ h j=>(by obtain⟨x,ds,ts,e,z,B,q⟩:=j;exact⟨x,ds,ts,e,z,B,h _ _ q⟩)
theorem nI{α β:Type}{f:α->Option β}:∀{xs:List α} {ys:List β},aE f xs=E ys->ys.length=xs.length/\∀(i:Nat) x,xs[i]?=E x->∃y,ys[i]?=E y/\f x=E y
 |[],ys,h=>by cases h;exact⟨rfl,λi x e=>by simp at e⟩
 |x::xs,ys,h=>by
  simp only[aE]at h
  cases j:f x with
  |none=>rw[j]at h;cases h
  |some y=>
   rw[j]at h;simp only[N1]at h
   cases e2:aE f xs with
   |none=>rw[e2]at h;cases h
   |some r=>
    rw[e2]at h;cases h;obtain⟨l,g⟩:=nI e2;refine⟨by simp[l],λi z e=>?_⟩
    cases i with
    |zero=>simp at e;subst e;exact⟨y,rfl,j⟩
    |succ i=>simp at e;simpa using g i z e
theorem zD{P:Iy}{w:IY}{A:Ji}{fv:q7->D1->Prop}{s:D1}{K:Frag}{H:Hp}{d:D}{v:V}{u:q7}{b:Bool}{Q:Bool->D1->Prop}(e:rV d=E b)(rd:RD K H d v)(ru:RelV v u)(q:Q b s):Ik (model P w) A (truthy u) Q fv s:=by
 cases d with
 |bl c=>cases So.mp rd;cases ru;cases e;exact L7 q
 |int i=>cases Sl.mp rd;obtain⟨t,rfl⟩:=ru;cases e;exact PyProof.Rows.truthy_int q
 |_=>cases e
theorem range_all{ts:List Bool}:(HV ts.length).all (λi=>ts.getD i R9)=ts.all id/\(HV ts.length).any (λi=>ts.getD i R9)=ts.any id:=by
 have e:(HV ts.length).map (λi=>ts.getD i R9)=ts:=by
  apply List.ext_getElem
  ·simp
  ·intro i h1 h2;simp[HY,r4 h2]
 constructor
 ·conv=>rhs;rw[<-e]
  rw[List.all_map];rfl
 ·conv=>rhs;rw[<-e]
  rw[List.any_map];rfl
theorem xk(O:X.calm=N2){pins:List (SS×Obj)}{s:D1}{σ:St}{H:Hp}{M:Mem}{x:D}{ds:List D}{ts:List Bool}{v:V}{u:q7}{Q:q7->D1->Prop}{g:List Bool->Bool}(I:Inv X pins σ H s)(rm:RM X.K M H)(rd:RD X.K H x v)(ru:RelV v u)(F2:aM M x=E ds)(e2:aE rV ds=E ts)(fin:∀h' tk,Inv X pins σ H {s with heap:=h',toks:=tk}->Q (.bool (g ts)) {s with heap:=h',toks:=tk})(gg:Nat->(Nat->Bool)->Bool)(U:gg ts.length (λi=>ts.getD i R9)=g ts):
 Ik (model X.prog X.w) X.A.in1 (Qf u) (λit s₂=>∃I fp wr n P St tr,it=.ref I/\Walks X.prog X.w X.A.in1 I fp wr n P St/\St 0 s₂.heap/\TruthOf X.prog X.w X.A.in1 P tr /\
  ∀h' tk,(∀b o,b∉wr->s₂.heap.get? b=E o->h'.get? b=E o)->Q (.bool (gg n tr)) {s₂ with heap:=h',toks:=tk}) X.xe s:=by
 obtain⟨p,vs,rfl,sq,Y⟩:=tT rm rd F2
 cases ru
 obtain⟨lt,get⟩:=nI e2;have lv:=Y.length;have tr:∀(its:List q7),Vals vs its->TruthOf X.prog X.w X.A.in1 (λi w=>its.toArray[i]?=E w) (λi=>ts.getD i R9):=by
  intro its rv i w s' Q' E' hP F;have z:its[i]?=E w:=by simpa using hP
  have li:=rv.length;have hi:i<its.length:=(HU.mp z).1;obtain⟨d,hd⟩:∃d,ds[i]?=E d:=⟨ds[i]'∅,r4 ∅⟩
  obtain⟨v',J,rd'⟩:=Y.get hd;obtain⟨u',B,ru'⟩:=rv.get J;rw[z]at B;cases B;obtain⟨b,hb,eb⟩:=get i d hd;have:ts.getD i R9=b:=by rw[HY,hb];rfl
  have F:Q' (ts.getD i R9) s':=F;rw[this]at F;exact zD eb rd' ru' F
 rcases sq with sq|sq
 ·obtain⟨its,rv,pl,hz⟩:=I.list sq;have li:=rv.length;have j:p<s.heap.objs.size:=by obtain⟨o,n,e,_⟩:=pl;exact Ig e
  refine Kx pl.isList ⟨s.heap.objs.size,_,_,_,_,_,_,rfl,Walks.list (by rw[Ql];exact I.ok.hd O) s.heap.objs.size p (IU j) its.toArray,⟨⟨_,I9 _ rfl,rfl,rfl⟩,pl.isList.at λo e=>tv _ e⟩,tr its rv,λh' tk k=>?_⟩
  have L:its.toArray.size=ts.length:=by rw[Ia];lia
  rw[L,U];exact fin h' tk (I.kept (t':=tk) λb o e=>k b o (by simp;exact IU (Ig e)) (tv _ e))
 ·obtain⟨its,rv,pl,hz⟩:=I.tuple sq;have li:=rv.length;have j:p<s.heap.objs.size:=by obtain⟨o,e,_⟩:=pl;exact Ig e
  have pt:s.heap.IsTuple p its.toArray:=pl;refine JX pt ⟨s.heap.objs.size,_,_,_,_,_,_,rfl,Walks.tuple (by rw[Ql];exact I.ok.hd O) s.heap.objs.size p (IU j) its.toArray,⟨⟨_,I9 _ rfl,rfl,rfl⟩,pt.push _⟩,tr its rv,λh' tk k=>?_⟩
  have L:its.toArray.size=ts.length:=by rw[Ia];lia
  rw[L,U];exact fin h' tk (I.kept (t':=tk) λb o e=>k b o (by simp;exact IU (Ig e)) (tv _ e))
theorem rX(j:X.calm=N2):CallR X (.builtin "any") (lR X.K rW):=by intro pins s σ H xs us Q I rv h;obtain⟨ds,M,rm,rs,x,es,ts,rfl,z,B,q⟩:=h;obtain⟨v,rfl,r⟩:=rs.one;obtain⟨u,rfl,ru⟩:=eA rv;exact call_any_walk (xk j I rm r ru z B (g:=λts=>ts.any id) (λh' tk I'=>⟨.bl _,H,I',rfl,q _ H Ext.refl rm (So.mpr rfl)⟩) (λn tr=>(HV n).any tr) range_all.2)
noncomputable def mC(t:Bool):TEd:=λ_ M Q=>∀p,M p=Z->Q (.ref p) (ad M p (.dct t []))
theorem uk{t:Bool}:ae (mC t):=λ_ _ _ _ i q p n=>i _ _ (q p n)
theorem zE{t:Bool}{pos:Pos}:PE X (.Dict [] [] pos) (lE X.K (mC t)):=by
 cases t with
 |false=>refine PE.imp wc λσ H Q g9 p n=>?_;obtain⟨ρ,M,rs,rm,q⟩:=g9;exact q p (rm.out n) (.ref p) _ (Ext.lay n) (rm.lay n ⟨[],az,.nil⟩) (Sm.mpr rfl)
 |true=>refine PE.imp wd λσ H Q g9 p n=>?_;obtain⟨ρ,M,rs,rm,q⟩:=g9;exact q p (rm.out n) (.ref p) _ (Ext.lay n) (rm.lay n ⟨[],az,.nil⟩) (Sm.mpr rfl)
end
end
end Mi
namespace Srt
structure Cm(prog:Iy)(w:IY)(A:Ji)(s:D1)(kd:Ng)(P:IC->Prop)(lt:IC->IC->Bool):Prop where
 asym:∀x y,lt x y=N2->lt y x=R9
 neg:∀x y z,lt x z=N2->lt x y=N2∨lt y z=N2
 run:∀(x y:IC) (fv:q7->D1->Prop) (Q:Bool->D1->Prop),P x->P y->Q (lt x y) s->Ik (IB prog w) A (keyLt' kd x.1 y.1) Q fv s
variable{M:NZ}{x y:IC}{i:Nat}
section
variable{prog:Iy}{w:IY}{A:Ji}{fv:q7->D1->Prop}{s:D1}{kd:Ng}{P:IC->Prop}{lt:IC->IC->Bool}
theorem ar{σ α:Type}{x:α}{st:σ}{Q:α->σ->Prop}(q:Q x st):wpS M A fv s (pure x) Q st:=λ_ _ _=>⟨rfl,q⟩
theorem nJ{σ:Type}{tag:String}{st:σ}{Q:Unit->σ->Prop}(q:Q () st):wpS M A fv s (liftM (PySem.rule tag)) Q st:=wpS_lift (Kh ⟨rfl,q⟩)
theorem Dd(c:Cm prog w A s kd P lt){st:Kr}{Q:Option Bool->Kr->Prop}(j:KI st=kd)(hx:P x)(z:P y)(q:Q (E (lt x y)) st):wpS (IB prog w) A fv s (lt' x y) Q st:=by rw[lt'_eq];refine J8 (QG ?_);refine J8 (wpS_lift ?_);rw[j];intro Γ p hp;rw[Sem.wp_attempt];exact c.run x y (λe s'=>s'=s/\wpS (IB prog w) A fv s (do modify λs=>N3 (KI s) (Jc s) (KN s) (gallopOf s) (E e);pure Z) Q st) (λb s'=>s'=s/\wpS (IB prog w) A fv s (pure (E b)) Q st) hx z ⟨rfl,ar q⟩ Γ p hp
theorem qb{arr:Array IC}{st:Kr}{Q:IC->Kr->Prop}(h:arr[i]?=E x)(q:Q x st):wpS (IB prog w) A fv s (elem' arr i) Q st:=by rw[elem'_eq,h];exact ar q
theorem Cm.le_trans(c:Cm prog w A s kd P lt){z:IC}(h:lt y x=R9)(h2:lt z y=R9):lt z x=R9:=by
 cases e:lt z x with
 |false=>rfl
 |true=>rcases c.neg z y x e with q|q<;>simp_all
theorem Cm.irr(c:Cm prog w A s kd P lt):lt x x=R9:=by
 cases e:lt x x with
 |false=>rfl
 |true=>have:=c.asym x x e;rw[e]at this;exact this
theorem bQ{σ α:Type}{m:StateT σ Sem α}{st:σ}{Q Q':α->σ->Prop}(h:wpS M A fv s m Q st)(q:∀a st',Q a st'->Q' a st'):wpS M A fv s m Q' st:=Kf h (λa s' z=>⟨z.1,q _ _ z.2⟩) λ_ _ z=>z
end
noncomputable def bey(lt:IC->IC->Bool)(left:Bool)(key x:IC):Bool:=if left=N2 then lt x key else !(lt key x)
structure Same(st st':Kr):Prop where
 arr:Jc st'=Jc st
 kind:KI st'=KI st
 pend:KN st'=KN st
 fail:Me st'=Me st
variable{left:Bool}{key:IC}{xs l:List IC}{j:Nat}
section
variable{prog:Iy}{w:IY}{A:Ji}{fv:q7->D1->Prop}{s:D1}{kd:Ng}{P:IC->Prop}{lt:IC->IC->Bool}
theorem nK(c:Cm prog w A s kd P lt)(h:lt y x=R9)(j:bey lt left key y=N2):bey lt left key x=N2:=by
 unfold bey at j⊢
 cases left with
 |true=>
  rw[if_pos rfl]at j⊢
  rcases c.neg y x key j with q|q
  ·rw[h]at q;cases q
  ·exact q
 |false=>
  simp at j⊢
  cases e:lt key x with
  |false=>rfl
  |true=>
   rcases c.neg key y x e with q|q
   ·rw[j]at q;cases q
   ·rw[h]at q;cases q
structure Gal(lt:IC->IC->Bool)(left:Bool)(key:IC)(xs:List IC)(lo hi:Nat):Prop where
 le:lo<=hi
 len:hi<=xs.length
 up:∀i x,i<lo->xs[i]?=E x->bey lt left key x=N2
 dn:∀i x,hi<=i->xs[i]?=E x->bey lt left key x=R9
theorem jc{R:IC->IC->Prop}(h:xs.Pairwise R)(z:i<j)(hx:xs[i]?=E x)(B:xs[j]?=E y):R x y:=by obtain⟨h1,F⟩:=HU.mp hx;obtain⟨h2,J⟩:=HU.mp B;rw[<-F,<-J];exact NV.mp h i j h1 h2 z
theorem De(c:Cm prog w A s kd P lt)(h:xs.Pairwise (λx y=>lt y x=R9))(z:xs[j]?=E y)(B:bey lt left key y=N2):∀i x,i<j+1->xs[i]?=E x->bey lt left key x=N2:=by
 intro i x hi hx
 by_cases e:i=j
 ·subst e;rw[hx]at z;cases z;exact B
 ·exact nK c (jc h ∅ hx z) B
theorem Df(c:Cm prog w A s kd P lt)(h:xs.Pairwise (λx y=>lt y x=R9))(z:xs[j]?=E y)(B:bey lt left key y=R9):∀i x,j<=i->xs[i]?=E x->bey lt left key x=R9:=by
 intro i x hi hx
 by_cases e:i=j
 ·subst e;rw[hx]at z;cases z;exact B
 ·cases q:bey lt left key x with
  |false=>rfl
  |true=>have:=nK c (jc h ∅ z hx) q;rw[B]at this;cases this
theorem Gal.out{k:Nat}(g:Gal lt left key xs k k):∃X Y,xs=X++Y/\X.length=k/\(∀x∈X,bey lt left key x=N2)/\(∀x∈Y,bey lt left key x=R9):=by
 refine⟨xs.take k,xs.drop k,(JS k xs).symm,by rw[IJ];exact LH g.len,λx hx=>?_,λx hx=>?_⟩
 ·obtain⟨i,hi,e⟩:=LQ.mp hx;rw[IJ]at hi;exact g.up i x ∅ (by rw[List.getElem_take]at e;rw[<-e];exact r4 _)
 ·obtain⟨i,hi,e⟩:=LQ.mp hx;rw[JN]at hi;refine g.dn (k+i) x ∅ ?_
  rw[List.getElem_drop]at e;rw[<-e];exact r4 _
noncomputable abbrev Ord(lt:IC->IC->Bool)(l:List IC):Prop:=l.Pairwise λx y=>lt y x=R9
structure ML(lt:IC->IC->Bool)(la lb out:List IC)(ia ib:Nat):Prop where
 pa:Ord lt (out++la.drop ia)
 pb:Ord lt (out++lb.drop ib)
 pm:(out++(la.drop ia++lb.drop ib)).Perm (la++lb)
theorem xl(h:l[i]?=E x):l.drop i=[x]++l.drop (i+1):=by obtain⟨hi,e⟩:=HU.mp h;rw[L3 hi,e];rfl
theorem ML.size{la lb out:List IC}{ia ib:Nat}(m:ML lt la lb out ia ib)(j:ia<=la.length)(z:ib<=lb.length):out.length=ia+ib:=by have:=m.pm.length_eq;simp only[hQ,JN]at this;lia
theorem Same.trans{a b c:Kr}(h:Same a b)(g:Same b c):Same a c:=⟨g.arr.trans h.arr,g.kind.trans h.kind,g.pend.trans h.pend,g.fail.trans h.fail⟩
structure MH(lt:IC->IC->Bool)(la lb out:List IC)(na nb:Nat):Prop where
 pa:Ord lt (la.take na++out.reverse)
 pb:Ord lt (lb.take nb++out.reverse)
 pm:(la.take na++lb.take nb++out.reverse).Perm (la++lb)
theorem qc(c:Cm prog w A s kd P lt){n:Nat}(h:Ord lt (l.take n))(L:0<n)(F:l[n-1]?=E y)(hx:lt x y=R9):∀z∈l.take n,lt x z=R9:=by
 intro z J;obtain⟨i,hi,e⟩:=LQ.mp J;have j:(l.take n)[i]?=E z:=by rw[<-e];exact r4 hi
 have B:(l.take n)[n-1]?=E y:=by rw[Kk ∅];exact F
 rw[IJ]at hi
 by_cases hin:i=n-1
 ·subst hin;rw[B]at j;cases j;exact hx
 ·exact c.le_trans (jc h ∅ j B) hx
theorem nL{n:Nat}(j:0<n)(h:l[n-1]?=E x):l.take n=l.take (n-1)++[x]:=by
 obtain⟨k,rfl⟩:∃k,n=k+1:=⟨n-1,∅⟩
 rw[Nat.add_sub_cancel]at h⊢;rw[JR,h];rfl
theorem MH.size{la lb out:List IC}{na nb:Nat}(m:MH lt la lb out na nb)(j:na<=la.length)(z:nb<=lb.length):out.length+na+nb=la.length+lb.length:=by have:=m.pm.length_eq;simp only[hQ,IJ,PV]at this;lia
theorem bJ{σ α:Type}{p:Prop}[Decidable p]{j z:StateT σ Sem α}{st:σ}{Q:α->σ->Prop}(h1:p->wpS M A fv s j Q st)(h2:¬p->wpS M A fv s z Q st):wpS M A fv s (if p then j else z) Q st:=by
 split
 ·next h=>exact h1 h
 ·next h=>exact h2 h
end
end Srt
namespace Srt
variable{st:Kr}{L R xs:List IC}{i j:Nat}{x:IC}
section
variable{prog:Iy}{w:IY}{A:Ji}{fv:q7->D1->Prop}{s:D1}{kd:Ng}{P:IC->Prop}{lt:IC->IC->Bool}
structure Kp(st st':Kr):Prop where
 kind:KI st'=KI st
 pend:KN st'=KN st
 fail:Me st'=Me st
theorem Kp.refl:Kp st st:=⟨rfl,rfl,rfl⟩
theorem Kp.trans{a b c:Kr}(h:Kp a b)(g:Kp b c):Kp a c:=⟨g.kind.trans h.kind,g.pend.trans h.pend,g.fail.trans h.fail⟩
theorem pK{a:Array IC}{B:List IC}(e:a.toList=L++(B++R))(hi:i=L.length)(z:j=L.length+B.length):(mirror a i j ((j-i) / 2)).toList=L++(B.reverse++R):=by
 have hs:a.size=L.length+(B.length+R.length):=by rw[<-Jw,e];simp
 apply K1;intro k;rw[Jy,getElem?_mirror_all ∅]
 have g:∀n:Nat,a[n]?=(L++(B++R))[n]?:=λn=>by rw[<-Jy,e]
 rw[g,g]
 by_cases h1:k<L.length
 ·rw[if_neg ∅,HX h1,HX h1]
 ·by_cases h2:k<j
  ·rw[if_pos ∅,HP ∅,HX ∅,HP ∅,HX (by simp;lia),List.getElem?_reverse ∅]
   congr 1;lia
  ·rw[if_neg ∅,HP ∅,HP ∅,HP ∅,HP (by simp;lia)]
   simp
theorem pL{a:Array IC}{j z:List IC}(e:a.toList=L++((j++z)++x::R)){src d:Nat}(hi:src=L.length+(j.length+z.length))(hd:d=z.length):(bubble a src d).toList=L++((j++x::z)++R):=by
 have hs:a.size=L.length+(j.length+z.length+(R.length+1)):=by rw[<-Jw,e];simp;lia
 apply K1;intro k;rw[Jy,getElem?_bubble ∅ d ∅]
 have g:∀n:Nat,a[n]?=(L++((j++z)++x::R))[n]?:=λn=>by rw[<-Jy,e]
 rw[g,g,g]
 by_cases h1:k<L.length
 ·rw[if_neg ∅,if_neg ∅,HX h1,HX h1]
 ·by_cases h2:k<L.length+j.length
  ·rw[if_neg ∅,if_neg ∅,HP ∅,HX (by simp;lia),HX ∅,HP ∅,HX (by simp;lia),HX ∅]
  ·by_cases h3:k=L.length+j.length
   ·rw[if_pos ∅,HP ∅,HP (by simp;lia),HP ∅,HX (by simp;lia),HP ∅]
    have F:src-L.length-(j++z).length=0:=by simp;lia
    have B:k-L.length-j.length=0:=∅
    rw[F,B];rfl
   ·by_cases h4:k<=src
    ·rw[if_neg ∅,if_pos ∅,HP ∅,HX (by simp;lia),HP ∅,HP ∅,HX (by simp;lia),HP ∅]
     have B:k-L.length-j.length=(k-1-L.length-j.length)+1:=∅
     rw[B,Kz]
    ·rw[if_neg ∅,if_neg ∅,HP ∅,HP (by simp;lia),HP ∅,HP (by simp;lia)]
     have B:k-L.length-(j++z).length=(k-L.length-(j++x::z).length)+1:=by simp;lia
     rw[B,Kz]
theorem dM(c:Cm prog w A s kd P lt){y:IC}{Q:Option Bool->Kr->Prop}(z:KI st=kd)(hx:(Jc st)[i]?=E x)(B:(Jc st)[j]?=E y)(px:P x)(py:P y)(q:Q (E (lt x y)) st):wpS (IB prog w) A fv s (ltAt' i j) Q st:=by rw[ltAt'_eq];exact J8 (QG (J8 (qb hx (J8 (qb B (Dd c z px py q))))))
theorem jd{Q:Unit->Kr->Prop}{B:List IC}(e:(Jc st).toList=L++(B++R))(hi:i=L.length)(z:j=L.length+B.length)(q:∀st',(Jc st').toList=L++(B.reverse++R)->Kp st st'->Q () st'):wpS (IB prog w) A fv s (reverseSlice' i j) Q st:=by rw[reverseSlice'_eq];exact RX (q _ (pK e hi z) ⟨rfl,rfl,rfl⟩)
theorem cw(e:(Jc st).toList=L++xs){n:Nat}(hi:i=L.length+n):(Jc st)[i]?=xs[n]?:=by
 rw[<-Jy,e,hi,HP ∅]
 congr 1;lia
theorem nM(c:Cm prog w A s kd P lt){n:Nat}{y:IC}(h:Ord lt (xs.take n))(B:0<n)(hx:xs[n]?=E x)(F:xs[n-1]?=E y)(J:lt x y=R9):Ord lt (xs.take (n+1)):=by
 rw[JR,hx];refine IH.mpr ⟨h,by simp,λz L u j=>?_⟩
 simp at j;subst j;exact qc c h B F J z L
noncomputable abbrev cW(lt:IC->IC->Bool)(l:List IC):Prop:=l.Pairwise λx y=>lt x y=R9
theorem im(c:Cm prog w A s kd P lt){D:List IC}{e:IC}(h:cW lt (D++[e]))(hx:lt e x=R9):cW lt (D++[e]++[x]):=by
 refine IH.mpr ⟨h,by simp,λz B u j=>?_⟩
 simp at j;subst j;obtain⟨_,_,F⟩:=IH.mp h
 rcases Ie.mp B with g|g
 ·cases q:lt z u with
  |false=>rfl
  | true=>rcases c.neg z e u q with r|r
          ·rw[F z g e (by simp)]at r;cases r
          ·rw[hx]at r;cases r
 ·simp at g;subst g;exact hx
theorem qd{z F:List IC}(h:cW lt (z++F))(he:∀x∈F,∀y∈F,lt x y=R9):cW lt (z++F.reverse):=by obtain⟨h1,h2,B⟩:=IH.mp h;refine IH.mpr ⟨h1,?_,λx hx y j=>B x hx y (LW.mp j)⟩;rw[P5];exact h2.imp_of_mem λhx j _=>he _ j _ hx
theorem perm_take{n:Nat}:(xs.take n++xs.drop n).Perm xs:=by rw[JS]
theorem pM(c:Cm prog w A s kd P lt){Q:Option Nat->Kr->Prop}(hk:KI st=kd)(U:(Jc st).toList=L++xs)(h0:xs≠[])(hP:∀x∈xs,P x)(q:∀r R st',(Jc st').toList=L++(r++R)->(r++R).Perm xs->r≠[]->Ord lt r->Kp st st'->Q (E r.length) st'):wpS (IB prog w) A fv s (countRun' L.length xs.length) Q st:=by
 have GO:0<xs.length:=PX.mpr h0;rw[countRun'_eq]
 try dsimp -zeta -zetaHave -zetaUnused only
 refine J8 (bQ (Q:=λr st'=>st'=st/\∃n,r=(Z,n)/\1<=n/\n<=xs.length/\Ord lt (xs.take n)/\(n=xs.length∨∃x y,xs[n]?=E x/\xs[n-1]?=E y/\lt x y=N2))
  (LX (fun i r st'=>st'=st/\r=(Z,i)/\Ord lt (xs.take i)) ?_ ?_ ⟨rfl,rfl,by
   cases xs with
   |nil=>exact absurd rfl h0
   |cons x t=>simp⟩) ?_)
 ·rintro i r st' h1 hi ⟨rfl,rfl,ho⟩;dsimp only;obtain⟨x,hx⟩:∃x,xs[i]?=E x:=⟨_,r4 hi⟩;obtain⟨y,hy⟩:∃y,xs[i-1]?=E y:=⟨_,r4 ∅⟩
  refine J8 (dM c hk ((cw U rfl).trans hx) ((cw U ∅).trans hy) (hP _ (Ib hx)) (hP _ (Ib hy)) ?_)
  dsimp only;refine bJ (λh=>?_) (λh=>?_)
  ·exact ar ⟨rfl,i,rfl,h1,∅,ho,.inr ⟨x,y,hx,hy,h⟩⟩
  ·exact ar ⟨rfl,rfl,nM c ho ∅ hx hy (by simpa using h)⟩
 ·rintro r st' ⟨rfl,rfl,ho⟩;exact⟨rfl,_,rfl,∅,∅,ho,.inl ∅⟩
 ·rintro r st' ⟨rfl,n,rfl,Hi,GP,ho,hc⟩;dsimp -zeta -zetaHave -zetaUnused only;have GC:Q (E n) st':=by
   have:=q (xs.take n) (xs.drop n) st' (by rw[U,JS]) perm_take (λz=>by have h3:=congrArg Pe z;rw[IJ,Kb]at h3;lia) ho Kp.refl
   rw[IJ,LH GP]at this;exact this
  extract_lets -underBinder +onlyGivenNames vr vn
  dsimp -zeta -zetaHave -zetaUnused only[vr];clear vr;have en:n=vn:=rfl
  clear_value vn
  subst en;refine bJ (λh=>ar GC) (λh=>?_);have H4:n≠xs.length:=by simpa using h
  obtain⟨x,y,hx,hy,H8⟩:=hc.resolve_left H4;have Hj:n<xs.length:=∅
  have exs:xs=xs.take n++x::xs.drop (n+1):=by have h1:=(JS n xs).symm;rw[xl hx]at h1;exact h1
  have GQ:y∈xs.take n:=by rw[nL ∅ hy];simp
  extract_lets -underBinder +onlyGivenNames jp
  have GR:∀(B:List IC) (Gr:Kr),(Jc Gr).toList=L++(B++x::xs.drop (n+1))->B.Perm (xs.take n)->B.length=n->(∀u∈B,∀v∈B,lt u v=R9)->y∈B->Kp st' Gr->wpS (IB prog w) A fv s (jp ()) Q Gr:=by
   intro B Gr e1 hB Gs Gu Gv Gw;dsimp -zeta -zetaHave -zetaUnused only[jp];clear jp;refine J8 (nJ ?_)
   try dsimp -zeta -zetaHave -zetaUnused only
   extract_lets -underBinder +onlyGivenNames vn1 vq1
   have H9:vn1=n+1:=rfl;have eq1:vq1=0:=rfl
   clear_value vn1 vq1
   subst H9 eq1;refine J8 (bQ (Q:=λr Y=>∃J F R neq,Kp st' Y/\(Jc Y).toList=L++((J++F)++R)/\((J++F)++R).Perm xs/\r=(Z,(J++F).length,neq)/\F.length=neq+1/\cW lt (J++F)/\(∀u∈F,∀v∈F,lt u v=R9))
    (LX (λi r Y=>∃J F R neq,Kp st' Y/\(Jc Y).toList=L++((J++F)++R)/\((J++F)++R).Perm xs/\r=(Z,(J++F).length,neq)/\F.length=neq+1/\cW lt (J++F)/\(∀u∈F,∀v∈F,lt u v=R9)/\(J++F).length=i) ?_ ?_ ?_) ?_)
   ·rintro i r Y Hk hi ⟨J,F,R,neq,kp,ea,hp,rfl,hF,hN,hE,GS⟩;subst GS;have hlen:=hp.length_eq;rw[hQ]at hlen;obtain⟨z,R',rfl⟩:∃z R',R=z::R':=by
     cases R with
     |nil=>simp at hlen;simp at hi;lia
     |cons z R'=>exact⟨z,R',rfl⟩
    have Ha:F≠[]:=λz=>by rw[z]at hF;simp at hF
    obtain⟨F0,e,rfl⟩:∃F0 e,F=F0++[e]:=⟨F.dropLast,F.getLast Ha,(List.dropLast_concat_getLast _).symm⟩;have hz:(Jc Y)[L.length+(J++(F0++[e])).length]?=E z:=by rw[cw ea rfl,HP ∅,MD];rfl
    have he:(Jc Y)[L.length+(J++(F0++[e])).length-1]?=E e:=by rw[cw ea (n:=(J++F0).length) (by simp<;>lia),HX (by simp<;>lia),<-IV,HP ∅,MD];rfl
    have GT:P z:=hP z (hp.mem_iff.mp (by simp))
    have GU:P e:=hP e (hp.mem_iff.mp (by simp))
    dsimp only;refine J8 (dM c (kp.kind.trans hk) hz he GT GU ?_);dsimp only;have GG:cW lt (J++F0++[e]):=by rw[IV];exact hN
    refine bJ (λGH=>?_) (λGH=>?_)
    ·have Gx:lt e z=R9:=c.asym _ _ GH;refine bJ (λGy=>?_) (λGy=>?_)
     ·refine J8 (jd (L:=L++J) (B:=F0++[e]) (R:=z::R') (by rw[ea];simp) (by simp only[hQ]at hF⊢;simp only[IA]at hF⊢;lia) (by simp<;>lia) λGp e3 F2=>?_)
      refine ar ⟨J++(F0++[e]).reverse,[z],R',0,kp.trans F2,by rw[e3];simp,?_,by simp<;>lia,rfl,?_,?_,by simp<;>lia⟩
      ·refine Sd.trans ?_ hp;rw[IV,IV,IV];exact LN _ (Lv _ (MJ _))
      ·have h1:=qd hN hE;refine IH.mpr ⟨h1,by simp,λu j v O=>?_⟩
       simp at O;subst O;have hm:=im c GG Gx;refine(IH.mp hm).2.2 u ?_ v (by simp)
       rw[IV]
       rcases Ie.mp j with g|g
       ·exact Km _ g
       ·exact Iw _ (LW.mp g)
      ·intro u j v O;simp at j O;subst j O;exact c.irr
     ·refine ar ⟨J++(F0++[e]),[z],R',0,kp,by rw[ea];simp,by simpa using hp,by simp<;>lia,rfl,?_,?_,by simp<;>lia⟩
      ·have hm:=im c GG Gx;simpa using hm
      ·intro u j v O;simp at j O;subst j O;exact c.irr
    ·have Hb:lt z e=R9:=by simpa using GH
     refine J8 (dM c (kp.kind.trans hk) he hz GU GT ?_);dsimp only;refine bJ (λGW=>?_) (λGW=>?_)
     ·exact ar ⟨J,F0++[e],z::R',neq,kp,ea,hp,rfl,hF,hN,hE⟩
     ·have Gx:lt e z=R9:=by simpa using GW
      refine ar ⟨J,(F0++[e])++[z],R',neq+1,kp,by rw[ea];simp,by simpa using hp,by simp<;>lia,by simp at hF⊢;lia,?_,?_,by simp<;>lia⟩
      ·have hm:=im c GG Gx;simpa using hm
      ·have Hc:∀u∈F0++[e],lt u z=R9:=fun u j=>by
        cases q1:lt u z with
        |false=>rfl
        | true=>rcases c.neg u e z q1 with r|r
                ·rw[hE u j e (by simp)]at r;cases r
                ·rw[Gx]at r;cases r
       have Hd:∀u∈F0++[e],lt z u=R9:=λu j=>by
        cases q1:lt z u with
        |false=>rfl
        | true=>rcases c.neg z e u q1 with r|r
                ·rw[Hb]at r;cases r
                ·rw[hE e (by simp) u j]at r;cases r
       intro u j v O
       rcases Ie.mp j with g|g<;>rcases Ie.mp O with g2|g2
       ·exact hE u g v g2
       ·simp at g2;subst g2;exact Hc u g
       ·simp at g;subst g;exact Hd v g2
       ·simp at g g2;subst g g2;exact c.irr
   ·rintro r Y ⟨J,F,R,neq,kp,ea,hp,hr,hF,hN,hE,GS⟩;exact⟨J,F,R,neq,kp,ea,hp,hr,hF,hN,hE⟩
   ·refine⟨B,[x],xs.drop (n+1),0,Gw,by rw[e1];simp,?_,by simp[Gs],rfl,?_,?_,by simp[Gs]⟩
    ·have h9:(B++x::xs.drop (n+1)).Perm xs:=by
      have h9:=Lv (x::xs.drop (n+1)) hB;rw[<-exs]at h9;exact h9
     simpa using h9
    ·refine IH.mpr ⟨Lj (λj O _=>Gu _ j _ O) (List.pairwise_of_forall_mem_list (r:=λ_ _=>True) λ_ _ _ _=>trivial),by simp,λu j v O=>?_⟩
     simp at O;subst O
     cases q1:lt u v with
     |false=>rfl
     | true=>rcases c.neg u y v q1 with r|r
             ·rw[Gu u j y Gv]at r;cases r
             ·rw[c.asym _ _ H8]at r;cases r
    ·intro u j v O;simp at j O;subst j O;exact c.irr
   ·rintro r Y ⟨J,F,R,neq,kp,ea,hp,rfl,hF,hN,hE⟩;dsimp -zeta -zetaHave -zetaUnused only
    extract_lets -underBinder +onlyGivenNames vr vs vn2 vq2
    dsimp -zeta -zetaHave -zetaUnused only[vr];have He:vn2=(J++F).length:=rfl;have eq2:neq=vq2:=rfl
    clear_value vn2 vq2
    clear vs vr;subst He eq2
    extract_lets -underBinder +onlyGivenNames Gz
    have GD:∀(D:List IC) (Gp:Kr),(Jc Gp).toList=L++(D++R)->cW lt D->(D++R).Perm xs->D.length=(J++F).length->0<D.length->Kp st' Gp->wpS (IB prog w) A fv s (Gz ()) Q Gp:=by
     intro D Gp e3 GI GJ GA GE F2;dsimp -zeta -zetaHave -zetaUnused only[Gz];clear Gz;have Hf:0<D.length:=∅
     refine J8 (jd (L:=L) (B:=D) (R:=R) e3 rfl (by rw[GA]) λGX e4 GY=>?_)
     have o4:Ord lt D.reverse:=P5.mpr GI;have GB:(D.reverse++R).Perm xs:=(Lv _ (MJ D)).trans GJ;have GZ:(D.reverse++R).length=xs.length:=GB.length_eq;have GK:Ord lt ((D.reverse++R).take D.length):=by rw[Nh (by simp),K2 (by simp)];exact o4
     have GL:∀u∈D.reverse++R,P u:=λu j=>hP u (GB.mem_iff.mp j);have Hg:D.length<=xs.length:=by rw[<-GZ];simp
     rw[<-GA];generalize D.length=N0 at GK Hf Hg;generalize D.reverse++R=ys at e4 GB GZ GK GL;refine J8 (bQ (Q:=λr Gq=>Gq=GX/\∃n,r=(Z,n)/\1<=n/\n<=xs.length/\Ord lt (ys.take n))
      (LX (λi r Gq=>Gq=GX/\r=(Z,i)/\Ord lt (ys.take i)) ?_ ?_ ⟨rfl,rfl,GK⟩) ?_)
     ·rintro i r Gq h1 hi ⟨rfl,rfl,ho⟩;dsimp only;obtain⟨u,j⟩:∃u,ys[i]?=E u:=⟨_,r4 ∅⟩
      obtain⟨v,O⟩:∃v,ys[i-1]?=E v:=⟨_,r4 ∅⟩
      refine J8 (dM c ((F2.trans GY).kind.trans hk) ((cw e4 rfl).trans j) ((cw e4 ∅).trans O) (GL _ (Ib j)) (GL _ (Ib O)) ?_)
      dsimp only;refine bJ (λh=>?_) (λh=>?_)
      ·exact ar ⟨rfl,i,rfl,∅,∅,ho⟩
      ·exact ar ⟨rfl,rfl,nM c ho ∅ j O (by simpa using h)⟩
     ·rintro r Gq ⟨rfl,rfl,ho⟩;exact⟨rfl,_,rfl,∅,∅,ho⟩
     ·rintro r Gq ⟨rfl,m,rfl,Hl,Hm,ho⟩;refine ar ?_;have:=q (ys.take m) (ys.drop m) Gq (by rw[e4,JS]) (perm_take.trans GB) (fun z=>by
       have h3:=congrArg Pe z;rw[IJ,Kb]at h3;lia) ho (F2.trans GY)
      rw[IJ,LH ∅]at this
      exact this
    clear_value Gz
    refine bJ (λGy=>?_) (λGy=>?_)
    ·refine J8 (jd (L:=L++J) (B:=F) (R:=R) (by rw[ea];simp) (by simp<;>lia) (by simp<;>lia) λGp e3 F2=>?_)
     have F2:=kp.trans F2;have e3:(Jc Gp).toList=L++((J++F.reverse)++R):=by rw[e3];simp
     have GI:=qd hN hE;have GJ:((J++F.reverse)++R).Perm xs:=(Lv _ (LN _ (MJ _))).trans hp;have GA:(J++F.reverse).length=(J++F).length:=by simp
     have GE:0<(J++F.reverse).length:=by simp<;>lia
     exact GD _ _ e3 GI GJ GA GE F2
    ·exact GD _ _ ea hN hp rfl (by simp<;>lia) kp
  clear_value jp
  refine bJ (λh1=>?_) (λh1=>?_)
  ·obtain⟨x0,GM⟩:∃x0,xs[0]?=E x0:=⟨_,r4 GO⟩;refine J8 (dM c hk ((cw U (n:=0) ∅).trans GM) ((cw U ∅).trans hy) (hP _ (Ib GM)) (hP _ (Ib hy)) ?_)
   dsimp only;refine bJ (λhr=>ar GC) (λhr=>?_);have hr:lt x0 y=R9:=by simpa using hr
   have H0:∀u∈xs.take n,lt u x0=R9:=λu j=>by
    obtain⟨i,hi,eu⟩:=LQ.mp j;have GN:(xs.take n)[i]?=E u:=by rw[<-eu];exact r4 hi
    have GF:(xs.take n)[0]?=E x0:=by rw[Kk ∅];exact GM
    by_cases hi0:i=0
    ·subst hi0;rw[GF]at GN;cases GN;exact c.irr
    ·exact jc ho ∅ GF GN
   have Hh:∀u∈xs.take n,lt y u=R9:=qc c ho ∅ hy c.irr
   have heq:∀u∈xs.take n,∀v∈xs.take n,lt u v=R9:=λu j v O=>by exact c.le_trans (c.le_trans (Hh v O) hr) (H0 u j)
   refine J8 (jd (L:=L) (B:=xs.take n) (R:=x::xs.drop (n+1)) (by rw[U];exact congrArg (L ++ ·) exs) rfl (by rw[IJ,LH GP]) λGr e1 Gw=>?_)
   have hB:(xs.take n).reverse.Perm (xs.take n):=MJ _;have Gs:(xs.take n).reverse.length=n:=by rw[PV,IJ];lia
   have Gu:∀u∈(xs.take n).reverse,∀v∈(xs.take n).reverse,lt u v=R9:=λu j v O=>heq u (LW.mp j) v (LW.mp O);have Gv:y∈(xs.take n).reverse:=LW.mpr GQ;exact GR _ _ e1 hB Gs Gu Gv Gw
  ·have Gr:=st';have hn:n=1:=by lia
   have Gw:Kp st' st':=Kp.refl;have e1:(Jc st').toList=L++(xs.take n++x::xs.drop (n+1)):=by rw[U];exact congrArg (L ++ ·) exs
   have hB:(xs.take n).Perm (xs.take n):=Pt _;have Gs:(xs.take n).length=n:=by rw[IJ];lia
   have Gv:=GQ;have Gu:∀u∈xs.take n,∀v∈xs.take n,lt u v=R9:=λu j v O=>by
    have e0:xs.take n=[y]:=by subst hn;rw[nL ∅ hy];rfl
    rw[e0]at j O;simp at j O;subst j O;exact c.irr
   exact GR _ _ e1 hB Gs Gu Gv Gw
end
end Srt
namespace Srt
section
variable{prog:Iy}{w:IY}{A:Ji}{fv:q7->D1->Prop}{s:D1}{kd:Ng}{P:IC->Prop}{lt:IC->IC->Bool}
theorem um(c:Cm prog w A s kd P lt){L r R:List IC}{n:Nat}{st:Kr}{Q:Bool->Kr->Prop}(hk:KI st=kd)(Gp:(Jc st).toList=L++(r++R))(h0:r≠[])(ho:Ord lt r)(hn:r.length<=n)(Gq:n<=(r++R).length)(hP:∀x∈r++R,P x)(q:∀r' R' st',(Jc st').toList=L++(r'++R')->(r'++R').Perm (r++R)->r'.length=n->Ord lt r'->Kp st st'->Q N2 st'):wpS (IB prog w) A fv s (binarySort' L.length n r.length) Q st:=by
 have Gx:0<r.length:=PX.mpr h0;rw[binarySort'_eq];refine J8 (bQ (Q:=λx st'=>x=(Z,())/\∃D T,Kp st st'/\(Jc st').toList=L++(D++T)/\(D++T).Perm (r++R)/\D.length=n/\Ord lt D)
  (LX (λi x st'=>x=(Z,())/\∃D T,Kp st st'/\(Jc st').toList=L++(D++T)/\(D++T).Perm (r++R)/\D.length=i/\Ord lt D) ?_ ?_ ⟨rfl,r,R,Kp.refl,Gp,Pt _,∅,ho⟩) ?_)
 ·rintro k x B Gy Gz ⟨rfl,D,T,kp,ea,O,hD,U⟩;dsimp only;subst hD;have hlen:=O.length_eq;rw[hQ]at hlen;obtain⟨z,T',rfl⟩:∃z T',T=z::T':=by
   cases T with
   |nil=>simp at hlen Gq;lia
   |cons z T'=>exact⟨z,T',rfl⟩
  have Gr:∀u∈D,P u:=λu J=>hP u (O.mem_iff.mp (Km _ J));have Gs:P z:=hP z (O.mem_iff.mp (by simp))
  have hz:(Jc B)[L.length+D.length]?=E z:=by rw[cw ea rfl,HP ∅,MD];rfl
  refine J8 (bQ (Q:=λx st'=>st'=B/\∃k,x=(Z,k,k)/\Gal lt R9 z D k k)
   (LX (fun i x st'=>st'=B/\∃lo hi,x=(Z,lo,hi)/\Gal lt R9 z D lo hi/\hi-lo+i<=D.length) ?_ ?_ ⟨rfl,0,D.length,rfl,⟨∅,∅,fun _ _ h=>∅,fun i x hi hx=>by have:=(HU.mp hx).1;lia⟩,∅⟩) ?_)
  ·rintro i x F2 _ hi ⟨rfl,lo,j,rfl,F,hm⟩;dsimp only;have hl:=F.le;have Gu:=F.len;refine bJ (λGv=>?_) (λGv=>?_)
   ·exact ar ⟨rfl,j,by rw[show lo=j by lia],by rw[show lo=j by lia]at F;exact F⟩
   ·obtain⟨u,J⟩:∃u,D[(lo+j) / 2]?=E u:=⟨_,r4 ∅⟩
    have Gw:(Jc F2)[L.length+(lo+j) / 2]?=E u:=by rw[cw ea rfl,HX ∅];exact J
    refine J8 (dM c (kp.kind.trans hk) hz Gw Gs (Gr _ (Ib J)) ?_);dsimp only;refine bJ (λhf=>?_) (λhf=>?_)
    ·exact ar ⟨rfl,_,_,rfl,⟨∅,∅,F.up,Df c U J (by simp[bey,hf])⟩,∅⟩
    ·exact ar ⟨rfl,_,_,rfl,⟨∅,Gu,De c U J (by simpa[bey]using hf),F.dn⟩,∅⟩
  ·rintro x F2 ⟨rfl,lo,j,rfl,F,hm⟩;have hl:=F.le;exact⟨rfl,j,by rw[show lo=j by lia],by rw[show lo=j by lia]at F;exact F⟩
  ·rintro x F2 ⟨rfl,l,rfl,F⟩;dsimp only;obtain⟨X,Y,e,hl,hX,hY⟩:=F.out;subst hl e;rw[moveDown'_eq];refine J8 (RX ?_);refine ar ⟨rfl,X++z::Y,T',kp.trans ⟨rfl,rfl,rfl⟩,pL ea (by simp) (by simp;lia),?_,by simp;lia,?_⟩
   ·refine Sd.trans ?_ O;rw[IV,IV];refine LN _ ?_;rw[Oy];exact QY.symm
   ·obtain⟨o1,o2,o3⟩:=IH.mp U;refine IH.mpr ⟨o1,KR.mpr ⟨λu J=>c.asym _ _ (by have:=hY u J;simpa[bey]using this),o2⟩,λu J v hv=>?_⟩
    rcases Ij.mp hv with g|g
    ·subst g;have:=hX u J;simpa[bey]using this
    ·exact o3 u J v g
 ·rintro x B ⟨rfl,D,T,kp,ea,O,hD,U⟩;exact⟨rfl,D,T,kp,ea,O,∅,U⟩
 ·rintro x B ⟨rfl,D,T,kp,ea,O,hD,U⟩;exact ar (q D T B ea O hD U kp)
noncomputable def Pd:Nat->List (List IC)->List (Nat×Nat×Nat)->Prop
 |_,[],ps=>ps=[]
 |s,r::rs,ps=>∃p t,ps=(s,r.length,p)::t/\Pd (s+r.length) rs t
theorem SR:∀{l t:List (List IC)} {s:Nat} {ps:List (Nat×Nat×Nat)},Pd s (l++t) ps->∃pl pt,ps=pl++pt/\pl.length=l.length/\Pd s l pl/\Pd (s+l.flatten.length) t pt
 |[],t,s,ps,h=>⟨[],ps,rfl,rfl,rfl,by simpa using h⟩
 |r::l,t,s,ps,h=>by
  obtain⟨p,q,e,h⟩:=h;obtain⟨pl,pt,j,z,h1,h2⟩:=SR h;refine⟨(s,r.length,p)::pl,pt,by rw[e,j];rfl,by simp[z],⟨p,pl,rfl,h1⟩,?_⟩
  rw[K0,hQ,<-Nat.add_assoc];exact h2
theorem Pd.length:∀{l:List (List IC)} {s:Nat} {ps:List (Nat×Nat×Nat)},Pd s l ps->ps.length=l.length
 |[],_,_,h=>by rw[show _=[]from h];rfl
 |r::l,s,ps,h=>by obtain⟨p,q,e,h⟩:=h;rw[e];simp[h.length]
structure Rn(lt:IC->IC->Bool)(kd:Ng)(a₀:List IC)(st:Kr)(rs:List (List IC))(R:List IC):Prop where
 arr:(Jc st).toList=rs.flatten++R
 perm:(rs.flatten++R).Perm a₀
 ord:∀r∈rs,r≠[]/\Ord lt r
 pend:Pd 0 rs (KN st).toList
 kind:KI st=kd
 fail:Me st=Z
theorem Rn.size{a₀:List IC}{st:Kr}{rs:List (List IC)}{R:List IC}(h:Rn lt kd a₀ st rs R):rs.flatten.length+R.length=a₀.length:=by have:=h.perm.length_eq;rw[hQ]at this;exact this
end
end Srt
namespace Srt
def gL(cap:Nat):Prop:=∀(prog:Iy) (w:IY) (A:Ji) (fv:q7->D1->Prop) (s:D1) (kd:Ng) (P:IC->Prop) (lt:IC->IC->Bool),Cm prog w A s kd P lt->∀(st:Kr) (Q:Unit->Kr->Prop),KI st=kd->Me st=Z->KN st=#[]->(∀x∈(Jc st).toList,P x)->2<=(Jc st).size->(Jc st).size<=cap->
 (∀st',(Jc st').toList.Perm (Jc st).toList->Ord lt (Jc st').toList->Me st'=Z->Q () st')->wpS (IB prog w) A fv s sortRuns' Q st
theorem pN:gL 63:=by
 intro prog w A fv s kd P lt c st Q hk hf F2 hP h2 Gp q;rw[sortRuns'_eq];refine J8 (QG ?_);dsimp only;have O:minRun' (Jc st).size (Jc st).size 0=(Jc st).size:=by
  obtain⟨f,hf⟩:∃f,(Jc st).size=f+1:=⟨(Jc st).size-1,∅⟩
  have:minRun' (f+1) (Jc st).size 0=(Jc st).size:=by rw[minRun'_succ,if_pos ∅];rfl
  rwa[<-hf]at this
 rw[O];have hsz:(Jc st).size=(Jc st).toList.length:=by simp
 generalize hA:(Jc st).toList=a₀ at hP q hsz;generalize hS:(Jc st).size=size at hsz h2 Gp O;have h0:a₀≠[]:=λz=>by rw[z]at hsz;simp at hsz;lia
 refine J8 (bQ (Q:=λr st'=>r=(Z,size)/\(Jc st').toList.Perm a₀/\Ord lt (Jc st').toList/\Me st'=Z/\KN st'=#[(0,size,0)])
  (LX (λi r st'=>(i=0/\r=(Z,0)/\st'=st)∨(1<=i/\r=(Z,size)/\(Jc st').toList.Perm a₀/\Ord lt (Jc st').toList/\Me st'=Z/\KN st'=#[(0,size,0)])) ?_ ?_ (.inl ⟨rfl,rfl,rfl⟩)) ?_)
 ·rintro i r B _ hi (⟨rfl,rfl,rfl⟩|⟨_,rfl,hD⟩)
  ·dsimp only;rw[if_neg ∅]
   rw[show size-0=a₀.length by lia,show min a₀.length size=size by lia]
   refine J8 (pM (L:=[]) c hk hA h0 hP λr R U ea F Gq ho kp=>?_);dsimp only;have hl:=F.length_eq;rw[hQ]at hl;have fin:∀(r':List IC) (j:Kr),(Jc j).toList=r'->r'.Perm a₀->Ord lt r'->Kp B j->wpS (IB prog w) A fv s (modify λz=>setPending z ((KN z).push (0,size,0))) (λ_ st'=>(Jc st').toList.Perm a₀/\Ord lt (Jc st').toList/\Me st'=Z/\KN st'=#[(0,size,0)]) j:=λr' j e3 p3 o3 k3=>by refine RX ?_;exact⟨by show(Jc j).toList.Perm a₀;rw[e3];exact p3,by show Ord lt (Jc j).toList;rw[e3];exact o3,k3.fail.trans hf,by show(KN j).push _=_;rw[k3.pend,F2];rfl⟩
   by_cases hlt:r.length<size
   ·rw[if_pos hlt];refine J8 (nJ ?_);refine J8 (um (L:=[]) c (kp.kind.trans hk) ea Gq ho (n:=size) ∅ (by simp;lia) (λx hx=>hP x (F.mem_iff.mp hx)) λr2 R2 j Gr J Gx Gs Y=>?_)
    rw[if_neg (by simp)]
    refine J8 (QG ?_);have hb:(KN j).back?=Z:=by rw[Y.pend,kp.pend,F2];rfl
    rw[hb];dsimp only;have Gu:=J.length_eq;rw[hQ,hQ]at Gu;have:R2=[]:=Jf.mp ∅
    subst this;rw[show 0+size=size by lia]
    refine J8 (bQ (fin r2 j (by simpa using Gr) (by simpa using J.trans F) Gs (kp.trans Y)) λ_ Gv h4=>ar (.inr ⟨∅,rfl,h4⟩))
   ·rw[if_neg hlt];refine J8 (QG ?_);have hb:(KN U).back?=Z:=by rw[kp.pend,F2];rfl
    rw[hb];dsimp only;have:R=[]:=Jf.mp ∅
    subst this;have Gw:r.length=size:=by simp at hl;lia
    rw[Gw,show 0+size=size by lia]
    refine J8 (bQ (fin r U (by simpa using ea) (by simpa using F) ho kp) λ_ Gv h4=>ar (.inr ⟨∅,rfl,h4⟩))
  ·dsimp only;rw[if_pos (HW _)];exact ar ⟨rfl,hD⟩
 ·rintro r B (⟨h,_,_⟩|⟨_,rfl,hD⟩)
  ·lia
  ·exact⟨rfl,hD⟩
 ·rintro r B ⟨rfl,p1,o1,f1,pd⟩;dsimp only;refine J8 (bQ (LX (I:=λ_ c st''=>st''=B/\c=(Z,())) (Q:=λc st''=>st''=B/\c=(Z,())) ?_ (λ_ _ hh=>hh) ⟨rfl,rfl⟩) ?_)
  ·rintro x c st'' _ _ ⟨rfl,rfl⟩;refine J8 (QG ?_);rw[if_pos (by rw[pd];exact HW 1)]
   exact ar ⟨rfl,rfl⟩
  ·rintro c st'' ⟨rfl,rfl⟩;exact ar (q _ p1 o1 f1)
end Srt
namespace Srt
inductive Ky where
 |int (i:Int)
 |tup (l:List Ky)
mutual
noncomputable def ay:Ky->Ky->Ordering
 |.int a,.int b=>if a<b then .lt else if a=b then .eq else .gt
 |.int _,.tup _=>.lt
 |.tup _,.int _=>.gt
 |.tup a,.tup b=>cmpKs a b
noncomputable def cmpKs:List Ky->List Ky->Ordering
 |[],[]=>.eq
 |[],_::_=>.lt
 |_::_,[]=>.gt
 |x::xs,y::ys=>(ay x y).then (cmpKs xs ys)
end
mutual
theorem cX:∀a b,ay b a=(ay a b).swap
 |.int a,.int b=>by
  simp only[ay]
  by_cases h1:a<b
  ·rw[if_pos h1,if_neg ∅,if_neg ∅];rfl
  ·by_cases h2:a=b
   ·rw[if_neg h1,if_pos h2,if_neg ∅,if_pos h2.symm];rfl
   ·rw[if_neg h1,if_neg h2,if_pos ∅];rfl
 |.int _,.tup _=>by simp[ay]
 |.tup _,.int _=>by simp[ay]
 |.tup a,.tup b=>by simp only[ay];exact cmpKs_swap a b
theorem cmpKs_swap:∀a b,cmpKs b a=(cmpKs a b).swap
 |[],[]=>rfl
 |[],_::_=>rfl
 |_::_,[]=>rfl
 |x::xs,y::ys=>by
  simp only[cmpKs];rw[cX x y,cmpKs_swap xs ys]
  cases ay x y<;>rfl
end
mutual
theorem gM:∀a b,ay a b=.eq->a=b
 |.int a,.int b,h=>by
  simp only[ay]at h
  by_cases h1:a<b
  ·rw[if_pos h1]at h;cases h
  ·by_cases h2:a=b
   ·rw[h2]
   ·rw[if_neg h1,if_neg h2]at h;cases h
 |.int _,.tup _,h=>by simp[ay]at h
 |.tup _,.int _,h=>by simp[ay]at h
 |.tup a,.tup b,h=>by simp only[ay]at h;rw[cmpKs_eq a b h]
theorem cmpKs_eq:∀a b,cmpKs a b=.eq->a=b
 |[],[],_=>rfl
 |[],_::_,h=>by simp[cmpKs]at h
 |_::_,[],h=>by simp[cmpKs]at h
 |x::xs,y::ys,h=>by
  simp only[cmpKs]at h
  cases e:ay x y with
  |lt=>rw[e]at h;cases h
  |gt=>rw[e]at h;cases h
  |eq=>rw[e]at h;rw[gM x y e,cmpKs_eq xs ys h]
end
mutual
theorem je:∀a b c,ay a b=.lt->ay b c=.lt->ay a c=.lt
 |.int a,.int b,.int c,h,g=>by
  simp only[ay]at h g⊢;have h1:a<b:=by
   by_cases h1:a<b
   ·exact h1
   ·rw[if_neg h1]at h;split at h<;>cases h
  have h2:b<c:=by
   by_cases h1:b<c
   ·exact h1
   ·rw[if_neg h1]at g;split at g<;>cases g
  rw[if_pos ∅]
 |.int _,.tup _,.int _,_,g=>by simp[ay]at g
 |.int _,.int _,.tup _,_,_=>by simp[ay]
 |.int _,.tup _,.tup _,_,_=>by simp[ay]
 |.tup _,.int _,_,h,_=>by simp[ay]at h
 |.tup _,.tup _,.int _,_,g=>by simp[ay]at g
 |.tup a,.tup b,.tup c,h,g=>by simp only[ay]at h g⊢;exact cmpKs_trans a b c h g
theorem cmpKs_trans:∀a b c,cmpKs a b=.lt->cmpKs b c=.lt->cmpKs a c=.lt
 |[],[],_,h,_=>by simp[cmpKs]at h
 |[],_::_,[],_,g=>by simp[cmpKs]at g
 |[],_::_,_::_,_,_=>by simp[cmpKs]
 |_::_,[],_,h,_=>by simp[cmpKs]at h
 |_::_,_::_,[],_,g=>by simp[cmpKs]at g
 |x::xs,y::ys,z::zs,h,g=>by
  simp only[cmpKs]at h g⊢
  cases e:ay x y with
  |gt=>rw[e]at h;cases h
  |eq=>
   have:=gM x y e;subst this;rw[e]at h
   cases e2:ay x z with
   |gt=>rw[e2]at g;cases g
   |lt=>rfl
   |eq=>rw[e2]at g;exact cmpKs_trans xs ys zs h g
  |lt=>
   cases e2:ay y z with
   |gt=>rw[e2]at g;cases g
   |lt=>rw[je x y z e e2];rfl
   |eq=>have:=gM y z e2;subst this;rw[e];rfl
end
noncomputable def ltK(a b:Ky):Bool:=ay a b==.lt
noncomputable def nN(a b:List Ky):Bool:=cmpKs a b==.lt
theorem xm(a b:Ky)(h:ltK a b=N2):ltK b a=R9:=by unfold ltK at h⊢;rw[cX a b,(by simpa using h:ay a b=.lt)];rfl
theorem ln(a b:Ky)(h:ltK a b=R9)(g:ltK b a=R9):a=b:=by
 unfold ltK at h g;rw[cX a b]at g;apply gM
 cases e:ay a b with
 |eq=>rfl
 |lt=>rw[e]at h;cases h
 |gt=>rw[e]at g;cases g
theorem zF(a b c:Ky)(h:ltK a c=N2):ltK a b=N2∨ltK b c=N2:=by
 cases e:ltK a b with
 |true=>exact .inl rfl
 |false=>
  right
  cases j:ltK b a with
  |false=>rw[ln a b e j]at h;exact h
  |true=>unfold ltK at h j⊢;rw[je b a c (by simpa using j) (by simpa using h)];rfl
theorem uo(x y:Ky)(xs ys:List Ky):nN (x::xs) (y::ys)=if(!ltK x y && !ltK y x)=N2 then nN xs ys else ltK x y:=by
 unfold nN ltK;rw[cX x y];simp only[cmpKs]
 cases ay x y<;>simp
mutual
noncomputable def toK:Js->Ky
 |.int i=>.int i
 |.tuple xs=>.tup (toKs xs)
 |_=>.int 0
noncomputable def toKs:List Js->List Ky
 |[]=>[]
 |x::xs=>toK x::toKs xs
end
inductive Cmpb:Js->Js->Prop where
 |int (a b:Int):Cmpb (.int a) (.int b)
 |nil (ys:List Js):Cmpb (.tuple []) (.tuple ys)
 |nil' (xs:List Js):Cmpb (.tuple xs) (.tuple [])
 |cons {x y:Js} {xs ys:List Js}:Cmpb x y->Cmpb (.tuple xs) (.tuple ys)->Cmpb (.tuple (x::xs)) (.tuple (y::ys))
theorem Cmpb.eqv{x y:Js}(h:Cmpb x y):Jz x y=(!ltK (toK x) (toK y) && !ltK (toK y) (toK x)):=by
 have g:∀{x y:Js},Cmpb x y->Jz x y=(ay (toK x) (toK y)==.eq):=by
  intro x y h
  induction h with
  |int a b=>
   simp only[Jz,toK,ay]
   by_cases h1:a<b
   ·rw[if_pos h1];simp;lia
   ·by_cases h2:a=b
    ·rw[if_neg h1,if_pos h2];simp[h2]
    ·rw[if_neg h1,if_neg h2];simp;lia
  |nil ys=>cases ys<;>simp[Jz,N8,toK,toKs,ay,cmpKs]
  |nil' xs=>cases xs<;>simp[Jz,N8,toK,toKs,ay,cmpKs]
  |@cons x y xs ys h1 h2 ih1 j=>
   simp only[Jz]at j⊢;simp only[N8,toK,toKs,ay,cmpKs]at j⊢;rw[ih1,j]
   cases ay (toK x) (toK y)<;>simp
 rw[g h];unfold ltK;rw[cX (toK x) (toK y)]
 cases ay (toK x) (toK y)<;>rfl
section
variable{prog:Iy}{w:IY}{A:Ji}{fv:q7->D1->Prop}{s:D1}
theorem trd{b:Bool}{Q:Bool->D1->Prop}(q:Q b s):Ik (IB prog w) A (truthOfDropped (.bool b)) Q fv s:=by
 unfold truthOfDropped
 wp_walk
 exact q
theorem gN(a b:Int):ltK (.int a) (.int b)=decide (a<b):=by
 simp only[ltK,ay]
 by_cases h:a<b
 ·simp[h]
 ·by_cases h2:a=b<;>simp[h,h2]
theorem uq{a b:Int}{t u:Tok}{Q:q7->D1->Prop}(q:Q (.bool (decide (a<b))) s):Ik (IB prog w) A (Ro .Lt (.int a t) (.int b u)) Q fv s:=wpAny_richCompare_same (T:="int") rfl rfl F.slot_int_lt (call_int_lt ⟨by simp,q⟩)
noncomputable def cy:List Js->List Js->Option Bool
 |x::xs,y::ys=>if Jz x y=N2 then cy xs ys else E (ltK (toK x) (toK y))
 |_,_=>Z
theorem io:∀{xs ys:List Js},Cmpb (.tuple xs) (.tuple ys)->ltK (toK (.tuple xs)) (toK (.tuple ys))=match cy xs ys with|some b=>b|none=>decide (xs.length<ys.length)
 |[],[],_=>rfl
 |[],_::_,_=>by simp[cy,toK,toKs,ltK,ay,cmpKs]
 |_::_,[],_=>by simp[cy,toK,toKs,ltK,ay,cmpKs]
 |x::xs,y::ys,h=>by
  cases h with
  |cons h1 h2=>
   have ih:=io h2;have e:∀a b:List Ky,ltK (.tup a) (.tup b)=nN a b:=λa b=>by simp[ltK,nN,ay]
   simp only[toK,toKs,e]at ih⊢;rw[uo,<-h1.eqv];simp only[cy]
   split
   ·rw[ih];simp
   ·rfl
noncomputable def cF{α β:Type}(M:NZ)(A:Ji)(fv:q7->D1->Prop)(f:α->β->Sem (ForInStep β))(Q:β->D1->Prop):List α->β->D1->Prop
 |[],c,s=>Q c s
 |x::xs,c,s=>Ik M A (f x c) (λr s'=>match r with|.done c'=>Q c' s'|.yield c'=>cF M A fv f Q xs c' s') fv s
theorem fu{α β:Type}{M:NZ}{f:α->β->Sem (ForInStep β)}{Q:β->D1->Prop}:∀{l:List α} {c:β} {s:D1},cF M A fv f Q l c s->Ik M A (forIn l c f) Q fv s
 |[],c,s,h=>by rw[Pj];exact D2 h
 |x::xs,c,s,h=>by
  rw[LD];refine gV (Kf h (λr s' j=>?_) λ_ _ z=>z)
  cases r with
  |done c'=>exact D2 j
  |yield c'=>exact fu j
theorem cg{h:Heap}:∀{vs:List q7} {xs:List Js} {as:List SS},Pq h vs xs as->vs.length=xs.length
 |_,_,_,.nil=>rfl
 |_,_,_,.cons _ r=>by simp[cg r]
theorem ip{α β:Type}{M:NZ}{n:Nat}{f:α->Option β×Unit->Sem (ForInStep (Option β×Unit))}{g:Bool->β}{pr:α->q7×q7}{Q:Option β×Unit->D1->Prop}:
 ∀{l:List α} {vs us:List q7} {xs ys:List Js} {as bs:List SS},l.map pr=vs.zip us->Pq s.heap vs xs as->Pq s.heap us ys bs->Cmpb (.tuple xs) (.tuple ys)->JD xs=N2->JD ys=N2->KD xs<=n->
  (∀(z:α) (x y:q7) (d e:Js) (as bs:List SS) (R:ForInStep (Option β×Unit)->D1->Prop),z∈l->pr z=(x,y)->MB s.heap x d as->MB s.heap y e bs->Cmpb d e->d.canLay0=N2->e.canLay0=N2->d.depth<=n->
   R (if Jz d e=N2 then .yield (Z,())else .done (E (g (ltK (toK d) (toK e))),())) s->Ik M A (f z (Z,())) R fv s)->
  Q ((cy xs ys).map g,()) s->cF M A fv f Q l (Z,()) s
 |[],vs,us,xs,ys,as,bs,e,j,B,F,_,_,_,_,q=>by
  have h1:=cg j;have h2:=cg B;have:vs=[]∨us=[]:=by
   cases vs with
   |nil=>exact .inl rfl
   | cons v vs=>cases us with
     |nil=>exact .inr rfl
     |cons u us=>simp at e
  have J:cy xs ys=Z:=by
   rcases this with rfl|rfl
   ·cases xs with
    |nil=>simp[cy]
    |cons x xs=>simp at h1
   ·cases ys with
    |nil=>cases xs<;>simp[cy]
    |cons y ys=>simp at h2
  rw[J]at q;exact q
 |z::l,vs,us,xs,ys,as,bs,e,j,B,F,lx,ly,hd,hf,q=>by
  cases j with
  |nil=>simp at e
  |cons rx j=>
   cases B with
   |nil=>simp at e
   |cons ry B=>
    simp only[Ii,List.zip_cons_cons,RB]at e;simp only[JD,D0]at lx ly;simp only[KD]at hd
    cases F with
    |cons L O=>
     simp only[cF];refine hf z _ _ _ _ _ _ _ (by simp) e.1 rx ry L lx.1 ly.1 ∅ ?_
     simp only[cy]at q
     split at q
     ·next h=>rw[if_pos h];exact ip e.2 j B O lx.2 ly.2 ∅ (λz x y d e as bs R U=>hf z x y d e as bs R (by simp[U])) q
     ·next h=>rw[if_neg h];exact q
def Ei(n:Nat):Prop:=∀(prog:Iy) (w:IY) (A:Ji) (s:D1) (a b:q7) (d e:Js) (as bs:List SS) (fv:q7->D1->Prop) (Q:q7->D1->Prop),d.depth<=n->Cmpb d e->MB s.heap a d as->MB s.heap b e bs->d.canLay0=N2->e.canLay0=N2->A.units+n+1<Lk->
 Q (.bool (ltK (toK d) (toK e))) s->Ik (IB prog w) A (Ro .Lt a b) Q fv s
theorem Dg:∀n,Ei n:=by
 intro n
 induction n with
 |zero=>
  intro prog w A s a b d e as bs fv Q hd z ra rb ld le hu q
  cases z with
  |int i j=>
   cases ra;cases rb
   exact uq (by rw[<-gN];exact q)
  |nil ys=>simp[Lw]at hd
  |nil' xs=>simp[Lw]at hd
  |cons _ _=>simp[Lw]at hd
 |succ n ih=>
  intro prog w A s a b d e as bs fv Q hd z ra rb ld le hu q;have tup:∀xs ys,d=.tuple xs->e=.tuple ys->Ik (IB prog w) A (Ro .Lt a b) Q fv s:=by
   rintro xs ys rfl rfl
   cases ra with
   |tuple h1 h2 h3 L=>
    cases rb with
    |tuple g1 g2 g3 O=>
     rename_i l ol vl nl p ob vb nb;have tl:s.TypeIs (.ref l) "tuple":=⟨_,h1,h2⟩;have tb:s.TypeIs (.ref p) "tuple":=⟨_,g1,g2⟩;refine wpAny_richCompare_same_room tl tb RC (Jj RC tl F.entry_tuple_lt ?_ (F.args_tuple_lt_2 _ _)) ∅
     unfold KW.«tuple.__lt__»;refine gV ?_;have U:isSubtype (.type "tuple") (.type "tuple")=pure N2:=by rw[MK];kernel_rfl
     wp_walk
     rw[h3]
     wp_walk
     rw[g3];refine D2 ?_;refine D2 ?_;refine gV (fu (ip (n:=n) (g:=λb=>Fin.done (Flow.ret (RJ b))) (pr:=id) (Rp _) L O z ld le (by simp[Lw]at hd;lia) ?_ ?_))
     ·rintro⟨x,y⟩ x' y' d e as bs R _ hz rx ry z ld le hd r
      cases hz
      dsimp only;refine gV (QZ d e _ _ _ _ _ _ rx ry ld le ?_ prog w fv _ ?_)
      ·show A.units+1+min d.depth e.depth<Lk;lia
      ·by_cases B:Jz d e=N2
       ·rw[if_pos B]at r;rw[B];exact D2 r
       ·rw[if_neg B]at r;have B:Jz d e=R9:=by simpa using B
        rw[B];refine gV (Kh (gV (ih prog w _ s x y d e as bs fv _ hd z rx ry ld le ?_ ?_)))
        ·show A.units+1+n+1<Lk;lia
        ·exact D2 r
     ·have J:=io z
      cases e2:cy xs ys with
      |some b=>rw[e2]at J;dsimp only at J;rw[J]at q;exact D2 ⟨_,rfl,by simp,q⟩
      |none=>
       rw[e2]at J;dsimp only at J;rw[J]at q;have Y:=cg L;have F2:=cg O;refine D2 ⟨_,rfl,?_,?_⟩
       ·simp[MU]
       ·simp only[Jw]at Y F2;simp only[MU];rw[Y,F2];exact q
  cases z with
  |int i j=>
   cases ra;cases rb
   exact uq (by rw[<-gN];exact q)
  |nil ys=>exact tup _ _ rfl rfl
  |nil' xs=>exact tup _ _ rfl rfl
  |cons _ _=>exact tup _ _ rfl rfl
end
end Srt
namespace Srt
section
variable{prog:Iy}{w:IY}{A:Ji}{fv:q7->D1->Prop}{s:D1}
theorem jf{α β:Type}{M:NZ}{f:α->Sem β}{g:α->β}:∀{l:List α} {Q:List β->D1->Prop},(∀x∈l,∀R:β->D1->Prop,R (g x) s->Ik M A (f x) R fv s)->Q (l.map g) s->Ik M A (l.mapM f) Q fv s
 |[],Q,_,q=>by rw[List.mapM_nil];exact D2 q
 |x::xs,Q,h,q=>by rw[List.mapM_cons];refine gV (h x (by simp) _ (gV (jf (λy j=>h y (by simp[j])) (D2 q))))
theorem eE{α β:Type}{M:NZ}{f:α->Sem β}{g:α->β}{xs:Array α}{Q:Array β->D1->Prop}(h:∀x∈xs.toList,∀R:β->D1->Prop,R (g x) s->Ik M A (f x) R fv s)(q:Q (xs.map g) s):Ik M A (xs.mapM f) Q fv s:=by
 rw[Array.mapM_eq_mapM_toList];rw[map_eq_pure_bind];refine gV (jf h (D2 ?_));have:(xs.toList.map g).toArray=xs.map g:=by apply N4.mp;simp
 rw[this];exact q
theorem lp{a:SS}{v:q7}{vs:List q7}{o:Obj}{n:Nat}(h1:s.heap.get? a=E o)(h2:o.cls=.type "tuple")(j:o.data=.seq (v::vs).toArray n){Q:Option q7->D1->Prop}(q:Q (E v) s):Ik (IB prog w) A (firstOfTuple' (.ref a)) Q fv s:=by
 unfold firstOfTuple';have ty:s.TypeIs (.ref a) "tuple":=⟨_,h1,h2⟩
 wp_walk
 rw[j];refine D2 ?_;refine D2 ?_;exact D2 q
theorem zG{a:SS}{o:Obj}{T:q7}(h1:s.heap.get? a=E o)(h2:o.cls=T){Q:q7->D1->Prop}(q:Q T s):Ik (IB prog w) A (typeOf (.ref a)) Q fv s:=by
 wp_walk
 rw[h2];exact q
theorem uu{n:Nat}{x y:q7}{d e:Js}{as bs:List SS}(j:Cmpb d e)(rx:MB s.heap x d as)(ry:MB s.heap y e bs)(ld:d.canLay0=N2)(le:e.canLay0=N2)(hd:d.depth<=n)(z:A.units+n+1<Lk){Q:Bool->D1->Prop}(q:Q (ltK (toK d) (toK e)) s):Ik (IB prog w) A (oneLt' R9 x y) Q fv s:=by rw[oneLt'_eq];exact gV (Dg n prog w A s x y d e as bs fv _ hd j rx ry ld le z (trd q))
theorem lq{n:Nat}{b:Bool}{x y:q7}{xs ys:List Js}{as bs:List SS}(hb:b=N2->∀d e,xs.head?=E d->ys.head?=E e->(∃i,d=.int i)/\∃i,e=.int i)(J:Cmpb (.tuple xs) (.tuple ys))(rx:MB s.heap x (.tuple xs) as)(ry:MB s.heap y (.tuple ys) bs)(lx:JD xs=N2)(ly:JD ys=N2)(hd:KD xs<=n)(hu:A.units+n+1<Lk){Q:Bool->D1->Prop}(q:Q (ltK (toK (.tuple xs)) (toK (.tuple ys))) s):
 Ik (IB prog w) A (keyLt' (tuples' b) x y) Q fv s:=by
 cases rx with
 |tuple h1 h2 h3 L=>
  cases ry with
  |tuple g1 g2 g3 O=>
   refine gV (QH h1 h3 ?_);refine gV (QH g1 g3 ?_);refine gV (fu (ip (n:=n) (g:=id) (pr:=Prod.fst) (List.zipIdx_map_fst _ _) L O J lx ly hd ?_ ?_))
   ·rintro⟨⟨x,y⟩,i⟩ x' y' d e as bs R hz hp rx ry J ld le hd r
    cases hp
    dsimp only;refine gV (QZ d e _ _ _ _ _ _ rx ry ld le ∅ prog w fv _ ?_)
    by_cases F:Jz d e=N2
    ·rw[if_pos F]at r;rw[F];exact D2 r
    ·rw[if_neg F]at r;have F:Jz d e=R9:=by simpa using F
     rw[F];refine gV ?_
     by_cases z:(b&&i==0)=N2
     ·rw[z];simp only[D0,beq_iff_eq]at z;obtain⟨rfl,rfl⟩:=z;have j:=LI.mp hz;obtain⟨Y,F2,t1,t2,B,U⟩:∃(Y F2:Int) (t1 t2:Tok),x=.int Y t1/\y=.int F2 t2:=by
       generalize hV:OE _=vl at L j;generalize hU:OE _=ul at O j
       cases L with
       |nil=>simp at j
       |cons p1 p2=>
        cases O with
        |nil=>simp at j
        |cons q1 q2=>
         simp at j;obtain⟨⟨Y,ei⟩,⟨F2,ej⟩⟩:=hb rfl _ _ rfl rfl;subst ei ej
         cases p1;cases q1
         exact⟨_,_,_,_,j.1.symm,j.2.symm⟩
      subst B U
      cases rx;cases ry
      refine oneLt_int ?_;rw[<-gN];exact D2 r
     ·have z:(b&&i==0)=R9:=by simpa using z
      rw[z];exact uu J rx ry ld le hd hu (D2 r)
   ·have B:=io J
    cases U:cy xs ys with
    |some b=>rw[U]at B;dsimp only at B;rw[B]at q;exact D2 q
    |none=>rw[U]at B;dsimp only at B;rw[B]at q;have n1:=cg L;have n2:=cg O;refine D2 ?_;simp only[Jw]at n1 n2;rw[n1,n2];exact q
end
end Srt
namespace Srt
structure nO(n:Nat)(ds:List Js):Prop where
 cmp:∀d∈ds,∀e∈ds,Cmpb d e
 lay:∀d∈ds,d.canLay0=N2/\d.depth<=n
 kind:(∀d∈ds,∃i,d=.int i)∨(∀d∈ds,∃i xs,d=.tuple (.int i::xs))∨(∀d∈ds,∃ys xs,d=.tuple (.tuple ys::xs))
noncomputable def cI(h:Heap):q7->Option q7
 |.ref a=>(h.get? a).bind λo=>match o.data with|.seq xs _=>xs[0]?|_=>Z
 |_=>Z
variable{vs:List q7}{h:Heap}{v:q7}
section
variable{prog:Iy}{w:IY}{A:Ji}{fv:q7->D1->Prop}{s:D1}
noncomputable def dz(h:Heap)(x:IC):Ky:=toK (K5 h x.1)
def RdL(h:Heap)(vs:List q7)(ds:List Js):Prop:=∀v∈vs,∃d∈ds,∃as,MB h v d as
theorem gj{arr:Array q7}{T:String}(h0:0<arr.size)(h:∀v∈arr.toList,∀R:q7->D1->Prop,R (.type T) s->Ik (IB prog w) A (typeOf v) R fv s){Q:Option q7->D1->Prop}(q:Q (E (.type T)) s):Ik (IB prog w) A (oneTypeOnly' arr) Q fv s:=by
 rw[oneTypeOnly'_eq];refine gV (eE (g:=λ_=>JF T) h ?_);have e:(N5 (λ_=>JF T) arr)[0]?=E (JF T):=by rw[Array.getElem?_map,Jq h0];rfl
 rw[e];dsimp only;have j:((N5 (λ_=>JF T) arr).all λx=>x==JF T)=N2:=by rw[QI];intro i hi;simp
 rw[j];exact D2 q
theorem rY{n:Nat}{kd:Ng}{ds:List Js}(j:RdL s.heap vs ds)(hs:nO n ds)(h:∀(x y:q7) (d e:Js) (as bs:List SS) (fv:q7->D1->Prop) (Q:Bool->D1->Prop),d∈ds->e∈ds->MB s.heap x d as->MB s.heap y e bs->Q (ltK (toK d) (toK e)) s->Ik (IB prog w) A (keyLt' kd x y) Q fv s):
 Cm prog w A s kd (λx=>x.1∈vs) (λx y=>ltK (dz s.heap x) (dz s.heap y)) where
 asym:=λx y=>xm _ _
 neg:=λx y z=>zF _ _ _
 run:=λx y fv Q hx B q=>by obtain⟨d,hd,as,ra⟩:=j _ hx;obtain⟨e,he,bs,rb⟩:=j _ B;have F:=L5 (hs.lay d hd).1 ra;have J:=L5 (hs.lay e he).1 rb;unfold dz at q;rw[F,J]at q;exact h _ _ d e as bs fv Q hd he ra rb q
theorem nP(j:∀v∈vs,∃u,cI h v=E u):((vs.toArray.map (cI h)).all λx=>x.isSome)=N2:=by rw[QI];intro i hi;simp at hi;obtain⟨u,z⟩:=j vs[i] (JO hi);simp[z]
theorem uw{x:q7}(hx:x∈(RE id (vs.toArray.map (cI h))).toList):∃v∈vs,cI h v=E x:=by simp at hx;exact hx
theorem uz{u:q7}(j:cI h v=E u):0<(RE id ((v::vs).toArray.map (cI h))).size:=by rw[<-Jw];simp[j]
theorem lr{d:Js}{xs:List Js}{as:List SS}(r:MB h v (.tuple (d::xs)) as):∃a o u us n bs,v=.ref a/\h.get? a=E o/\o.cls=.type "tuple"/\o.data=.seq (u::us).toArray n/\MB h u d bs:=by
 cases r with
 |@tuple a o vs n xs as h1 h2 j h4=>
  generalize z:vs.toList=vl at h4
  cases h4 with
  |@cons u us _ _ bs _ B p2=>exact⟨_,_,u,us,n,bs,rfl,h1,h2,by rw[j];congr 1;apply N4.mp;simpa using z,B⟩
theorem Dh{n:Nat}{ds:List Js}(F2:RdL s.heap (v::vs) ds)(hs:nO n ds)(z:A.units+n+1<Lk):
 ∃kd,(∀(fv:q7->D1->Prop) (Q:Ng->D1->Prop),Q kd s->Ik (IB prog w) A (keyKind' (v::vs).toArray) Q fv s)/\Cm prog w A s kd (λx=>x.1∈v::vs) (λx y=>ltK (dz s.heap x) (dz s.heap y)):=by
 rcases hs.kind with L|L|L
 ·refine⟨oneType',λfv Q q=>?_,rY F2 hs λx y d e as bs fv Q hd he ra rb q=>?_⟩
  ·have hint:∀u∈v::vs,∃i t,u=.int i t:=fun u z=>by
    obtain⟨d,hd,as,ra⟩:=F2 u z;obtain⟨i,rfl⟩:=L d hd
    cases ra
    exact⟨_,_,rfl⟩
   rw[Rq];refine gV (eE (g:=λ_=>(Z:Option q7)) (λu z R r=>?_) ?_)
   ·obtain⟨i,t,rfl⟩:=hint u (by simpa using z)
    rw[firstOfTuple'_int];exact D2 r
   ·have e1:((N5 (fun _=>(Z:Option q7)) (v::vs).toArray).all fun x=>x.isSome)=R9:=by
     simp
    rw[e1];have B:((N5 (λ_=>(Z:Option q7)) (v::vs).toArray)[0]?.bind id).isSome=R9:=by simp
    simp only[B,Ki,if_false];refine gV (gj (T:="int") (by simp) (λu z R r=>?_) ?_)
    ·obtain⟨i,t,rfl⟩:=hint u (by simpa using z)
     exact D2 r
    ·exact D2 q
  ·obtain⟨i,rfl⟩:=L d hd;obtain⟨j,rfl⟩:=L e he
   cases ra;cases rb
   rw[keyLt'_oneType];exact oneLt_int (by rw[<-gN];exact q)
 ·refine⟨tuples' N2,λfv Q q=>?_,rY F2 hs λx y d e as bs fv Q hd he ra rb q=>?_⟩
  ·have hf:∀u∈v::vs,∃a o i t us n,u=.ref a/\s.heap.get? a=E o/\o.cls=.type "tuple"/\o.data=.seq (.int i t::us).toArray n:=fun u z=>by
    obtain⟨d,hd,as,ra⟩:=F2 u z;obtain⟨i,xs,rfl⟩:=L d hd;obtain⟨a,o,u1,us,n,bs,e1,B,O,J,U⟩:=lr ra
    cases U
    exact⟨a,o,_,_,us,n,e1,B,O,J⟩
   have F:∀u∈v::vs,∃i t,cI s.heap u=E (.int i t):=λu z=>by obtain⟨a,o,i,t,us,n,rfl,B,O,J⟩:=hf u z;exact⟨i,t,by simp[cI,B,J]⟩
   rw[Rq];refine gV (eE (g:=cI s.heap) (λu z R r=>?_) ?_)
   ·obtain⟨a,o,i,t,us,n,rfl,B,O,J⟩:=hf u (by simpa using z)
    refine lp B O J ?_;simpa[cI,B,J]using r
   ·rw[nP (λu z=>let⟨i,t,e⟩:=F u z; ⟨_,e⟩)];refine gV (Kh ?_);obtain⟨i0,t0,e0⟩:=F v (by simp)
    refine gV (gj (T:="int") (uz e0) (λu z R r=>?_) ?_)
    ·obtain⟨u',Y,e⟩:=uw z;obtain⟨i,t,e'⟩:=F u' Y;rw[e']at e;cases e;exact D2 r
    ·exact D2 q
  ·obtain⟨i,xs,rfl⟩:=L d hd;obtain⟨j,ys,rfl⟩:=L e he;have l1:=hs.lay _ hd;have l2:=hs.lay _ he;refine lq (n:=n) (λ_ d e hd he=>?_) (hs.cmp _ hd _ he) ra rb (by simpa[MM]using l1.1) (by simpa[MM]using l2.1) (by have:=l1.2;simp[Lw]at this;lia) z q
   simp at hd he;subst hd he;exact⟨⟨_,rfl⟩,_,rfl⟩
 ·refine⟨tuples' R9,λfv Q q=>?_,rY F2 hs λx y d e as bs fv Q hd he ra rb q=>?_⟩
  ·have hf:∀u∈v::vs,∃a o b ob us n,u=.ref a/\s.heap.get? a=E o/\o.cls=.type "tuple"/\o.data=.seq (.ref b::us).toArray n/\s.heap.get? b=E ob/\ob.cls=.type "tuple":=fun u z=>by
    obtain⟨d,hd,as,ra⟩:=F2 u z;obtain⟨ys,xs,rfl⟩:=L d hd;obtain⟨a,o,u1,us,n,bs,e1,B,O,J,U⟩:=lr ra
    cases U with
    |tuple h1 h2 h3 h4=>exact⟨a,o,_,_,us,n,e1,B,O,J,h1,h2⟩
   have F:∀u∈v::vs,∃b ob,cI s.heap u=E (.ref b)/\s.heap.get? b=E ob/\ob.cls=.type "tuple":=λu z=>by obtain⟨a,o,b,ob,us,n,rfl,B,O,J,U,e6⟩:=hf u z;exact⟨b,ob,by simp[cI,B,J],U,e6⟩
   rw[Rq];refine gV (eE (g:=cI s.heap) (λu z R r=>?_) ?_)
   ·obtain⟨a,o,b,ob,us,n,rfl,B,O,J,U,e6⟩:=hf u (by simpa using z)
    refine lp B O J ?_;simpa[cI,B,J]using r
   ·rw[nP (λu z=>let⟨i,t,e,_⟩:=F u z; ⟨_,e⟩)];refine gV (Kh ?_);obtain⟨i0,t0,e0,_⟩:=F v (by simp)
    refine gV (gj (T:="tuple") (uz e0) (λu z R r=>?_) ?_)
    ·obtain⟨u',Y,e⟩:=uw z;obtain⟨b,ob,e',U,e6⟩:=F u' Y;rw[e']at e;cases e;exact zG U e6 r
    ·exact D2 q
  ·obtain⟨zs,xs,rfl⟩:=L d hd;obtain⟨zs',ys,rfl⟩:=L e he;have l1:=hs.lay _ hd;have l2:=hs.lay _ he;exact lq (n:=n) (λh=>by cases h) (hs.cmp _ hd _ he) ra rb (by simpa[MM]using l1.1) (by simpa[MM]using l2.1) (by have:=l1.2;simp[Lw]at this;lia) z q
end
end Srt
namespace Srt
inductive Pl:Js->Prop where
 |int (i:Int):Pl (.int i)
 |tup (xs:List Js):(∀x∈xs,Pl x)->Pl (.tuple xs)
theorem bC{h h':Heap}(k:∀b o,h.get? b=E o->o.cls=.type "tuple"->h'.get? b=E o){d:Js}(p:Pl d):∀{v:q7} {as:List SS},MB h v d as->MB h' v d as:=by
 induction p with
 |int i=>intro v as r;cases r;exact .int _ _
 |tup xs hx ih=>
  intro v as r
  cases r with
  |tuple h1 h2 z B=>
   refine .tuple (k _ _ h1 h2) h2 z ?_;have g:∀(xs:List Js),(∀x∈xs,∀{v:q7} {as:List SS},MB h v x as->MB h' v x as)->∀(vs:List q7) (as:List SS),Pq h vs xs as->Pq h' vs xs as:=by
    intro xs
    induction xs with
    |nil=>intro _ vs as r;cases r;exact .nil
    |cons x xs ihx=>
     intro j vs as r
     cases r with
     |cons F p2=>exact .cons (j x (by simp) F) (ihx (λy J=>j y (by simp[J])) _ _ p2)
   exact g xs ih _ _ B
section
variable{prog:Iy}{w:IY}{A:Ji}{fv:q7->D1->Prop}{s:D1}
theorem xo{α:Type}{R:α->α->Prop}:∀{l:List α},l.length<2->l.Pairwise R
 |[],_=>.nil
 |[_],_=>List.pairwise_singleton _ _
theorem zH{α:Type}:∀{l:List α},2<=l.length->∃x r,l=x::r
 |x::r,_=>⟨x,r,rfl⟩
theorem zI{cap:Nat}(S:gL cap){m:Nat}{a:SS}{vs:List q7}{n:Nat}{ds:List Js}(ha:s.heap.get? a=E (R0 "list" vs.toArray n))(F2:RdL s.heap vs ds)(hs:nO m ds)(hp:∀d∈ds,Pl d)(hl:vs.length<=HZ)(Gu:vs.length<=cap)(hu:A.units+m+1<Lk){Q:PySem.Fin->D1->Prop}(q:∀(h':Heap) (out:List q7) (n':Nat),(∀b o,b≠a->s.heap.get? b=E o->h'.get? b=E o)->h'.get? a=E (R0 "list" out.toArray n')->out.Perm vs->out.Pairwise (λx y=>ltK (toK (K5 s.heap y)) (toK (K5 s.heap x))=R9)->Q (.done (.ret .none)) {s with heap:=h'}):
 Ik (IB prog w) A (KW.«list.sort» ⟨[.ref a],[]⟩) Q fv s:=by
 rw[list_sort_plain];refine gV (QH ha rfl ?_);refine gV (N9 ha rfl ?_ (by simpa using hl) (by simp))
 have g1:=Mg ha (λ_=>#[]);generalize Gv:s.heap.update a (Lu λ_=>#[])=h1 at g1;generalize (if((#[]:Array q7).size==vs.toArray.size)=N2 then n else n+1)=n1 at g1
 refine gV (Rr g1 rfl ?_);refine gV (Pm ?_ (by simpa using hl))
 refine gV (Oj ?_ (by simp))
 refine Ju ?_;dsimp only;generalize U:({heap:=(h1.push {cls:=JF "tuple",data:=Nb vs.toArray.toList.toArray}).push {cls:=JF "list",data:=Nb [].toArray},gens:=s.gens,drawn:=s.drawn,toks:=s.toks,os:=s.os}:D1)=s3;have g3:s3.heap.get? a=E (R0 "list" #[] n1):=by rw[<-U];exact tv _ (tv _ g1)
 have keep:∀b o,b≠a->s.heap.get? b=E o->s3.heap.get? b=E o:=λb o J L=>by rw[<-U,<-Gv];exact tv _ (tv _ (by rw[K9 _ _ _ _ J];exact L))
 have keepT:∀b o,s.heap.get? b=E o->o.cls=.type "tuple"->s3.heap.get? b=E o:=λb o J hc=>keep b o (λz=>by rw[z,ha]at J;cases J;simp at hc) J
 have Gw:RdL s3.heap vs ds:=λv hv=>by obtain⟨d,hd,as,r⟩:=F2 v hv;exact⟨d,hd,as,bC keepT (hp d hd) r⟩
 have same:∀v∈vs,K5 s3.heap v=K5 s.heap v:=λv hv=>by obtain⟨d,hd,as,r⟩:=F2 v hv;rw[L5 (hs.lay d hd).1 r,L5 (hs.lay d hd).1 (bC keepT (hp d hd) r)]
 have q:∀(h':Heap) (out:List q7) (n':Nat),(∀b o,b≠a->s.heap.get? b=E o->h'.get? b=E o)->h'.get? a=E (R0 "list" out.toArray n')->out.Perm vs->out.Pairwise (λx y=>ltK (toK (K5 s.heap y)) (toK (K5 s.heap x))=R9)->Q (.done (.ret .none)) {s3 with heap:=h'}:=by rw[<-U];exact q
 have Gy:∀A':Ji,A'.units=A.units->True:=λ_ _=>trivial;clear U
 let Good:Kr->Prop:=λst'=>Me st'=Z/\(Jc st').toList.Perm (vs.zip vs)/\(Jc st').toList.Pairwise (λx y=>ltK (dz s3.heap y) (dz s3.heap x)=R9)
 by_cases F:vs.toArray.size<2
 ·rw[if_pos F,if_pos F];refine gV (D2 ?_);have B:vs.length<2:=by simpa using F
  have run:Ik (IB prog w) A ((pure ():StateT Kr Sem Unit).run (N3 general' (vs.toArray.zip vs.toArray) #[] 7 Z)) (λr s'=>s'=s3/\Good r.2) fv s3:=by
   refine D2 ⟨rfl,rfl,?_,?_⟩
   ·show(vs.toArray.zip vs.toArray).toList.Perm _;simp
   ·show List.Pairwise _ (vs.toArray.zip vs.toArray).toList;exact xo (by simpa using B)
  refine gV (Kf (Q:=λr s'=>s'=s3/\Good r.2) run (λr s' F2=>?_) (λ_ _ z=>z));obtain⟨rfl,O,j,Y⟩:=F2;obtain⟨u,st'⟩:=r;refine gV (Rr g3 rfl ?_);refine gV (N9 g3 rfl ?_ (by simp) (by simp only[Array.size_map];have:=j.length_eq;simp at this;rw[this];lia))
  dsimp only at O;rw[O];simp only[bne_self_eq_false,Ki,if_false];refine D2 ?_;have gq:=Mg g3 (λ_=>N5 (λx=>x.snd) (Jc st'));have eo:N5 (λx=>x.snd) (Jc st')=((Jc st').toList.map λx=>x.snd).toArray:=by apply N4.mp;simp
  refine q _ ((Jc st').toList.map λx=>x.snd) _ (λb o J L=>?_) (by rw[gq,eo]) ?_ ?_
  ·rw[K9 _ _ _ _ J];exact keep b o J L
  ·have h8:=j.map (λx:IC=>x.snd);rw[R1 (by simp)]at h8
   exact h8
  ·rw[K6];refine Y.imp_of_mem λ{x y} hx hy hxy=>?_;have mx:=NB (j.mem_iff.mp hx);have my:=NB (j.mem_iff.mp hy);unfold dz at hxy;rw[mx.1,my.1,same y.2 (by rw[<-my.1];exact my.2),same x.2 (by rw[<-mx.1];exact mx.2)]at hxy
   exact hxy
 ·rw[if_neg F,if_neg F];have B:2<=vs.length:=by simpa using F
  obtain⟨v0,Gx,Gp⟩:=zH B;obtain⟨kd,Gq,Gr⟩:=Dh (prog:=prog) (w:=w) (A:=A) (v:=v0) (vs:=Gx) (by rw[<-Gp];exact Gw) hs hu
  rw[<-Gp]at Gq Gr;refine gV (Gq fv _ ?_);have run:Ik (IB prog w) A (sortRuns'.run (N3 kd (vs.toArray.zip vs.toArray) #[] 7 Z)) (λr s'=>s'=s3/\Good r.2) fv s3:=by
   have ez:(Jc (N3 kd (vs.toArray.zip vs.toArray) #[] 7 Z)).toList=vs.zip vs:=by show(vs.toArray.zip vs.toArray).toList=_;simp
   have h9:wpS (IB prog w) A fv s3 sortRuns' (λ_ st'=>Good st') (N3 kd (vs.toArray.zip vs.toArray) #[] 7 Z):=by
    have Gs:(Jc (N3 kd (vs.toArray.zip vs.toArray) #[] 7 Z)).size=vs.length:=by rw[<-Jw,ez];simp
    refine S _ _ _ _ _ _ _ _ Gr (N3 kd (vs.toArray.zip vs.toArray) #[] 7 Z) _ rfl rfl rfl (λx hx=>?_) (by rw[Gs];exact B) (by rw[Gs];exact Gu) λst' p1 p2 p3=>⟨p3,by rw[ez]at p1;exact p1,p2⟩
    rw[ez]at hx;exact(NB hx).2
   exact h9
  refine gV (Kf (Q:=λr s'=>s'=s3/\Good r.2) run (λr s' F2=>?_) (λ_ _ z=>z));obtain⟨rfl,O,j,Y⟩:=F2;obtain⟨u,st'⟩:=r;refine gV (Rr g3 rfl ?_);refine gV (N9 g3 rfl ?_ (by simp) (by simp only[Array.size_map];have:=j.length_eq;simp at this;rw[this];lia))
  dsimp only at O;rw[O];simp only[bne_self_eq_false,Ki,if_false];refine D2 ?_;have gq:=Mg g3 (λ_=>N5 (λx=>x.snd) (Jc st'));have eo:N5 (λx=>x.snd) (Jc st')=((Jc st').toList.map λx=>x.snd).toArray:=by apply N4.mp;simp
  refine q _ ((Jc st').toList.map λx=>x.snd) _ (λb o J L=>?_) (by rw[gq,eo]) ?_ ?_
  ·rw[K9 _ _ _ _ J];exact keep b o J L
  ·have h8:=j.map (λx:IC=>x.snd);rw[R1 (by simp)]at h8
   exact h8
  ·rw[K6];refine Y.imp_of_mem λ{x y} hx hy hxy=>?_;have mx:=NB (j.mem_iff.mp hx);have my:=NB (j.mem_iff.mp hy);unfold dz at hxy;rw[mx.1,my.1,same y.2 (by rw[<-my.1];exact my.2),same x.2 (by rw[<-mx.1];exact mx.2)]at hxy
   exact hxy
theorem rZ(u:q7):checkBuiltinCall "sorted" ⟨[u],[]⟩=pure ():=by kernel_rfl
theorem uA{cap:Nat}(S:gL cap){m:Nat}{u:q7}{ds:List Js}{C:Heap->List q7->Prop}{Q:q7->D1->Prop}(hu:A.units+m+3<Lk)(hs:nO m ds)(F:∀d∈ds,Pl d)(J:∀(fv:q7->D1->Prop) (R:List q7->D1->Prop),(∀(h':Heap) (vs':List q7) (t':Nat),C h' vs'->RdL h' vs' ds->vs'.length<=HZ/\vs'.length<=cap->s.toks<=t'->R vs' {s with heap:=h',toks:=t'})->Ik (IB prog w) A.in1 (collect u) R fv s)(q:∀(h1 h2:Heap) (vs out:List q7) (n' t':Nat),C h1 vs->(∀b o,h1.get? b=E o->h2.get? b=E o)->h2.get? h1.objs.size=E (R0 "list" out.toArray n')->out.Perm vs->out.Pairwise (λx y=>ltK (toK (K5 h2 y)) (toK (K5 h2 x))=R9)->RdL h2 out ds->vs.length<=HZ->s.toks<=t'->Q (.ref h1.objs.size) {s with heap:=h2,toks:=t'}):
 Ik (IB prog w) A (call (.builtin "sorted") [u]) Q fv s:=by
 refine wpAny_call (codeAny_call_builtin plain_sorted entry_sorted (Lp (rZ u) ?_));unfold Builtin.sorted;refine gV (Lp (a:=()) (by kernel_rfl) ?_)
 refine gV (J _ _ λh1 vs t' hC O L ht=>?_);obtain⟨L,U⟩:=L;refine gV (Oj ?_ L);refine gV (Ju ?_);have Y:RdL (h1.push {cls:=JF "list",data:=Nb vs.toArray}) vs ds:=λv B=>by obtain⟨d,hd,as,r⟩:=O v B;exact⟨d,hd,as,bC (λb o z _=>tv _ z) (F d hd) r⟩
 have ha:(h1.push {cls:=JF "list",data:=Nb vs.toArray}).get? h1.objs.size=E (R0 "list" vs.toArray 0):=I9 _ rfl;refine Jj slot_list_sort (T:="list") ⟨_,ha,rfl⟩ entry_list_sort ?_ (args_list_sort _);refine zI S (m:=m) ha Y hs F L U (by show A.units+1+1+m+1<Lk;lia) λh2 out n' keep g2 j F2=>⟨_,rfl,D2 ?_⟩
 have old:∀b o,h1.get? b=E o->h2.get? b=E o:=λb o z=>keep b o (IU (Ig z)) (tv _ z);have Gp:RdL h2 vs ds:=λv B=>by obtain⟨d,hd,as,r⟩:=O v B;exact⟨d,hd,as,bC (λb o z _=>old b o z) (F d hd) r⟩
 refine q h1 h2 vs out n' t' hC old g2 j ?_ (λv B=>Gp v (j.mem_iff.mp B)) L ht;have same:∀v∈vs,K5 (h1.push {cls:=JF "list",data:=Nb vs.toArray}) v=K5 h2 v:=λv B=>by obtain⟨d,hd,as,r⟩:=O v B;rw[L5 (hs.lay d hd).1 (bC (λb o z _=>old b o z) (F d hd) r),L5 (hs.lay d hd).1 (bC (λb o z _=>tv _ z) (F d hd) r)]
 refine F2.imp_of_mem λ{x y} hx hy hxy=>?_;rw[same y (j.mem_iff.mp hy),same x (j.mem_iff.mp hx)]at hxy;exact hxy
end
end Srt
namespace It
end It
namespace It
end It
namespace It
end It
section
section
variable{P:Iy}{w:IY}{H:Hp}{h:Heap}{a:SS}{o:HO}
theorem ObjOk.there(x:ObjOk P w H h a o):∃ob,h.get? a=E ob:=by
 cases o with
 |lst xs=>obtain⟨_,_,_,_,e⟩:=x;exact⟨_,e⟩
 |tup xs=>obtain⟨_,_,_,_,e,_⟩:=x;exact⟨_,e⟩
 |dK kvs=>obtain⟨_,_,_,_,o,_,_,e,_⟩:=x;exact⟨_,e⟩
 |dT kvs=>obtain⟨_,_,_,_,o,_,_,e,_⟩:=x;exact⟨_,e⟩
 |set S n=>obtain⟨o,_,_,_,e,_⟩:=x;exact⟨_,e⟩
 |ins C dx fs=>obtain⟨_,_,_,e,_⟩:=x;exact⟨_,e⟩
 |own y=>obtain⟨_,e⟩:=x;exact⟨_,e⟩
 |xd fs=>obtain⟨_,⟨_,_,_,e,_⟩,_⟩:=x;exact⟨_,e⟩
 |rng lo hi=>obtain⟨_,_,_,e⟩:=x;exact⟨_,e⟩
 |frz ob u=>obtain⟨e,_⟩:=x;exact⟨_,e⟩
 |tbl ps=>exact⟨_,show h.get? a=E _ from x⟩
 |met f y=>exact⟨_,show h.get? a=E _ from x⟩
 |ext φ=>obtain⟨_,⟨_,e⟩,_⟩:=x;exact⟨_,e⟩
end
noncomputable def lay(H:Hp)(N:SS->Option HO):Hp:=λb=>match N b with|some o=>E o|none=>H b
section
variable{X:Cx}{pins:List (SS×Obj)}{σ:List (Option V)}{H:Hp}{s:D1}{h':Heap}{N:SS->Option HO}
theorem zJ{o:HO}(e:N b=E o):lay H N b=E o:=by unfold lay;rw[e]
theorem jY(e:N b=Z):lay H N b=H b:=by unfold lay;rw[e]
theorem Inv.fresh'(I:Inv X pins σ H s)(e:s.heap.get? b=Z):H b=Z:=by
 cases q:H b with
 |none=>rfl
 |some o=>obtain⟨ob,eo⟩:=(I.hok b o q).there;rw[e]at eo;cases eo
theorem Inv.laidN(I:Inv X pins σ H s)(k:∀b u,s.heap.get? b=E u->h'.get? b=E u)(j:∀b o,N b=E o->s.heap.get? b=Z)(new:∀b o,N b=E o->ObjOk X.prog X.w (lay H N) h' b o):Inv X pins σ (lay H N) {s with heap:=h',toks:=t'}:=by
 have old:∀b u,s.heap.get? b=E u->N b=Z:=λb u e=>by
  cases q:N b with
  |none=>rfl
  |some o=>rw[j b o q]at e;cases e
 have oldH:∀b o,H b=E o->lay H N b=E o:=λb o e=>by obtain⟨ob,eo⟩:=(I.hok b o e).there;rw[jY (old b ob eo)];exact e
 refine I.un ⟨λb u q _ _ _=>k b u q,λb u q _ _ _=>⟨u.slots,k b u q⟩,λb u q n _=>by rw[jY (old b u q)];exact n,λb u q _=>⟨u,k b u q⟩,λb xs q=>oldH b _ q,λb u xs q=>oldH b _ q,λb ps q=>⟨#[],by rw[oldH b _ q];simp⟩⟩ λb o e=>?_
 cases q:N b with
 |some o'=>rw[zJ q]at e;cases e;exact new b o q
 |none=>rw[jY q]at e;exact(I.hok b o e).stay (λc v _ q=>k c v q) (λc q=>oldH c _ q) λc xs q=>oldH c _ q
end
namespace Mi
open L2.Srt
inductive Sh where
 |int
 |tup (l:List Sh)
mutual
noncomputable def hs:Sh->D->Bool
 |.int,.int _=>N2
 |.tup l,.tup ds=>hss l ds
 |_,_=>R9
noncomputable def hss:List Sh->List D->Bool
 |[],[]=>N2
 |s::l,d::ds=>hs s d&&hss l ds
 |_,_=>R9
end
mutual
noncomputable def pd:D->Js
 |.int i=>.int i
 |.tup ds=>.tuple (pds ds)
 |_=>.none
noncomputable def pds:List D->List Js
 |[]=>[]
 |d::ds=>pd d::pds ds
end
mutual
noncomputable def dep:Sh->Nat
 |.int=>0
 |.tup l=>deps l+1
noncomputable def deps:List Sh->Nat
 |[]=>0
 |s::l=>max (dep s) (deps l)
end
noncomputable def jZ:Sh->Bool
 |.int=>N2
 |.tup (.int::l)=>decide (deps l<=6)
 |.tup (.tup a::l)=>decide (deps (.tup a::l)<=6)
 |.tup []=>R9
noncomputable def kyD(d:D):Ky:=toK (pd d)
theorem sa{x:D}(h:hs .int x=N2):∃i,x=.int i:=by cases x<;>first|exact⟨_,rfl⟩|cases h
theorem sd{l:List Sh}{x:D}(h:hs (.tup l) x=N2):∃ds,x=.tup ds/\hss l ds=N2:=by cases x<;>first|exact⟨_,rfl,h⟩|cases h
theorem mD{a:List D}(h:hss [] a=N2):a=[]:=by
 cases a with
 |nil=>rfl
 |cons _ _=>cases h
variable{s:Sh}
theorem mF{l:List Sh}{a:List D}(h:hss (s::l) a=N2):∃x r,a=x::r/\hs s x=N2/\hss l r=N2:=by
 cases a with
 |nil=>cases h
 |cons x r=>exact⟨x,r,rfl,Nf.mp h⟩
mutual
theorem uB:∀(s:Sh) (x y:D),hs s x=N2->hs s y=N2->Cmpb (pd x) (pd y)
 |.int,_,_,h,g=>by obtain⟨a,rfl⟩:=sa h;obtain⟨b,rfl⟩:=sa g;simp only[pd];exact .int a b
 |.tup l,_,_,h,g=>by obtain⟨a,rfl,h⟩:=sd h;obtain⟨b,rfl,g⟩:=sd g;simp only[pd];exact hss_cmp l a b h g
theorem hss_cmp:∀(l:List Sh) (a b:List D),hss l a=N2->hss l b=N2->Cmpb (.tuple (pds a)) (.tuple (pds b))
 |[],_,_,h,g=>by cases mD h;cases mD g;simp only[pds];exact .nil _
 |s::l,_,_,h,g=>by obtain⟨x,a,rfl,j⟩:=mF h;clear h;have h:=j;obtain⟨y,b,rfl,z⟩:=mF g;clear g;have g:=z;simp only[pds];exact .cons (uB s x y h.1 g.1) (hss_cmp l a b h.2 g.2)
end
mutual
theorem se:∀(s:Sh) (x:D),hs s x=N2->Pl (pd x)/\(pd x).canLay0=N2/\(pd x).depth<=dep s
 |.int,_,h=>by obtain⟨a,rfl⟩:=sa h;simp only[pd];exact⟨.int a,rfl,by simp[Lw]⟩
 |.tup l,_,h=>by obtain⟨a,rfl,h⟩:=sd h;obtain⟨h1,h2,j⟩:=hss_pl l a h;simp only[pd];exact⟨.tup _ h1,by simpa[MM]using h2,by simp[Lw,dep];lia⟩
theorem hss_pl:∀(l:List Sh) (a:List D),hss l a=N2->(∀x∈pds a,Pl x)/\JD (pds a)=N2/\KD (pds a)<=deps l
 |[],_,h=>by cases mD h;simp[pds,JD,KD]
 |s::l,_,h=>by
  obtain⟨x,a,rfl,j⟩:=mF h;clear h;have h:=j;obtain⟨h1,h2,F⟩:=se s x h.1;obtain⟨g1,g2,g3⟩:=hss_pl l a h.2;simp only[pds];refine⟨λy B=>?_,by simp[JD,h2,g2],by simp[KD,deps];lia⟩
  rcases Ij.mp B with z|z
  ·rw[z];exact h1
  ·exact g1 y z
end
mutual
theorem ye(M:Mem):∀(s:Sh) (x:D) (n:Nat),hs s x=N2->dep s<=n->rb n M x=E (pd x)
 |.int,_,n,h,_=>by obtain⟨a,rfl⟩:=sa h;cases n<;>simp[rb,pd]
 |.tup l,_,n,h,j=>by
  obtain⟨a,rfl,h⟩:=sd h;simp only[dep]at j;obtain⟨k,rfl⟩:∃k,n=k+1:=⟨n-1,∅⟩
  simp only[rb,pd];rw[hss_rb M l a k h ∅];rfl
theorem hss_rb(M:Mem):∀(l:List Sh) (a:List D) (n:Nat),hss l a=N2->deps l<=n->aE (rb n M) a=E (pds a)
 |[],_,_,h,_=>by cases mD h;simp[pds,aE]
 |s::l,_,n,h,j=>by obtain⟨x,a,rfl,z⟩:=mF h;clear h;have h:=z;simp only[deps]at j;simp only[pds,aE];rw[ye M s x n h.1 ∅,hss_rb M l a n h.2 ∅];rfl
end
theorem nQ(h:jZ s=N2):dep s<=7:=by
 match s,h with
 |.int,_=>simp[dep]
 |.tup (.int::l),h=>simp[jZ]at h;simp[dep,deps];lia
 |.tup (.tup a::l),h=>simp only[jZ,decide_eq_true_eq]at h;simp only[dep];lia
theorem zK(h:jZ s=N2){xs:List D}(hx:∀x∈xs,hs s x=N2):nO 7 (xs.map pd)/\∀d∈xs.map pd,Pl d:=by
 refine⟨⟨?_,?_,?_⟩,?_⟩
 ·intro d hd e he;obtain⟨x,h1,rfl⟩:=HQ.mp hd;obtain⟨y,h2,rfl⟩:=HQ.mp he;exact uB s x y (hx x h1) (hx y h2)
 ·intro d hd;obtain⟨x,h1,rfl⟩:=HQ.mp hd;obtain⟨_,g2,g3⟩:=se s x (hx x h1);exact⟨g2,by have:=nQ h;lia⟩
 ·match s,h with
  |.int,_=>
   left
   intro d hd;obtain⟨x,h1,rfl⟩:=HQ.mp hd;have:=hx x h1
   cases x<;>simp[hs]at this
   exact⟨_,rfl⟩
  |.tup (.int::l),_=>
   right;left
   intro d hd;obtain⟨x,h1,rfl⟩:=HQ.mp hd;have:=hx x h1
   cases x<;>simp[hs]at this
   rename_i ds
   cases ds with
   |nil=>simp[hss]at this
   |cons y ys=>
    simp[hss]at this
    cases y<;>simp[hs]at this
    exact⟨_,_,rfl⟩
  |.tup (.tup a::l),_=>
   right;right
   intro d hd;obtain⟨x,h1,rfl⟩:=HQ.mp hd;have:=hx x h1
   cases x<;>simp[hs]at this
   rename_i ds
   cases ds with
   |nil=>simp[hss]at this
   |cons y ys=>
    simp[hss]at this
    cases y<;>simp[hs]at this
    exact⟨_,_,rfl⟩
 ·intro d hd;obtain⟨x,h1,rfl⟩:=HQ.mp hd;exact(se s x (hx x h1)).1
theorem lu{α β:Type}(f:α->β):∀{l m:List β},l.Perm m->∀{t:List α},t.map f=m->∃t':List α,t'.Perm t/\t'.map f=l:=by
 intro l m h
 induction h with
 |nil=>intro t e;exact⟨[],by rw[List.map_eq_nil_iff.mp e],rfl⟩
 |cons x h ih=>
  intro t e
  cases t with
  |nil=>simp at e
  |cons a t=>simp at e;obtain⟨t',h1,h2⟩:=ih e.2;exact⟨a::t',h1.cons a,by simp[h2,e.1]⟩
 |swap x y l=>
  intro t e
  match t,e with
  |a::b::t,e=>simp at e;exact⟨b::a::t,.swap _ _ _,by simp[e]⟩
 |trans h1 h2 j z=>intro t e;obtain⟨L,p2,B⟩:=z e;obtain⟨t1,F,J⟩:=j B;exact⟨t1,F.trans p2,J⟩
def nR(ys:List D):Prop:=ys.Pairwise λa b=>ltK (kyD b) (kyD a)=R9
theorem qe{K:Frag}{H:Hp}:∀{ds:List D} {vs:List V} {us:List q7},RDs K H ds vs->Vals vs us->∃t:List (D×V×q7),t.map (·.1)=ds/\t.map (·.2.1)=vs/\t.map (·.2.2)=us/\∀p∈t,RD K H p.1 p.2.1/\RelV p.2.1 p.2.2
 |[],vs,us,h,g=>by
  cases RDs.nil_iff.mp h
  cases g
  exact⟨[],rfl,rfl,rfl,λ_ h=>by simp at h⟩
 |d::ds,vs,us,h,g=>by
  obtain⟨v,r,rfl,h1,h2⟩:=Sn.mp h
  cases g with
  |cons g1 g2=>
   rename_i u us;obtain⟨t,j,B,F,J⟩:=qe h2 g2;exact⟨(d,v,u)::t,by simp[j],by simp[B],by simp[F],λp L=>by
    rcases Ij.mp L with z|z
    ·rw[z];exact⟨h1,g1⟩
    ·exact J p z⟩
theorem qf{K:Frag}{H:Hp}:∀{t:List (D×V×q7)},(∀p∈t,RD K H p.1 p.2.1/\RelV p.2.1 p.2.2)->RDs K H (t.map (·.1)) (t.map (·.2.1))/\Vals (t.map (·.2.1)) (t.map (·.2.2))
 |[],_=>⟨RDs.nil,.nil⟩
 |p::t,h=>by
  obtain⟨h1,h2⟩:=qf (t:=t) λq j=>h q (by simp[j])
  exact⟨RDs.cons (h p (by simp)).1 h1,.cons (h p (by simp)).2 h2⟩
section
variable{X:Cx}
theorem pO{cap:Nat}(S:gL cap)(O:X.A.units+16<Lk){pins:List (SS×Obj)}{s:D1}{σ:St}{H:Hp}{Q:VK}(I:Inv X pins σ H s){M:Mem}(rm:RM X.K M H){es:List D}{sh:Sh}{vs:List V}{p:SS}(rvs:RDs X.K H es vs)(hok:jZ sh=N2)(U:∀d∈es,hs sh d=N2)(q:∀p ys,M p=Z->ys.Perm es->nR ys->KE' X.K M H Q (.ref p) (ad M p (.lst ys))){its:List q7}(hv:Vals vs its)(hl:vs.length<=HZ)(Gs:vs.length<=cap)(Y:∀(fv:q7->D1->Prop) (R:List q7->D1->Prop),(∀(h':Heap) (tk:Nat),(∀b o,s.heap.get? b=E o->h'.get? b=E o)->s.toks<=tk->R its {s with heap:=h',toks:=tk})->Ik (IB X.prog X.w) X.A.in1 (collect (.ref p)) R fv s):
 Ik (IB X.prog X.w) X.A (call (.builtin "sorted") [.ref p]) (EP X pins σ Q) X.xe s:=by
 obtain⟨hS,L⟩:=zK hok U;have Gw:=nQ hok;obtain⟨t,t1,t2,t3,t4⟩:=qe rvs hv;have F2:∀pp∈t,∃as,MB s.heap pp.2.2 (pd pp.1) as:=λpp j=>by
  have hm:pp.1∈es:=by rw[<-t1];exact Iz j
  exact ca I rm 16 pp.1 (pd pp.1) pp.2.1 pp.2.2 (ye M sh pp.1 16 (U _ hm) ∅) (t4 pp j).1 (t4 pp j).2
 have Gp:RdL s.heap its (es.map pd):=λu O=>by rw[<-t3]at O;obtain⟨pp,j,rfl⟩:=HQ.mp O;obtain⟨as,ra⟩:=F2 pp j;exact⟨pd pp.1,Iz (by rw[<-t1];exact Iz j),as,ra⟩
 refine uA S (m:=7) (ds:=es.map pd) (C:=λh' vs'=>vs'=its/\∀b o,s.heap.get? b=E o->h'.get? b=E o) ∅ hS L (λfv R hR=>?_) λh1 h2 vs' out n' tk hC old g2 F Gq Gx Gy ht=>?_
 ·refine Y fv R λh' tk kp Gu=>hR h' its tk ⟨rfl,kp⟩ (λu O=>?_) ⟨by rw[<-hv.length];exact hl,by rw[<-hv.length];exact Gs⟩ Gu
  obtain⟨d,hd,as,ra⟩:=Gp u O;exact⟨d,hd,as,bC (λb o e _=>kp b o e) (L d hd) ra⟩
 ·obtain⟨rfl,kp⟩:=hC;rw[<-t3]at F;obtain⟨t',p1,p2⟩:=lu (fun pp:D×V×q7=>pp.2.2) F rfl;have hz:=qf (t:=t') fun pp j=>t4 pp (p1.mem_iff.mp j);have Gr:∀b o,s.heap.get? b=E o->h2.get? b=E o:=fun b o e=>old b o (kp b o e);have z:s.heap.get? h1.objs.size=Z:=by
   cases hq:s.heap.get? h1.objs.size with
   |none=>rfl
   |some o=>exact absurd (Ig (kp _ _ hq)) (JJ _)
  have Gv:=I.fresh' z;have hlen:(t'.map (·.2.1)).length<=HZ:=by rw[hG,p1.length_eq,<-hG (f:=λpp:D×V×q7=>pp.2.1),t2];exact hl
  have I2:=I.laidN (t':=tk) (h':=h2) (N:=λb=>if b=h1.objs.size then E (.lst (t'.map (·.2.1)))else Z) Gr (λb o e=>by
   by_cases B:b=h1.objs.size
   ·rw[B];exact z
   ·rw[if_neg B]at e;cases e) (λb o e=>by
   by_cases B:b=h1.objs.size
   ·subst B;rw[if_pos rfl]at e;cases e;exact⟨hlen,out,n',by rw[<-p2];exact hz.2,g2⟩
   ·rw[if_neg B]at e;cases e)
  have eH:lay H (λb=>if b=h1.objs.size then E (.lst (t'.map (·.2.1)))else Z)=upd H h1.objs.size (.lst (t'.map (·.2.1))):=by
   funext b
   unfold lay upd;dsimp only
   by_cases B:b=h1.objs.size
   ·rw[if_pos B,if_pos B]
   ·rw[if_neg B,if_neg B]
  rw[eH]at I2;refine⟨.ref h1.objs.size,_,I2,rfl,?_⟩;refine cC rm hz.1 (λp' n=>q p' _ n ?_ ?_) Gv
  ·have:=p1.map (λpp:D×V×q7=>pp.1);rw[t1]at this;exact this
  ·unfold nR;rw[K6];rw[<-p2,K6]at Gq;refine Gq.imp_of_mem fun {a b} ha B hab=>?_;have rd:∀pp∈t',K5 h2 pp.2.2=pd pp.1:=fun pp j=>by
    have J:=p1.mem_iff.mp j;obtain⟨as,ra⟩:=F2 pp J;have hm:pp.1∈es:=by rw[<-t1];exact Iz J
    exact L5 (hS.lay _ (Iz hm)).1 (bC (λb o e _=>Gr b o e) (L _ (Iz hm)) ra)
   rw[rd a ha,rd b B]at hab;exact hab
end
end Mi
end
namespace Mi
open L2.Srt
def kc(K:Frag)(H:Hp)(kv:D×D)(e:Kw):Prop:=∃kV vV,RD K H kv.1 kV/\RelV kV e.key/\RD K H kv.2 vV/\RelV vV e.val
variable{K:Frag}{H:Hp}
theorem qg{d:D}{k:Key}(h:RKey d k):RD K H d (kV k):=by
 cases d<;>first
  |exact h.elim
  |(cases h;first|exact Sl.mpr rfl|exact Sy.mpr rfl)
theorem lw{K:Frag}{H:Hp}:∀{ds:List D} {ks:List Key},IZ RKey ds ks->RDs K H ds (ks.map kV)
 |_,_,.nil=>RDs.nil
 |_,_,.cons r t=>RDs.cons (qg r) (lw t)
theorem yf{P:Iy}{w:IY}{K:Frag}{H:Hp}:∀{kvs:List (D×D)} {ps:List (Key×V)} {vs:List (Key×q7)} {es:List Kw},IZ (λ(p:D×D) (q:Key×V)=>RKey p.1 q.1/\RD K H p.2 q.2) kvs ps->KV ps vs->Pairs (aF P w) es vs->IZ (kc K H) kvs es
 |_,_,_,_,.nil,.nil,.nil=>.nil
 |_,_,_,_,.cons B t1,.cons F J,.cons h1 h2 t3=>by
  refine .cons ⟨kV _,_,qg B.1,?_,B.2,by rw[h2];exact F.2⟩ (yf t1 J t3)
  rw[<-F.1]at h1
  rcases aR h1 with⟨i,t,j,z⟩|⟨x,t,j,z⟩
  ·rw[j,z];exact⟨t,rfl⟩
  ·rw[j,z];exact⟨t,rfl⟩
theorem yg{P:Iy}{w:IY}{K:Frag}{H:Hp}:∀{kvs:List (D×D)} {ps:List (List Key×V)} {xs:List (List Key×SS×q7)},IZ (λ(p:D×D) (q:List Key×V)=>RKeys p.1 q.1/\RD K H p.2 q.2) kvs ps->IZ (λ(p:List Key×V) (q:List Key×SS×q7)=>p.1=q.1/\H q.2.1=E (.tup (p.1.map kV))/\RelV p.2 q.2.2) ps xs->IZ (kc K H) kvs (xs.map (entryOfKey (Ml (aF P w))))
 |_,_,_,.nil,.nil=>.nil
 |kv::_,_,_,.cons z t1,.cons B F=>by
  refine .cons ?_ (yg t1 F);obtain⟨d,v⟩:=kv;have j:=z.1
  cases d<;>first
   |exact j.elim
   |exact⟨.ref _,_,SF ⟨_,_,rfl,B.2.1,lw j⟩,rfl,z.2,B.2.2⟩
theorem cn{α β:Type}{R:α->β->Prop}:∀{l:List α} {m:List β},IZ R l m->l.length=m.length
 |_,_,.nil=>rfl
 |_,_,.cons _ t=>by simp[cn t]
variable{a:SS}{kvs:List (D×D)}
section
variable{X:Cx}
theorem nT{h:Heap}{P:Iy}{w:IY}{ps:List (List Key×V)}(ok:ObjOk P w H h a (.dT ps))(pr:IZ (λ(p:D×D) (q:List Key×V)=>RKeys p.1 q.1/\RD K H p.2 q.2) kvs ps):
 ∃cd dd sl es ep,h.get? a=E {cls:=cd,dict:=dd,data:=.dict es ep,slots:=sl}/\es.size<=HZ/\IZ (kc K H) kvs es.toList:=by
 obtain⟨J,B,xs,j,o,es,ep,h1,h2,z,F,L⟩:=ok;obtain⟨cd,dd,dat,sl⟩:=o;dsimp only at z;subst z;have pp:=yg (P:=P) (w:=w) pr j;rw[<-F]at pp;refine⟨cd,dd,sl,es,ep,h1,?_,pp⟩;have:=cn pp;have:=cn pr;simp at *;lia
theorem zL{pins:List (SS×Obj)}{σ:St}{s:D1}{M:Mem}(I:Inv X pins σ H s)(rm:RM X.K M H){t:Bool}(e:M a=E (.dct t kvs)):
 ∃cd dd sl es ep,s.heap.get? a=E {cls:=cd,dict:=dd,data:=.dict es ep,slots:=sl}/\es.size<=HZ/\IZ (kc X.K H) kvs es.toList/\IsD H a:=by
 have ro:=rm a _ e
 cases t with
 |false=>obtain⟨ps,j,pr⟩:=ro;obtain⟨L,F,vs,B,o,es,ep,h1,h2,z,O,J,U⟩:=I.hok a _ j;obtain⟨cd,dd,dat,sl⟩:=o;dsimp only at z;subst z;have pp:=yf pr B J;refine⟨cd,dd,sl,es,ep,h1,?_,pp,.inl ⟨_,Rd.of j⟩⟩;have:=cn pp;have:=cn pr;simp at *;lia
 |true=>obtain⟨ps,j,pr⟩:=ro;obtain⟨cd,dd,sl,es,ep,h1,h2,z⟩:=nT (I.hok a _ j) pr;exact⟨cd,dd,sl,es,ep,h1,h2,z,.inr ⟨_,Rd.of j⟩⟩
end
section
noncomputable def mG(to tk tx:TEd):TEd:=λρ M Q=>to ρ M λx M1=>∃a t kvs,x=.ref a/\M1 a=E (.dct t kvs)/\tk ρ M1 λk M2=>tx ρ M2 λz M3=>∃t' kvs',M3 a=E (.dct t' kvs')/\iX t' k=N2/\Q ((dget kvs' k).getD z) M3
theorem uC{to tk tx:TEd}(h1:ae to)(h2:ae tk)(B:ae tx):ae (mG to tk tx):=λρ M Q Q' i q=>h1 _ _ _ _ (λx Y j=>(by obtain⟨a,t,kvs,e,F,J⟩:=j;exact⟨a,t,kvs,e,F,h2 _ _ _ _ (λk M2 L=>B _ _ _ _ (λz F2 j=>(by obtain⟨t',kvs',O,ok,U⟩:=j;exact⟨t',kvs',O,ok,i _ _ U⟩)) L) J⟩)) q
section
variable{X:Cx}
theorem By{M:Mem}(rm:RM K M H){t:Bool}(e:M a=E (.dct t kvs)):IsD H a:=by
 have ro:=rm a _ e
 cases t with
 |false=>obtain⟨ps,j,_⟩:=ro;exact .inl ⟨_,Rd.of j⟩
 |true=>obtain⟨ps,j,_⟩:=ro;exact .inr ⟨_,Rd.of j⟩
theorem zM{o e f:Expr}{to tk tx:TEd}{apos cpos:Pos}(F2:X.A.units+1<Lk)(mo:ae to)(mk:ae tk)(mx:ae tx)(ho:PE X o (lE X.K to))(he:PE X e (lE X.K tk))(hf:PE X f (lE X.K tx))(m:M2 X o "get" apos e f cpos):
 PE X (.Call (.Attribute o "get" apos) [e,f] [] cpos) (lE X.K (mG to tk tx)):=by
 refine PE.imp (we F2 ho he hf m) λσ H Q h=>?_;obtain⟨ρ,M,rs,rm,q⟩:=h;refine⟨ρ,M,rs,rm,mo _ _ _ _ (λx M1 g9 v H1 O j rd1=>?_) q⟩;obtain⟨a,t,kvs,e,e1,q1⟩:=g9;subst e
 cases Sm.mp rd1
 have B:=rs.mono (O.stab rm);refine⟨a,rfl,By j e1,ρ,M1,B,j,mk _ _ _ _ (λk M2 q2 v2 H2 U F J=>?_) q1⟩;have L:=B.mono (U.stab j);refine⟨ρ,M2,L,F,mx _ _ _ _ (λz M3 g9 v3 H3 Y rm3 rd3=>?_) q2⟩;obtain⟨t',kvs',e3,ok,q3⟩:=g9;obtain⟨w,g,g1,g2⟩:=q8 rm3 e3 ok (J.mono (Y.stab F));refine⟨w,g,?_⟩;refine q3 _ H3 (O.trans (U.trans Y)) rm3 ?_
 cases e4:dget kvs' k with
 |none=>rw[g2 e4];exact rd3
 |some d=>obtain⟨w',e5,r5⟩:=g1 d e4;rw[e5];exact r5
end
end
end Mi
namespace Mi
end Mi
namespace Mi
end Mi
namespace Mi
end Mi
section
section
variable{prog:Iy}{w:IY}{A:Ji}{fv:q7->D1->Prop}{s:D1}
theorem zN:typeLookup (.type "list") "keys"=pure Z:=by rw[typeLookup_type,P6];kernel_rfl
theorem zO{l:SS}{o:Obj}{xs:Array q7}{k:Nat}{Q:Option q7->D1->Prop}(B:A.handled=Z)(ho:s.heap.get? l=E o)(z:o.cls=.type "list")(hd:o.data=.seq xs k)(j:o.dict=Z)(q:∀h' tk,(∀b o,s.heap.get? b=E o->h'.get? b=E o)->Q Z {s with heap:=h',toks:=tk}):Ik (model prog w) A (getAttr? (.ref l) "keys") Q fv s:=by
 have ty:s.TypeIs (.ref l) "list":=⟨_,ho,z⟩;unfold getAttr?;unfold mkText;refine gV ?_;refine gV (wpAny_fresh ?_);refine D2 ?_;unfold getAttrBy?;refine gV (Li ?_);unfold getAttrBy;refine Ju ?_;refine gV (L8 (s:={s with toks:=s.toks+1}) ty ?_)
 refine gV (Lp F.slot_list_getattribute.lookup ?_);refine OX (by decide) ?_
 unfold getAttrByItsOwn hookBefore;rw[if_neg (by decide)]
 refine gV (D2 ?_);refine gV (Li (Ju ?_));unfold callGetattribute boundAndCalled;rw[if_neg (by decide)]
 refine gV (Lp (F.slot_list_getattribute.bind _) ?_);dsimp only;obtain⟨cls,dd,dat,sl⟩:=o;dsimp only at z hd j;subst z hd j;refine Qz F.slot_list_getattribute (s:={s with toks:=s.toks+1}) ty am_entry_list_getattribute (F.args_list_getattribute_2 _ _) ((meets_getattribute_miss_list l xs k sl "keys" s.toks zN (by decide) (by decide)).inModel prog w) ⟨ho,B,λh' tk a ne=>?_⟩
 ·have ne:s.heap.NewAttrErr h' a (.ref l) "keys":=ne;obtain⟨t,u,he⟩:=ne.there;unfold getattributeRaised;refine gV (Lm (T:="AttributeError") (b:=N2) ⟨_,he,rfl⟩ (by rw[MK];kernel_rfl) ?_)
  rw[if_pos rfl];unfold hookBehind;rw[if_neg (by decide)]
  refine gV (Lp am_list_getattr_none ?_);unfold hookOrError attributeErrorLeaves;dsimp only;rw[if_pos (by decide)]
  refine gV (Rl ?_);refine gV (Lm (T:="AttributeError") (b:=N2) ⟨_,he,rfl⟩ (by rw[MK];kernel_rfl) ?_)
  rw[if_pos rfl];exact D2 (q h' tk ne.keeps)
end
end
section
theorem nU:entryFor table "dict.update.loop"=E KW.«dict.update.loop»:=R3 (by kernel_rfl)
theorem nV:plainId "dict.update.loop"=N2:=by decide +kernel
section
variable{X:Cx}{pins:List (SS×Obj)}{σ:St}{H:Hp}
def PrV(H:Hp)(v:V)(kv:List Key×V):Prop:=∃t b,v=.ref t/\H t=E (.tup [.ref b,kv.2])/\H b=E (.tup (kv.1.map kV))
noncomputable abbrev bT(kvs:List (List Key×V)):List (List Key×V):=kvs.foldl (λa kv=>bp a kv.1 kv.2) []
theorem sf(kvs:List (List Key×V)):(bT kvs).length<=kvs.length:=by
 have g:∀(r:List (List Key×V)) (a:List (List Key×V)),(r.foldl (λa kv=>bp a kv.1 kv.2) a).length<=a.length+r.length:=by
  intro r
  induction r with
  |nil=>intro a;simp
  |cons x r ih=>intro a;have h1:=ih (bp a x.1 x.2);have h2:=cU a x.1 x.2;simp only[JL,Iv];lia
 have:=g kvs [];simpa using this
theorem jg{α β:Type}{R:α->β->Prop}:∀{l:List α} {m:List β} {i:Nat} {x:α},IZ R l m->l[i]?=E x->∃y,m[i]?=E y/\R x y
 |_,_,_,_,.nil,e=>by simp at e
 |_,_,0,_,.cons r _,e=>by simp at e;subst e;exact⟨_,rfl,r⟩
 |_,_,i+1,x,.cons _ t,e=>by simp at e;obtain⟨y,h1,h2⟩:=jg t e;exact⟨y,by simpa using h1,h2⟩
theorem zP(hu:A.units+1<Lk)(hn:A.handled=Z){l it p:SS}{vs:List V}(hp:H p=Z)(F2:H l=E (.lst vs))(J:IZ (PrV H) vs kvs)(hz:vs.length<HZ){R:RQ->D1->Prop}(hf:cr X pins H it)(j:it≠p):
 ∀(k i:Nat) (s:D1),vs.length-i=k->i<=vs.length->Inv X pins σ (upd H p (.dT (bT (kvs.take i)))) s->s.heap.IsListIter it l i->
  (∀s',Inv X pins σ (upd H p (.dT (bT kvs))) s'->R (.ok (.ret .none)) s')->
  Mf (model X.prog X.w) A (.builtin "dict.update.loop" ⟨[.ref p,.ref it,Nk i,.none],[]⟩) R s:=by
 have L:l≠p:=λz=>by rw[z,hp]at F2;cases F2
 have hlen:vs.length=kvs.length:=Lb J;obtain⟨f0,f1,f2,f3,f4,f5⟩:=hf;intro k
 induction k with
 |zero=>
  intro i s hk hi I st q;have Gp:i=vs.length:=∅
  obtain⟨its,rv,pl,_⟩:=I.list (SqL.of (K:=X.K) ((aj L).trans F2));refine Nr nU ?_;unfold KW.«dict.update.loop»;dsimp only;refine gV (P1 hn st pl.isList (by have:=rv.length;simp;lia) λh' eb=>?_)
  refine gV ?_;unfold Builtin.Dict.addKeywords;refine gV ?_;have B:=I.turned (t':=s.toks) (h':=h') (λb o F e=>eb b o F e) ((aj j).trans f0) f1 f3 f4 f5;rw[Gp,hlen,Ln]at B;exact D2 (D2 (D2 (q _ B)))
 |succ k ih=>
  intro i s hk hi I st q;have O:i<vs.length:=∅
  obtain⟨its,rv,pl,_⟩:=I.list (SqL.of (K:=X.K) ((aj L).trans F2));obtain⟨u,Gq,ru⟩:=rv.get (r4 O);obtain⟨kv,Gr,t,b,hv,ht,F⟩:=jg J (r4 O);rw[hv]at ru
  cases(show u=Ke t from ru)
  refine Nr nU ?_;rw[Qm (by rfl) (by rfl)]
  unfold KW.«dict.update.loop»;dsimp only;refine gV (OF st pl.isList (x:=.ref t) (by simpa using Gq) λh' st' sb=>?_)
  have B:=I.turned (t':=s.toks) (h':=h') (λb o F e=>(sb.2 b F).trans e) ((aj j).trans f0) f1 f3 f4 f5;dsimp only;have Gs:t≠p:=λz=>by rw[z,hp]at ht;cases ht
  have Gu:b≠p:=λz=>by rw[z,hp]at F;cases F
  obtain⟨tits,rt,tt,_⟩:=B.tuple (SqT.of (K:=X.K) ((aj Gs).trans ht));obtain⟨ob,U,Gv,nt,Gw⟩:=id tt
  cases rt with
  |cons r1 rt=>
   cases rt with
   |cons r2 rt=>
    cases rt
    cases(show _=Ke b from r1)
    rename_i uv;refine gV (Ju ?_);refine gV (wpAny_tryCatch ?_);unfold Builtin.Dict.pairItems;refine gV (L8 (T:="tuple") (s:={s with heap:=h'}) ⟨ob,U,Gv⟩ ?_)
    rw[if_pos (by decide)]
    refine gV (Kq (s:={s with heap:=h'}) U Gw ?_)
    refine D2 ?_;refine Ju ?_;obtain⟨z,hd,xs,rel,dd⟩:=ya (a:=p) B.hok az;have Gx:xs.length<=HZ:=by rw[<-Lb rel];exact z
    have Y:upd H p (.dT (bT (kvs.take i))) b=E (.tup (kv.1.map kV)):=(aj Gu).trans F;have Gy:(bp (bT (kvs.take i)) kv.1 kv.2).length<=HZ:=by have h1:=cU (bT (kvs.take i)) kv.1 kv.2;have h2:=sf (kvs.take i);rw[IJ]at h2;lia
    have etk:bp (bT (kvs.take i)) kv.1 kv.2=bT (kvs.take (i+1)):=by unfold bT;rw[List.take_succ,Gr,KA];rfl
    refine wpAny_dictSet_heap (hsz:=Gx) (knd:=Ml (aF X.prog X.w)) (Mh hu) (fS B.hok Y) dd λh2 dd' hs=>?_;obtain⟨q',es,ep,hq,g2,g3,g4,_,g5⟩:=dd';have I2:=jK (t':=s.toks+(Ml (aF X.prog X.w)).draws kv.1) B (a:=p) (ob:=.dT (bp (bT (kvs.take i)) kv.1 kv.2)) (by rw[az];exact NP) hs ⟨q',hq⟩ ⟨Gy,hd,_,(rel.put kv.1 Y r2).keeps λc ys ec=>?_,q',es,ep,hq,g2,g3,g4,g5⟩
    ·rw[yC,etk]at I2;refine D2 ⟨Q3 nV _,ih (i+1) _ ∅ ∅ I2 ?_ q⟩
     exact st'.at λo e=>(hs.2 it j).trans e
    ·rw[aj (xV ec az (λz=>nomatch z))];exact ec
end
section
variable{X:Cx}
theorem jh(hu:X.A.units+16<Lk)(hc:X.calm=N2):CallR X (.type "dict") (λxs H Q=>∃l vs kvs,xs=[V.ref l]/\H l=E (.lst vs)/\IZ (PrV H) vs kvs/\vs.length<HZ/\∀p,H p=Z->Q (.ref p) (upd H p (.dT (bT kvs)))):=by
 intro pins s σ H xs us Q I r h;obtain⟨l,vs,kvs,rfl,L,O,hz,q⟩:=h
 cases r with
 |cons r1 rr=>
 cases rr
 cases(show _=Ke l from r1)
 have hn:=I.ok.hd hc;have U:H s.heap.objs.size=Z:=I.hok.fresh (HW _);have I1:=I.laid (a:=s.heap.objs.size) (o:=.dT []) (t':=s.toks) (λ_ _ q=>tv _ q) (HW _) (mY s.heap I.big);have Y:l≠s.heap.objs.size:=λz=>by rw[z,U]at L;cases L
 refine callType_codes (Q₁:=λobj s₁=>obj=.ref s.heap.objs.size/\s₁={s with heap:=s.heap.push {cls:=.type "dict",data:=.dict #[]}}) F.kt_called_dict (F.kt_typeCall_dict_1 _) F.entry_dict_init (kt_code_dict_new _ ⟨rfl,rfl⟩) λobj s₁ h₁=>?_
 obtain⟨rfl,rfl⟩:=h₁;refine⟨⟨_,I9 _ rfl,rfl⟩,F.args_dict_init_2 _ _,?_⟩;unfold KW.«dict.__init__»;refine gV ?_;unfold Builtin.Dict.selfAndRest;unfold Builtin.Dict.notOrdered;rw[if_pos (by decide)]
 have tyd:Shared.TypeIs {s with heap:=s.heap.push {cls:=.type "dict",data:=.dict #[]}} (.ref s.heap.objs.size) "dict":=⟨_,I9 _ rfl,rfl⟩
 refine gV (gV (L8 tyd ?_));rw[if_neg (by decide)]
 refine D2 ?_;refine gV (D2 (D2 ?_));unfold Builtin.Dict.updateCommon Builtin.Dict.updateFrom;dsimp only;obtain⟨its,rv,pl,_⟩:=I1.list (SqL.of (K:=X.K) ((aj Y).trans L));have il:=pl.isList;refine gV (L8 il.typeIs ?_);rw[if_pos (by decide)]
 obtain⟨ob,nn,e1,j,B,J⟩:=id pl;refine gV (zO hn e1 j J B λh1 tk kp=>?_);rw[if_pos (show(Z:Option q7).isNone=N2 from rfl)];refine gV (Kh ?_);have F2:=I1.kept (t':=tk) kp;refine gV (Kx (s:={s with heap:=h1,toks:=tk}) (PlainL.isList (⟨ob,nn,kp _ _ e1,j,B,J⟩)) ?_)
 have I3:=F2.kept (t':=tk) (h':=h1.push {cls:=.type "list_iterator",data:=.fields #[.ref l,.int 0 0]}) λb o e=>tv _ e;refine D2 ⟨Q3 nV _,?_⟩;have hle:s.heap.objs.size<h1.objs.size:=Ig (kp _ _ (I9 _ rfl));have hf:cr X pins H h1.objs.size:=by have:=F2.fpOk (H':=upd H s.heap.objs.size (.dT [])) (HW _) (F2.hok.fresh (HW _));exact⟨by rw[<-this.1,aj (KH hle)],this.2⟩
 refine zP (A:=X.A.in1) (X:=X) (pins:=pins) (σ:=σ) (H:=H) (p:=s.heap.objs.size) (kvs:=kvs) (by have:X.A.in1.units=X.A.units+1:=rfl;lia) hn U L O hz hf (KH hle) vs.length 0 _ ∅ ∅ I3 ⟨_,I9 _ rfl,rfl,rfl⟩ λs' I'=>?_
 exact⟨rfl,.ref s.heap.objs.size,_,I',rfl,q _ U⟩
end
end
namespace Mi
section
section
variable{X:Cx}
noncomputable def si(kvs:List (D×D)):List (D×D):=kvs.foldl (λa kv=>cz a kv.1 kv.2) []
noncomputable def mH:RAd:=λds M Q=>∃a kvs,ds=[.ref a]/\M a=E (.lst (kvs.map λkv:D×D=>.tup [kv.1,kv.2]))/\(∀kv∈kvs,bZ kv.1=N2)/\kvs.length<HZ/\∀p,M p=Z->Q (.ref p) (ad M p (.dct N2 (si kvs)))
theorem lB:aU mH:=λ_ _ _ _ h j=>(by obtain⟨a,kvs,e,z,B,F,q⟩:=j;exact⟨a,kvs,e,z,B,F,λp n=>h _ _ (q p n)⟩)
theorem nW{K:Frag}{H:Hp}:∀{kvs:List (D×D)} {vs:List V},RDs K H (kvs.map λkv:D×D=>.tup [kv.1,kv.2]) vs->(∀kv∈kvs,bZ kv.1=N2)->
 ∃ps:List (List Key×V),IZ (PrV H) vs ps/\IZ (λ(p:D×D) (q:List Key×V)=>RKeys p.1 q.1/\RD K H p.2 q.2) kvs ps
 |[],vs,r,_=>by rw[RDs.nil_iff.mp r];exact⟨[],.nil,.nil⟩
 |kv::kvs,vs,r,h=>by
  rw[Ii]at r;obtain⟨v,vr,rfl,J,L⟩:=Sn.mp r;obtain⟨ps,h1,h2⟩:=nW L λx hx=>h x (HR _ hx);have z:=h kv (I0 ..);obtain⟨k,v⟩:=kv;obtain⟨ks,j⟩:=jM z
  cases k<;>first
   |exact j.elim
   | (obtain⟨t,us,rfl,B,ru⟩:=SJ rfl J
      obtain⟨u1,ur,rfl,O,ru⟩:=Sn.mp ru;obtain⟨u2,U,rfl,Y,ru⟩:=Sn.mp ru;rw[RDs.nil_iff.mp ru]at B;obtain⟨b,ws,rfl,F,rw'⟩:=SJ (jN z) O;rw[fg j rw']at F;exact⟨(ks,u2)::ps,.cons ⟨t,b,rfl,B,F⟩ h1,.cons ⟨j,Y⟩ h2⟩)
theorem nX{K:Frag}{H:Hp}:∀{kvs:List (D×D)} {ps:List (List Key×V)} {a:List (D×D)} {b:List (List Key×V)},IZ (λ(p:D×D) (q:List Key×V)=>RKeys p.1 q.1/\RD K H p.2 q.2) kvs ps->IZ (λ(p:D×D) (q:List Key×V)=>RKeys p.1 q.1/\RD K H p.2 q.2) a b->
 IZ (λ(p:D×D) (q:List Key×V)=>RKeys p.1 q.1/\RD K H p.2 q.2) (kvs.foldl (λa kv=>cz a kv.1 kv.2) a) (ps.foldl (λa kv=>bp a kv.1 kv.2) b)
 |_,_,_,_,.nil,h=>h
 |_,_,_,_,.cons r t,h=>by have g:=nX t (ik (RK:=RKeys) RKeys.inj RKeys.fun r.1 r.2 h);exact g
theorem pP(j:X.A.units+16<Lk)(B:X.calm=N2):CallR X (.type "dict") (lR X.K mH):=by
 refine CallR.of (jh j B) λvs H Q h=>?_;obtain⟨ds,M,rm,rs,a,kvs,rfl,e,F,J,q⟩:=h;obtain⟨v,rfl,r⟩:=rs.one
 cases Sm.mp r
 obtain⟨us,L,ru⟩:=rm _ _ e;obtain⟨ps,h1,h2⟩:=nW ru F;refine⟨a,us,ps,rfl,L,h1,by rw[ru.length,hG];exact J,λp n=>?_⟩
 have st:Stab H (upd H p (.dT (bT ps))):=(SE (M:=M) n).stab rm;exact q p (rm.out n) (.ref p) _ (Ext.lay n) (rm.lay n ⟨_,az,Sr (nX h2 .nil) λ_ _ z=>⟨z.1,z.2.mono st⟩⟩) (Sm.mpr rfl)
end
end
end Mi
namespace Dk
variable{it d:SS}{ep:Nat}{dd:Option SS}{sl:Array (Option q7)}{es:Array Kw}
section
variable{prog:Iy}{w:IY}{A:Ji}{fv:q7->D1->Prop}{s:D1}
noncomputable def kO(d:SS)(i n ep:Nat):Obj:={cls:=.type "dict_keyiterator",data:=.fields #[.ref d,.int i 0,.int n 0,.int ep 0]}
theorem slot_next:Slot "dict_keyiterator" "__next__" "dict_keyiterator.__next__":=.of (owner:="dict_keyiterator") (n:="__next__") (by rw[typeLookup_type,P6];kernel_rfl) (by decide +kernel) (by decide +kernel) (by decide +kernel) (.inl (by decide +kernel)) (by rw[MK];kernel_rfl)
theorem ji:entryFor table "dict_keyiterator.__next__"=E KW.«dict_keyiterator.__next__»:=R3 (by kernel_rfl)
theorem lD(a:q7):argsOk "dict_keyiterator.__next__" ⟨[a],[]⟩:=by unfold argsOk;kernel_rfl
theorem uD(ty:s.TypeIs (.ref it) "dict_keyiterator"){types:List String}{Q:Bool->D1->Prop}(q:Q (types.any λt=>[JF "dict_keyiterator",JF "object"].contains (JF t)) s):Ik (model prog w) A (NS (.ref it) types) Q fv s:=by
 have hm:=Q4;unfold NS
 wp_walk
 exact q
theorem nx_item{i:Nat}{cd:q7}{e:Kw}{Q:Option q7->D1->Prop}(hi:s.heap.get? it=E (kO d i es.size ep))(hd:s.heap.get? d=E {cls:=cd,dict:=dd,data:=.dict es ep,slots:=sl})(he:es[i]?=E e)(q:∀h',h'.get? it=E (kO d (i+1) es.size ep)->JV it s.heap h'->Q (E e.key) {s with heap:=h'}):Ik (model prog w) A (Mu (.ref it)) Q fv s:=by
 have ty:s.TypeIs (.ref it) "dict_keyiterator":=⟨_,hi,rfl⟩;unfold Mu;refine gV (Li (J0 (name:=IF "__next__") ty slot_next (Jj slot_next ty ji ?_ (lD _))));unfold KW.«dict_keyiterator.__next__»;have hm:=Q4
 wp_walk
 dsimp only;rw[if_neg (by simp)]
 simp only[Il,he];refine gV (Kf (Q:=λn s'=>n=0/\s'=s) ?_ (λn s' hs=>?_) λ_ _ z=>z)
 ·wp_walk
  exact⟨by kernel_rfl,rfl⟩
 obtain⟨rfl,rfl⟩:=hs;refine gV (uD ty ?_);refine gV (J3 hi (by simp) λh1 j s1=>?_)
 rw[if_neg (by decide +kernel)]at j
 have j:h1.get? it=E (kO d (i+1) es.size ep):=j;have B:Shared.TypeIs {s' with heap:=h1} (.ref it) "dict_keyiterator":=⟨_,j,rfl⟩
 refine gV (Ju ?_);refine gV (uD B ?_);refine Pu (by decide +kernel) ?_
 refine D2 (D2 ⟨_,rfl,D2 ?_⟩);exact q h1 j s1
theorem nx_end{cd:q7}{Q:Option q7->D1->Prop}(j:A.handled=Z)(hi:s.heap.get? it=E (kO d es.size es.size ep))(hd:s.heap.get? d=E {cls:=cd,dict:=dd,data:=.dict es ep,slots:=sl})(q:∀h',(∀b o,b≠it->s.heap.get? b=E o->h'.get? b=E o)->Q Z {s with heap:=h'}):Ik (model prog w) A (Mu (.ref it)) Q fv s:=by
 have ty:s.TypeIs (.ref it) "dict_keyiterator":=⟨_,hi,rfl⟩;unfold Mu;refine gV (Li (J0 (name:=IF "__next__") ty slot_next (Jj slot_next ty ji ?_ (lD _))));unfold KW.«dict_keyiterator.__next__»;have hm:=Q4
 wp_walk
 dsimp only;rw[if_neg (by simp)]
 have he:es[es.size]?=Z:=MN (HW _);simp only[Il,he];refine gV (Kf (Q:=λn s'=>n=0/\s'=s) ?_ (λn s' hs=>?_) λ_ _ z=>z)
 ·wp_walk
  exact⟨by kernel_rfl,rfl⟩
 obtain⟨rfl,rfl⟩:=hs;refine gV (J3 hi (by simp) λh1 F s1=>?_)
 refine gV (m:=newExc (.type "StopIteration") []) ?_;simp only[newExc,newTuple];refine gV (JQ ?_ (by size_fits))
 refine gV (m:=NQ _ _) (Lp (a:=LP) (by first|rfl|(simp only[NQ];rfl)) (JQ ?_ (by size_fits)))
 simp only[raiseNew];refine gV (wpAny_handled ?_)
 first|rw[show A.in1.handled=Z from j]|rw[j]
 refine gV (D2 (Rl ?_));exact gV (Lm (T:="StopIteration") (b:=N2) ⟨_,I9 _ rfl,rfl⟩ Pn (D2 (q _ λb o B e=>tv _ (tv _ (s1.extBut b o B e)))))
theorem it_dict{Q:q7->D1->Prop}(j:(d==JW)=R9)(hd:s.heap.get? d=E {cls:=.type "dict",dict:=dd,data:=.dict es ep,slots:=sl})(q:Q (.ref s.heap.objs.size) {s with heap:=s.heap.push (kO d 0 es.size ep)}):Ik (model prog w) A (Qf (.ref d)) Q fv s:=by
 have ty:s.TypeIs (.ref d) "dict":=⟨_,hd,rfl⟩;refine wpAny_pyIter_slot ty R4 (Jj R4 ty F.entry_dict_iter ?_ (F.args_dict_iter_1 _));unfold KW.«dict.__iter__»
 wp_walk
 exact⟨_,rfl,"dict_keyiterator",_,⟨_,I9 _ rfl,rfl⟩,slot_next.lookup,q⟩
theorem walk(hn:A.handled=Z)(it d:SS)(hne:d≠it)(es:Array Kw)(ep:Nat):
 Walks prog w A it [it,d] [it] es.size (λi v=>∃e,es[i]?=E e/\v=e.key) (λi h=>h.get? it=E (kO d i es.size ep)/\∃cd dd sl,h.get? d=E {cls:=cd,dict:=dd,data:=.dict es ep,slots:=sl}) where
 sub:=λb hb=>by simp at hb;simp[hb]
 frame:=λ_ _ _ st k=>⟨k it (by simp) _ st.1,by obtain⟨cd,dd,sl,h⟩:=st.2;exact⟨cd,dd,sl,k d (by simp) _ h⟩⟩
 item:=λi s Q fv hi st q=>by obtain⟨h1,cd,dd,sl,h2⟩:=st;refine nx_item (e:=es[i]) h1 h2 (Jq hi) λh' e' s'=>?_;exact q _ h' s.toks ⟨_,Jq hi,rfl⟩ ⟨e',cd,dd,sl,s'.extBut d _ hne h2⟩ λb o hb x=>s'.extBut b o (λz=>hb (by simp[z])) x
 done:=λs Q fv st q=>by obtain⟨h1,cd,dd,sl,h2⟩:=st;exact nx_end hn h1 h2 λh' k=>q h' s.toks λb o hb x=>k b o (λz=>hb (by simp[z])) x
 self:=λi s Q fv st q=>Pw ⟨_,st.1,rfl,rfl⟩ q
theorem uE{Q:Bool->D1->Prop}(ty:s.TypeIs (.ref d) "dict")(q:Q R9 s):Ik (model prog w) A (ND (.ref d)) Q fv s:=by
 unfold ND;refine gV (wpAny_specialOf ty F.slot_dict_len.lookup ?_);generalize j:("dict.__len__":String)=z
 (fail_if_success (clear j z));wp_delta
 rw[show splitId z=E ("dict","__len__")from by subst j;decide +kernel]
 subst j;refine gV (Lm (b:=N2) ty (by rw[MK];kernel_rfl) ?_)
 rw[if_neg (by decide)]
 refine Pu (by decide +kernel) ?_
 refine gV (L8 ty ?_);exact D2 q
open Builtin.List in
theorem xp(hn:A.handled=Z){S:SS}{c:Nat}{R:RQ->D1->Prop}(res:q7)(Gp:(d==JW)=R9)(hd:s.heap.get? d=E {cls:=.type "dict",dict:=dd,data:=.dict es ep,slots:=sl})(F2:s.heap.get? S=E {cls:=.type "list",data:=.seq #[] c})(hz:es.size<=HZ)(q:∀(h':Heap) (tk:Nat) (acc':Array q7) (c':Nat),(∀b o,b≠S->s.heap.get? b=E o->h'.get? b=E o)->h'.get? S=E {cls:=.type "list",data:=.seq acc' c'}->acc'.toList=es.toList.map (·.key)->s.toks<=tk->R (.ok (.ret res)) {s with heap:=h',toks:=tk}):
 Ik (model prog w) A.in1 (listExtendWith (.ref S) (.ref d) res) (λfin s'=>match fin with|.done f=>R (.ok f) s'|.again c'=>c'.quiet=N2/\Mf (model prog w) A c' R s') (λe s'=>R (.error e) s') s:=by
 have ty:s.TypeIs (.ref d) "dict":=⟨_,hd,rfl⟩;have J:S≠d:=λe=>by rw[e,hd]at F2;simp at F2
 have h1:listSameRef (.ref S) (.ref d)=R9:=by simp[listSameRef,J]
 unfold listExtendWith;refine gV (L8 ty ?_);rw[if_neg (by rw[h1];decide)]
 refine gV (it_dict Gp hd ?_);refine gV (Ju (uE (s:={s with heap:=s.heap.push (kO d 0 es.size ep)}) ⟨_,tv _ hd,rfl⟩ ?_))
 have B:=Ig F2;have L:=Ig hd;have W:=(walk (prog:=prog) (w:=w) (A:=A.in1) hn s.heap.objs.size d (IU L) es ep).toS;have Gq:S∉[s.heap.objs.size,d]:=λhm=>by
  simp only[Ij,Ja,or_false]at hm
  rcases hm with e|e
  ·exact absurd (e▸B) (JJ _)
  ·exact J e
 refine Pu (by decide +kernel) ?_
 refine gV (Kh ?_);unfold listTouch;have O:(s.heap.push (kO d 0 es.size ep)).get? S=E (R0 "list" #[] c):=tv _ F2;refine gV (gV (N9 O rfl ?_ (by simp) (by simp)))
 have U:=Mg O (λx=>x.push LP);refine N9 U rfl ?_ (by simp;decide) (by simp)
 have Gr:=Mg U (λx=>x.pop);have oth:∀b o,b≠S->s.heap.get? b=E o->(((s.heap.push (kO d 0 es.size ep)).update S (Lu λx=>x.push LP)).update S (Lu λx=>x.pop)).get? b=E o:=λb o Y e=>by rw[K9 _ _ _ _ Y,K9 _ _ _ _ Y];exact tv _ e
 have hit:(((s.heap.push (kO d 0 es.size ep)).update S (Lu λx=>x.push LP)).update S (Lu λx=>x.pop)).get? s.heap.objs.size=E (kO d 0 es.size ep):=by rw[K9 _ _ _ _ (KH B),K9 _ _ _ _ (KH B)];exact I9 _ rfl
 refine D2 ⟨Q3 F.plain_extend_loop _,codeAny_extend_loopS W hz _ Gq _ es.size 0 _ _ _ rfl (JG _) ⟨hit,_,_,_,oth d _ J.symm hd⟩ Gr (ItemsOf.nil _) λs' acc c' hm Gs ha=>?_⟩;rw[hm.eq_with];refine q _ _ acc c' (λb o Y e=>?_) Gs ?_ hm.toks
 ·exact hm.heap b o (fun z=>by
   simp only[Ij,Ja,or_false]at z
   rcases z with z|z
   ·exact Y z
   ·exact absurd (z▸Ig e) (JJ _)) (oth b o Y e)
 ·obtain⟨g1,g2⟩:=ha;apply K1;intro j;rw[Jy,I8,Jy]
  by_cases hj:j<es.size
  ·obtain⟨e,he,hv⟩:=g2 j (acc[j]'∅) (Jq ∅)
   rw[Jq ∅,hv,he];rfl
  ·rw[MN ∅,MN ∅];rfl
theorem collect_dict(O:A.handled=Z){Q:List q7->D1->Prop}(j:(d==JW)=R9)(hd:s.heap.get? d=E {cls:=.type "dict",dict:=dd,data:=.dict es ep,slots:=sl})(U:es.size<=HZ)(q:∀(h':Heap) (tk:Nat),(∀b o,s.heap.get? b=E o->h'.get? b=E o)->s.toks<=tk->Q (es.toList.map (·.key)) {s with heap:=h',toks:=tk}):Ik (model prog w) A (collect (.ref d)) Q fv s:=by
 unfold collect;refine gV (wpAny_runValue (Nr F.entry_proto_collect ?_));unfold KW.«proto.collect»;dsimp only;refine gV (Oj ?_ (by simp))
 refine D2 ⟨Code.quiet_builtin _ (by decide +kernel),?_⟩
 refine Nr entry_list_iadd' ?_;unfold KW.«list.__iadd__»;refine gV (Lp (a:=(Ke s.heap.objs.size,[Ke d])) (by kernel_rfl) ?_)
 have z:(s.heap.push {cls:=JF "list",data:=Nb [].toArray}).get? s.heap.objs.size=E {cls:=JF "list",data:=Nb #[] 0}:=I9 _ rfl;rw[Qm (by rfl) (by rfl)]
 refine Kf (xp (s:={s with heap:=s.heap.push {cls:=JF "list",data:=Nb [].toArray}}) (R:=λr s'=>r=.ok (.ret (.ref s.heap.objs.size))/\Ik (model prog w) A (do
  let o <-load s.heap.objs.size
  match o.data with
  |.seq xs _=>pure xs.toList
  |_=>unsupported "internal:collect") Q fv s') O (Ke s.heap.objs.size) j (tv _ hd) z U λh' tk acc c' kp B Y J=>⟨rfl,?_⟩) (λfn s' h=>?_) (λe s' h=>?_)
 ·refine gV (wpAny_load B ?_);refine D2 ?_;rw[Y];exact q h' tk (λb o e=>kp b o (IU (Ig e)) (tv _ e)) J
 ·cases fn with
  |done f=>
   obtain⟨e,h⟩:=h
   cases e
   exact h
  |again c'=>refine⟨h.1,Mw h.2 λr s1 L=>?_⟩;obtain⟨rfl,L⟩:=L;exact L
 ·cases h.1
end
end Dk
namespace Mi
open L2.Srt
noncomputable def jj:RAd:=λds M Q=>∃a t kvs sh,ds=[.ref a]/\M a=E (.dct t kvs)/\jZ sh=N2/\(∀kv∈kvs,hs sh kv.1=N2)/\kvs.length<=63/\∀p ys,M p=Z->ys.Perm (kvs.map (·.1))->nR ys->Q (.ref p) (ad M p (.lst ys))
theorem jk:aU jj:=λ_ _ _ _ h j=>(by obtain⟨a,t,kvs,sh,e,z,B,F,J,q⟩:=j;exact⟨a,t,kvs,sh,e,z,B,F,J,λp ys n L hs=>h _ _ (q p ys n L hs)⟩)
theorem qh{K:Frag}{H:Hp}:∀{kvs:List (D×D)} {es:List Kw},IZ (kc K H) kvs es->∃vs,RDs K H (kvs.map (·.1)) vs/\Vals vs (es.map (·.key))
 |_,_,.nil=>⟨[],RDs.nil,.nil⟩
 |_,_,.cons r t=>by obtain⟨vs,h1,h2⟩:=qh t;obtain⟨kV,vV,g1,g2,_,_⟩:=r;exact⟨kV::vs,RDs.cons g1 h1,.cons g2 h2⟩
section
variable{X:Cx}
theorem nY(O:X.A.units+16<Lk)(U:X.calm=N2):CallR X (.builtin "sorted") (lR X.K jj):=by
 intro pins s σ H xs us Q I r h;obtain⟨ds,M,rm,rs,a,t,kvs,sh,rfl,e,hok,j,Y,q⟩:=h;obtain⟨v,rfl,rv⟩:=rs.one;obtain⟨u,rfl,ru⟩:=eA r
 cases Sm.mp rv
 cases(show u=Ke a from ru)
 obtain⟨cd,dd,sl,es,ep,hd,F2,z,hD⟩:=zL I rm e;obtain⟨t1,t2,B⟩:=iR I hD;obtain⟨vs,h1,h2⟩:=qh z;have F:cd=.type "dict":=by obtain⟨o,g1,g2⟩:=t1;rw[hd]at g1;cases g1;exact g2
 subst F;have hn:X.A.in1.handled=Z:=I.ok.hd U;exact pO pN O I rm h1 hok (λd hd=>by obtain⟨kv,J,rfl⟩:=HQ.mp hd;exact j kv J) q h2 (by have:=h2.length;rw[hG]at this;simp at this;lia) (by have:=h2.length;rw[hG]at this;have h9:=h1.length;rw[hG]at h9;lia) λfv R hR=>Dk.collect_dict hn B hd F2 λh' tk kp L=>hR h' tk kp L
end
end Mi
namespace Mi
end Mi
namespace Mi
end Mi
section
section
variable{X:Cx}{pins:List (SS×Obj)}{σ:St}{H:Hp}{s:D1}
theorem Inv.freeze(I:Inv X pins σ H s){ps:List (List Key×V)}(e:H a=E (.dT ps)):∃o,Inv X pins σ (upd H a (.frz o (.dT ps))) s:=by
 obtain⟨B,j,xs,pr,o,es,ep,h1,h2,F,J,L⟩:=id (I.hok a _ e);have mu:Mut (H a):=by rw[e];exact NP
 have u:Un X.fs [] H (upd H a (.frz o (.dT ps))) s.heap s.heap:=Un.write mu (.inl rfl) (λb u _ q=>q) ⟨_,h1⟩;have ok:HOk X.prog X.w (upd H a (.frz o (.dT ps))) s.heap:=HOk.write I.hok mu (.inl rfl) (λb u _ q=>q) ⟨_,h1⟩
  ⟨h1,(I.hok a _ e).stay (λb u _ q=>q) (λb q=>by rw[aj (λz=>by subst z;rw[e]at q;cases q)];exact q) (λb xs q=>by rw[aj (λz=>by subst z;rw[e]at q;cases q)];exact q)⟩
 exact⟨o,I.un (t':=s.toks) u ok⟩
end
noncomputable def Itk(n:Nat)(G:Hp->Prop)(yl:Nat->V->Hp->Prop):It:=⟨λi H=>i<n/\G H,λi H x H'=>H'=H/\yl i x H,λi H=>n<=i/\G H⟩
theorem uF{tg:Expr}(a it:SS){cd:q7}{dd:Option SS}{sl:Array (Option q7)}{es:Array Kw}{ep:Nat}{G:Hp->Prop}{yl:Nat->V->Hp->Prop}(Y:∀H,G H->∃u,H a=E (.frz {cls:=cd,dict:=dd,data:=.dict es ep,slots:=sl} u))(hy:∀i H h,HOk P w H h->G H->∀e,es[i]?=E e->∃x,RelV x e.key/\yl i x H):
 fO P w K tg (Itk es.size G yl) [it] it (λi h=>i<=es.size/\h.get? it=E (Dk.kO a i es.size ep)) where
 mem:=by simp
 obj:=λi h st b B=>by
  have e:b=it:=by simpa using B
  subst e;exact⟨_,st.2,λv z=>by cases z⟩
 keep:=λi h h' st k=>⟨st.1,k it (by simp) _ st.2⟩
 item:=by
  intro X F hw J F2 i pins s σ H fv I hf st j;subst F hw J;obtain⟨hi,j⟩:=j;obtain⟨u,L⟩:=Y H j;obtain⟨f0,f1,f2,O,f4,U⟩:=hf it (by simp)
  obtain⟨x,rx,yx⟩:=hy i H s.heap I.hok j es[i] (Jq hi);refine Dk.nx_item (e:=es[i]) st.2 (I.hok a _ L).1 (Jq hi) λh' st' sb=>?_;have I1:Inv X pins σ H {s with heap:=h'}:=I.turned (t':=s.toks) (λb o B e=>(sb.2 b B).trans e) f0 f1 O f4 U
  exact⟨_,rfl,lY (s:={s with heap:=h'}) (n:="dict_keyiterator") st' rfl rfl (by decide) ⟨x,H,I1,rx,⟨rfl,yx⟩,⟨hi,st'⟩,λb B=>(hf b B).1⟩⟩
 done:=by
  intro X F hw J F2 i pins s σ H fv I hf st j;subst F hw J;obtain⟨hi,j⟩:=j;obtain⟨u,L⟩:=Y H j;obtain⟨f0,f1,f2,O,f4,U⟩:=hf it (by simp)
  have e:i=es.size:=by have:=st.1;lia
  subst e;exact Dk.nx_end (I.ok.hd F2) st.2 (I.hok a _ L).1 λh' k=>⟨rfl,I.turned (t':=s.toks) (λb o B e=>k b o B e) f0 f1 O f4 U⟩
 self:=λA i s Q fv st h=>Pw ⟨_,st.2,rfl,rfl⟩ h
namespace Mi
section
variable{X:Cx}
noncomputable def nZ(i:Nat)(t:TSd):TSd:=λA ρ M=>∃a kvs,ρ[i]?=E (E (.ref a))/\((M a=E (.dct N2 kvs)/\t A ρ (ad M a (.fdc kvs)))∨(M a=E (.fdc kvs)/\t A ρ M))
theorem xq{i:Nat}{t:TSd}(h:aD t):aD (nZ i t):=λa b ρ M l g9=>(by obtain⟨p,kvs,e,q⟩:=g9;exact⟨p,kvs,e,q.imp (λq=>⟨q.1,h _ _ _ _ l q.2⟩) λq=>⟨q.1,h _ _ _ _ l q.2⟩⟩)
theorem BA{st:Stmt}{i:Nat}{t:TSd}(h:PS X st (lS X.K t)):PS X st (lS X.K (nZ i t)):=by
 intro pins s σ H D I ⟨ρ,M,A,rs,rm,lk,a,kvs,e,q⟩
 rcases q with⟨m,q⟩|⟨m,q⟩
 ·obtain⟨ps,j,pr⟩:=rm a _ m;obtain⟨o,I'⟩:=I.freeze j;have sb:Stab H (upd H a (.frz o (.dT ps))):=rm.stabPut m;exact h pins s σ _ D I' ⟨ρ,ad M a (.fdc kvs),A,rs.mono sb,rm.put m ⟨o,ps,az,Sr pr λ_ _ z=>⟨z.1,z.2.mono sb⟩⟩,lk.ext (Ext.put m),q⟩
 ·exact h pins s σ H D I ⟨ρ,M,A,rs,rm,lk,q⟩
noncomputable def mJ(ta:TEd):TId:=λρ M R=>ta ρ M λx M1=>∃a kvs,x=.ref a/\M1 a=E (.fdc kvs)/\R (kvs.map (·.1)) (λ_=>True) M1
theorem uG{ta:TEd}(h:ae ta):cj (mJ ta):=λρ M Q Q' i q=>h _ _ _ _ (λx F j=>(by obtain⟨a,ds,e,z,B⟩:=j;exact⟨a,ds,e,z,i _ _ _ B⟩)) q
theorem qi{K:Frag}{H:Hp}:∀{kvs:List (D×D)} {es:List Kw},IZ (kc K H) kvs es->∀(i:Nat) (e:Kw),es[i]?=E e->∃(kv:D×D) (v:V),kvs[i]?=E kv/\RD K H kv.1 v/\RelV v e.key
 |_,_,.nil,_,_,h=>by simp at h
 |_,_,.cons r t,0,_,h=>by simp at h;subst h;obtain⟨kV,vV,g1,g2,_,_⟩:=r;exact⟨_,kV,rfl,g1,g2⟩
 |_,_,.cons _ t,i+1,e,h=>by
  obtain⟨kv,v,h1,h2⟩:=qi t i e (by simpa using h)
  exact⟨kv,v,by simpa using h1,h2⟩
theorem zQ{tg e:Expr}{ta:TEd}(m:ae ta)(he:PE X e (lE X.K ta)):PI X tg e (lI X.K (mJ ta)):=by
 intro pins s σ H R I h;obtain⟨ρ,M,rs,rm,q⟩:=h;have hq:lE X.K ta σ H (λv H1=>∃a kvs B,v=.ref a/\Ext M H B H1/\RM X.K B H1/\B a=E (.fdc kvs)/\∀J,fY X.K H1 (kvs.map (·.1)) (λ_=>True) J->R J H1):=
  ⟨ρ,M,rs,rm,m _ _ _ _ (fun x B ⟨a,kvs,e,O,U⟩ v H1 Y j rd1=>by
   subst e
   cases Sm.mp rd1
   exact⟨a,kvs,B,rfl,Y,j,O,λJ ij=>U J H1 Y j ij⟩) q⟩
 refine thn (he pins s σ H _ I hq) λu s1 g9=>?_;obtain⟨x,H1,F,r1,a,kvs,B,e0,Y,j,O,U⟩:=g9;subst e0
 cases r1
 obtain⟨o,ps,F2,pr⟩:=j _ _ O;obtain⟨g0,ok⟩:=F.hok a _ F2;obtain⟨cd,dd,sl,es,ep,g1,g2,g3⟩:=nT ok pr;obtain⟨ty,_,Gp⟩:=iR F (.inr ⟨ps,.inr ⟨o,F2⟩⟩);rw[g0]at g1
 cases g1
 have Gq:cd=.type "dict":=by obtain⟨o,h1,h2⟩:=ty;rw[g0]at h1;cases h1;exact h2
 subst Gq;have lz:kvs.length=es.size:=by have:=cn g3;simpa using this
 refine Dk.it_dict Gp g0 ?_;refine⟨s1.heap.objs.size,[s1.heap.objs.size],_,_,H1,rfl,F.kept (t':=s1.toks) λb o e=>tv _ e,uF (G:=λH=>H a=E (.frz {cls:=.type "dict",dict:=dd,data:=.dict es ep,slots:=sl} (.dT ps))/\IZ (λ(p:D×D) (q:List Key×V)=>RKeys p.1 q.1/\RD X.K H p.2 q.2) kvs ps) (yl:=λi x H=>∃kv,kvs[i]?=E kv/\RD X.K H kv.1 x) a _ (λH h=>⟨_,h.1⟩) (λi H h hok ⟨ha,pr'⟩ e he=>?_),⟨JG _,I9 _ rfl⟩,λb hb=>?_,U _ ?_⟩
 ·obtain⟨z0,ok'⟩:=hok a _ ha;obtain⟨cd,dd,sl',es',ep',z1,_,z3⟩:=nT ok' pr';rw[z0]at z1
  cases z1
  obtain⟨kv,v,y1,y2,y3⟩:=qi z3 i e (by simpa using he)
  exact⟨v,y3,kv,y1,y2⟩
 ·have e:b=s1.heap.objs.size:=by simpa using hb
  subst e;exact F.fpOk (HW _) (F.hok.fresh (HW _))
 ·intro M' H' st rm' _ i;have L:=st.frz _ _ _ F2;have pr':IZ (λ(p:D×D) (q:List Key×V)=>RKeys p.1 q.1/\RD X.K H' p.2 q.2) kvs ps:=Sr pr λ_ _ z=>⟨z.1,z.2.mono st⟩;rw[hG,lz];refine⟨λhi=>⟨hi,L,pr'⟩,λhi=>⟨⟨hi,L,pr'⟩,λx H'' y=>?_⟩⟩;obtain⟨e,kv,y1,y2⟩:=y;subst e;exact⟨.inl rfl,kv.1,by rw[I8,y1];rfl,y2⟩
end
end Mi
end
namespace Mi
section
variable{X:Cx}
def dI(M:Mem)(a:SS)(kvs:List (D×D)):Prop:=(M a=E (.dct N2 kvs)∨M a=E (.fdc kvs))/\∀kv∈kvs,∃i,kv.2=.int i
theorem dI.at{K:Frag}{M:Mem}{H:Hp}{a:SS}{kvs:List (D×D)}(rm:RM K M H)(h:dI M a kvs):∃ps,Rd H a (.dT ps)/\IZ (λ(p:D×D) (q:List Key×V)=>RKeys p.1 q.1/\RD K H p.2 q.2) kvs ps:=by
 rcases h.1 with e|e
 ·obtain⟨ps,j,pr⟩:=rm a _ e;exact⟨ps,.inl j,pr⟩
 ·obtain⟨o,ps,j,pr⟩:=rm a _ e;exact⟨ps,.inr ⟨o,j⟩,pr⟩
end
section
section
variable{lt:Nat->Nat->Bool}{prog:Iy}{w:IY}{A:Ji}{R:RQ->D1->Prop}{I:SS}{fp wr:List SS}{n:Nat}{P:Nat->q7->Prop}{St:Nat->Heap->Prop}{h0:Heap}{S:SS}
def Kpt(wr:List SS)(S:SS)(h h':Heap):Prop:=∀b o,b∉wr->b≠S->h.get? b=E o->h'.get? b=E o
theorem Kpt.trans{wr:List SS}{S:SS}{a b c:Heap}(h:Kpt wr S a b)(g:Kpt wr S b c):Kpt wr S a c:=λx o h1 h2 e=>g x o h1 h2 (h x o h1 h2 e)
end
end
end Mi
namespace Mi
end Mi
namespace Mi
section
section
variable{X:Cx}
noncomputable def jl:D->List D->Mem->QD->Prop:=λx ds M Q=>∃(a:SS) (xs:List D) (i:Nat) (y:D),x=.ref a/\ds=[.int (i:Nat)]/\M a=E (.lst xs)/\xs[i]?=E y/\i<2^62/\Q y (ad M a (.lst (xs.eraseIdx i)))
theorem jm:gE jl:=λ_ _ _ _ _ h j=>(by obtain⟨a,xs,i,y,z,B,F,J,L,q⟩:=j;exact⟨a,xs,i,y,z,B,F,J,L,h _ _ q⟩)
theorem RDs.eraseIdx{K:Frag}{H:Hp}:∀{ds:List D} {vs:List V} (i:Nat),RDs K H ds vs->RDs K H (ds.eraseIdx i) (vs.eraseIdx i):=by intro ds vs i r;rw[J6,J6];exact(r.take i).append (r.drop (i+1))
theorem zR{K:Frag}(v:V)(vs:List V)(H:Hp)(Q:VK)(h:lMt K jl v vs H Q):tz v vs H Q:=by
 obtain⟨x,ds,M,rm,rx,rs,a,xs,i,y,rfl,rfl,e,j,hi,q⟩:=h
 cases Sm.mp rx
 obtain⟨J,rfl,z⟩:=rs.one
 cases Sl.mp z
 obtain⟨us,B,ru⟩:=rm _ _ e;obtain⟨w,hw,rw'⟩:=ru.get j;have F:i<us.length:=(HU.mp hw).1;refine⟨a,us,(i:Nat),i,w,rfl,rfl,B,∅,∅,?_,hw,jV rm e (ru.eraseIdx i) rw' q⟩
 exact(jI (by unfold ixN;rw[if_pos ∅,if_pos ∅,Il])).1
end
end
end Mi
namespace Mi
end Mi
namespace Mi
end Mi
namespace Mi
open L2.Srt
end Mi
namespace Srt
open AutoSeq1 (wpAny_loadPart')
open MeetsSeq MeetsSeq2 MeetsSeq3
end Srt
namespace Srt
end Srt
namespace Mi
open L2.Srt
end Mi
namespace ST
noncomputable abbrev Tb:=SetTable
noncomputable abbrev Pb:=SetTable.Probe
noncomputable def xr(t:Tb):Nat->Pb->Pb
 |0,p=>p
 |n+1,p=>xr t n (t.advance p)
end ST
namespace ST
noncomputable abbrev Srt(l:List Nat):Prop:=l.Pairwise (· < ·)
noncomputable abbrev En:=Nat×Int×q7
end ST
namespace ST
structure Own(t:Tb)(hs:List Int)(ow:Array (Option Nat))(n:Nat):Prop where
 size:ow.size=t.mask+1
 lt:∀(j i:Nat),ow[j]?=E (E i)->i<n
 one:∀i,i<n->∃j:Nat,ow[j]?=E (E i)
 uniq:∀j j' i:Nat,ow[j]?=E (E i)->ow[j']?=E (E i)->j=j'
 reach:∀(j i:Nat),ow[j]?=E (E i)->∃h m,hs[i]?=E h/\(xr t m (t.probeStart h)).j=j/\∀k,k<m->∃i',ow[(xr t k (t.probeStart h)).j]?=E (E i')
end ST
namespace ST
theorem Own.nil{t:Tb}{hs:List Int}:Own t hs (RF (t.mask+1) Z) 0:=by
 have e:∀(j i:Nat),(RF (t.mask+1) (Z:Option Nat))[j]?=E (E i)->False:=λj i e=>by
  rw[Array.getElem?_replicate]at e
  split at e<;>simp at e
 exact⟨Array.size_replicate,λj i h=>(e j i h).elim,λi h=>absurd h (Nat.not_lt_zero _),λj j' i h=>(e j i h).elim,λj i h=>(e j i h).elim⟩
end ST
namespace ST
end ST
namespace ST
end ST
namespace ST
end ST
namespace ST
end ST
namespace ST
end ST
namespace ST
end ST
namespace ST
end ST
namespace ST
end ST
namespace ST
end ST
namespace ST
end ST
namespace Mi
open L2.Srt
end Mi
section
theorem KT.drop(r:KT H kvs xs)(k:List Key):KT H (lZ kvs k) (xs.filter λx=>decide (x.1≠k)):=by
 unfold lZ
 induction r with
 |nil=>exact .nil
 |@cons p q ps qs h t ih=>
  obtain⟨h1,h2,j⟩:=h
  by_cases e:p.1=k
  ·rw[IQ (by simp[e]),IQ (by simp[h1.symm.trans e])];exact ih
  ·rw[ID (by simp[e]),ID (by simpa usingλz=>e (h1.trans z))];exact .cons ⟨h1,h2,j⟩ ih
namespace Mi
end Mi
end
namespace Mi
end Mi
namespace Mi
end Mi
namespace It
end It
namespace Mi
end Mi
namespace Mi
end Mi
namespace En
open Sem (wp)
end En
namespace Mi
end Mi
namespace Mi
open L2.Srt
end Mi
namespace Mi
end Mi
namespace Mi
end Mi
namespace Mi
variable{K:Frag}
section
mutual
noncomputable def GV(K:Frag):D->q7->Prop
 |.int i,v=>∃t,v=.int i t
 |.str x,v=>∃t,v=.str x t
 |.tup ds,v=>∃a o its n,v=.ref a/\K.lookup a=E o/\o.cls=.type "tuple"/\o.data=.seq its n/\its.size<=HZ/\fk ds=R9/\GVs K ds its.toList
 |_,_=>False
noncomputable def GVs(K:Frag):List D->List q7->Prop
 |[],us=>us=[]
 |d::ds,us=>∃u r,us=u::r/\GV K d u/\GVs K ds r
end
theorem GV.ints{i:Int}{t}:GV K (.int i) (.int i t):=by unfold GV;exact⟨t,rfl⟩
theorem GV.tups{ds:List D}{a:SS}{od sl}{its:Array q7}{n:Nat}(h:K.lookup a=E ⟨.type "tuple",od,.seq its n,sl⟩)(j:its.size<=1000)(f:fk ds=R9)(r:GVs K ds its.toList):GV K (.tup ds) (.ref a):=by unfold GV;exact⟨a,_,its,n,rfl,h,rfl,rfl,by rw[z4];lia,f,r⟩
theorem GVs.nil:GVs K [] []:=by unfold GVs;rfl
theorem GVs.cons{K:Frag}{d:D}{ds:List D}{u:q7}{us:List q7}(h:GV K d u)(r:GVs K ds us):GVs K (d::ds) (u::us):=by unfold GVs;exact⟨u,us,rfl,h,r⟩
mutual
theorem yh{K:Frag}:∀{d:D} {u:q7},GV K d u->∃v,RelV v u/\∀H,RD K H d v
 |.int i,u,h=>by unfold GV at h;obtain⟨t,rfl⟩:=h;exact⟨.int i,⟨t,rfl⟩,λH=>Sl.mpr rfl⟩
 |.str i,u,h=>by unfold GV at h;obtain⟨t,rfl⟩:=h;exact⟨.str i,⟨t,rfl⟩,λH=>Sy.mpr rfl⟩
 |.tup ds,u,h=>by unfold GV at h;obtain⟨a,o,its,n,rfl,h1,h2,j,z,B,F⟩:=h;obtain⟨vs,g1,g2⟩:=gvs_rd F;exact⟨.ref a,rfl,λH=>SD.mpr ⟨a,vs,rfl,.inr ⟨B,.inr ⟨o,its,n,h1,h2,j,z,g1⟩⟩,g2 H⟩⟩
 |.non,u,h=>by unfold GV at h;exact h.elim
 |.bl _,u,h=>by unfold GV at h;exact h.elim
 |.con _,u,h=>by unfold GV at h;exact h.elim
 |.ref _,u,h=>by unfold GV at h;exact h.elim
 |.fn _,u,h=>by unfold GV at h;exact h.elim
theorem gvs_rd{K:Frag}:∀{ds:List D} {us:List q7},GVs K ds us->∃vs,Vals vs us/\∀H,RDs K H ds vs
 |[],us,h=>by unfold GVs at h;subst h;exact⟨[],.nil,λH=>RDs.nil⟩
 |d::ds,us,h=>by unfold GVs at h;obtain⟨u,r,rfl,h1,h2⟩:=h;obtain⟨v,g1,g2⟩:=yh h1;obtain⟨vs,g3,j⟩:=gvs_rd h2;exact⟨v::vs,.cons g1 g3,λH=>RDs.cons (g2 H) (j H)⟩
end
end
end Mi
namespace Mi
end Mi
namespace Mi
section
inductive BOp where|add|sub|mul|fdiv|mod|pow
inductive COp where|eq|ne|lt|le|gt|ge
inductive BF where|len|abs|max2|min2|int|list|tuple|any|dict|sorts
inductive MF where|append|extend|pop
set_option genCtorIdx false
set_option genInjectivity false
mutual
inductive MG where
 |name (i:Nat)
 |tup (gs:MGs)
inductive MGs where
 |nil
 |cons (g:MG) (r:MGs)
end
mutual
inductive ME where
 |var (i:Nat)
 |int (i:Int)
 |bl (b:Bool)
 |non
 |str (x:Str)
 |bin (op:BOp) (a b:ME)
 |neg (a:ME)
 |cmp (op:COp) (a b:ME)
 |and (es:MEs)
 |or (es:MEs)
 |not (a:ME)
 |ite (c:MT) (a b:ME)
 |tup (es:MEs)
 |lst (es:MEs)
 |ix (a b:ME)
 |sl (a:ME) (lo hi:MO)
 |call (f:Nat) (es:MEs)
 |blt (f:BF) (es:MEs)
 |lrng (a:ME)
 |glob (x:Str) (d:D)
 |dnew (t:Bool)
 |dget (o k x:ME)
 |meth (m:MF) (o a:ME)
 |comp (fr:List (Option Nat)) (N:List Str) (c:MC)
inductive MEs where
 |nil
 |cons (e:ME) (r:MEs)
inductive MO where
 |none
 |some (e:ME)
inductive MT where
 |tru (e:ME)
 |cmp (op:COp) (a b:ME)
 |and (ts:MTs)
 |or (ts:MTs)
 |not (t:MT)
inductive MTs where
 |nil
 |cons (t:MT) (r:MTs)
inductive MI where
 |seq (e:ME)
 |rng1 (a:ME)
 |rng2 (a b:ME)
 |zip (a b:ME)
 |enum (a:ME)
 |keys (a:ME)
inductive MC where
 |last (src:MI) (g:MG) (ifs:MTs) (elt:ME)
 |more (src:MI) (g:MG) (ifs:MTs) (rest:MC)
end
mutual
inductive MS where
 |asg (g:MG) (e:ME)
 |par (i j:Nat) (a b:ME)
 |put (o i e:ME)
 |aug (i:Nat) (op:BOp) (e:ME)
 |drop (e:ME)
 |ret (e:ME)
 |ite (c:MT) (a b:MSs)
 |for (g:MG) (src:MI) (b:MSs)
 |while (c:MT) (b:MSs)
 |frz (i:Nat) (s:MS)
 |pass|brk|cnt
inductive MSs where
 |nil
 |cons (s:MS) (r:MSs)
end
set_option genCtorIdx true
set_option genInjectivity true
noncomputable def opB:BOp->R2d
 |.add=>dX|.sub=>jQ|.mul=>ff|.fdiv=>iY|.mod=>ie|.pow=>ni
noncomputable def opC:COp->R2d
 |.eq=>wEq|.ne=>wNe|.lt=>wLt|.le=>wLe|.gt=>wGt|.ge=>wGe
noncomputable def opF:BF->RAd
 |.len=>fh| .abs=>jS|.max2=>iZ|.min2=>j3|.int=>jT|.list=>m8|.tuple=>fW| .any=>rW| .dict=>mH| .sorts=>jj
noncomputable def opM:MF->D->List D->Mem->QD->Prop
 |.append=>gF|.extend=>gG|.pop=>jl
noncomputable def opI:BOp->R2d
 |.add=>j9|.sub=>ja|.mul=>jb|_=>λ_ _ _ _=>False
theorem oa:∀o,aJ (opB o)
 |.add=>wn|.sub=>wq|.mul=>wt|.fdiv=>tQ|.mod=>wu|.pow=>wv
theorem fw:∀o,aJ (opC o)
 |.eq=>zb|.ne=>zc|.lt=>zf|.le=>zg|.gt=>zh|.ge=>zi
theorem xt:∀o,aU (opF o)
 |.len=>nv| .abs=>ny|.max2=>kU|.min2=>kW|.int=>nA|.list=>kX|.tuple=>j4| .any=>nH| .dict=>lB| .sorts=>jk
theorem xu:∀o,gE (opM o)
 |.append=>i3|.extend=>i4|.pop=>jm
theorem xv:∀o,aJ (opI o)
 |.add=>lh|.sub=>lj|.mul=>ll
 |.fdiv=>λ_ _ _ _ _ _ q=>q.elim|.mod=>λ_ _ _ _ _ _ q=>q.elim|.pow=>λ_ _ _ _ _ _ q=>q.elim
noncomputable abbrev Phi:=Nat->RAd
mutual
noncomputable def bG:MG->BT
 |.name i=>bh i
 |.tup gs=>rJ (bGs gs)
noncomputable def bGs:MGs->BTs
 |.nil=>fX
 |.cons g r=>bX (bG g) (bGs r)
end
mutual
noncomputable def wE(Φ:Phi):ME->TEd
 |.var i=>br i
 |.int i=>wC (.int i)
 |.bl b=>wC (.bl b)
 |.non=>wC .non
 |.str x=>wC (.str x)
 |.bin op a b=>wOp (opB op) (wE Φ a) (wE Φ b)
 |.neg a=>wUn nj (wE Φ a)
 |.cmp op a b=>wOp (opC op) (wE Φ a) (wE Φ b)
 |.and es=>wAnds Φ es
 |.or es=>wOrs Φ es
 |.not a=>mj (wE Φ a)
 |.ite c a b=>wIf (wT Φ c) (wE Φ a) (wE Φ b)
 |.tup es=>wAr ng (wA Φ es)
 |.lst es=>wAr rp (wA Φ es)
 |.ix a b=>wOp wIx (wE Φ a) (wE Φ b)
 |.sl a lo hi=>wSl (wE Φ a) (wO Φ lo) (wO Φ hi)
 |.call f es=>wAr (Φ f) (wA Φ es)
 |.blt f es=>wAr (opF f) (wA Φ es)
 |.lrng a=>m7 (wE Φ a)
 |.glob _ d=>wC d
 |.dnew t=>mC t
 |.dget o k x=>mG (wE Φ o) (wE Φ k) (wE Φ x)
 |.meth m o a=>wBM (opM m) (wE Φ o) (aH (wE Φ a) bD)
 |.comp fr _ c=>wCmp Φ fr c
noncomputable def wA(Φ:Phi):MEs->TAd
 |.nil=>bD
 |.cons e r=>aH (wE Φ e) (wA Φ r)
noncomputable def wAnds(Φ:Phi):MEs->TEd
 |.nil=>λ_ _ _=>False
 |.cons e .nil=>wE Φ e
 |.cons e (.cons f r)=>mf (wE Φ e) (wAnds Φ (.cons f r))
noncomputable def wOrs(Φ:Phi):MEs->TEd
 |.nil=>λ_ _ _=>False
 |.cons e .nil=>wE Φ e
 |.cons e (.cons f r)=>rG (wE Φ e) (wOrs Φ (.cons f r))
noncomputable def wO(Φ:Phi):MO->TOd
 |.none=>gD
 |.some e=>mm (wE Φ e)
noncomputable def wT(Φ:Phi):MT->TTd
 |.tru e=>rE (wE Φ e)
 |.cmp op a b=>jO (wOp (opC op) (wE Φ a) (wE Φ b))
 |.and ts=>wAndTs Φ ts
 |.or ts=>wOrTs Φ ts
 |.not t=>m9 (wT Φ t)
noncomputable def wAndTs(Φ:Phi):MTs->TTd
 |.nil=>λ_ _ _=>False
 |.cons e .nil=>wT Φ e
 |.cons e (.cons f r)=>md (wT Φ e) (wAndTs Φ (.cons f r))
noncomputable def wOrTs(Φ:Phi):MTs->TTd
 |.nil=>λ_ _ _=>False
 |.cons e .nil=>wT Φ e
 |.cons e (.cons f r)=>rF (wT Φ e) (wOrTs Φ (.cons f r))
noncomputable def wTl(Φ:Phi):MTs->List TTd
 |.nil=>[]
 |.cons t r=>wT Φ t::wTl Φ r
noncomputable def wI(Φ:Phi):MI->TId
 |.seq e=>rK (wE Φ e)
 |.rng1 a=>mn (aH (wE Φ a) bD)
 |.rng2 a b=>mq (aH (wE Φ a) (aH (wE Φ b) bD))
 |.zip a b=>jW (wE Φ a) (wE Φ b)
 |.enum a=>mv (wE Φ a)
 |.keys a=>mJ (wE Φ a)
noncomputable def wCl(Φ:Phi):MC->TCd
 |.last src g ifs elt=>dL (wI Φ src) (bG g) (bg (wTl Φ ifs) (bO (wE Φ elt)))
 |.more src g ifs rest=>dL (wI Φ src) (bG g) (bg (wTl Φ ifs) (wCl Φ rest))
noncomputable def wCmp(Φ:Phi)(fr:List (Option Nat)):MC->TEd
 |.last src g ifs elt=>gJ fr (wI Φ src) (bG g) (bg (wTl Φ ifs) (bO (wE Φ elt)))
 |.more src g ifs rest=>gJ fr (wI Φ src) (bG g) (bg (wTl Φ ifs) (wCl Φ rest))
end
mutual
noncomputable def wS(Φ:Phi):MS->TSd
 |.asg g e=>jX (wE Φ e) (bG g)
 |.par i j a b=>rM (aH (wE Φ a) (aH (wE Φ b) bD)) (bX (bh i) (bX (bh j) fX))
 |.put o i e=>rS (wE Φ e) (wE Φ o) (wE Φ i)
 |.aug i op e=>rT i (opI op) (wE Φ e)
 |.drop e=>mz (wE Φ e)
 |.ret e=>rL (wE Φ e)
 |.ite c a b=>sIf (wT Φ c) (wSs Φ a) (wSs Φ b)
 |.for g src b=>rN (wI Φ src) (bG g) (wSs Φ b)
 |.while c b=>j8 (wT Φ c) (wSs Φ b)
 |.frz i s=>nZ i (wS Φ s)
 |.pass=>j6
 |.brk=>j7
 |.cnt=>mw
noncomputable def wSs(Φ:Phi):MSs->TSd
 |.nil=>j6
 |.cons s r=>wQ (wS Φ s) (wSs Φ r)
end
section
variable{Φ:Phi}(hΦ:∀f,aU (Φ f))
include hΦ
mutual
theorem mE:∀m,ae (wE Φ m)
 |.var _=>wk
 |.int _=>fU
 |.bl _=>fU
 |.non=>fU
 |.str _=>fU
 |.bin op a b=>eM (oa op) (mE a) (mE b)
 |.neg a=>yX nk (mE a)
 |.cmp op a b=>eM (fw op) (mE a) (mE b)
 |.and es=>mAnds es
 |.or es=>mOrs es
 |.not a=>tX (mE a)
 |.ite c a b=>zq (mT c) (mE a) (mE b)
 |.tup es=>gB tL (mA es)
 |.lst es=>gB tM (mA es)
 |.ix a b=>eM q0 (mE a) (mE b)
 |.sl a lo hi=>zu (mE a) (mO lo) (mO hi)
 |.call f es=>gB (hΦ f) (mA es)
 |.blt f es=>gB (xt f) (mA es)
 |.lrng a=>tN (mE a)
 |.glob _ _=>fU
 |.dnew _=>uk
 |.dget o k x=>uC (mE o) (mE k) (mE x)
 |.meth m o a=>zw (xu m) (mE o) (aq (mE a) aw)
 |.comp fr _ c=>mCmp fr c
theorem mA:∀m,aY (wA Φ m)
 |.nil=>aw
 |.cons e r=>aq (mE e) (mA r)
theorem mAnds:∀m,ae (wAnds Φ m)
 |.nil=>λ_ _ _ _ _ q=>q.elim
 |.cons e .nil=>mE e
 |.cons e (.cons f r)=>tW (mE e) (mAnds (.cons f r))
theorem mOrs:∀m,ae (wOrs Φ m)
 |.nil=>λ_ _ _ _ _ q=>q.elim
 |.cons e .nil=>mE e
 |.cons e (.cons f r)=>wJ (mE e) (mOrs (.cons f r))
theorem mO:∀m,fq (wO Φ m)
 |.none=>pJ
 |.some e=>tZ (mE e)
theorem mT:∀m,aC (wT Φ m)
 |.tru e=>wG (mE e)
 |.cmp op a b=>wl (eM (fw op) (mE a) (mE b))
 |.and ts=>mAndTs ts
 |.or ts=>mOrTs ts
 |.not t=>tU (mT t)
theorem mAndTs:∀m,aC (wAndTs Φ m)
 |.nil=>λ_ _ _ _ _ q=>q.elim
 |.cons e .nil=>mT e
 |.cons e (.cons f r)=>tV (mT e) (mAndTs (.cons f r))
theorem mOrTs:∀m,aC (wOrTs Φ m)
 |.nil=>λ_ _ _ _ _ q=>q.elim
 |.cons e .nil=>mT e
 |.cons e (.cons f r)=>wH (mT e) (mOrTs (.cons f r))
theorem mTl:∀m,∀t∈wTl Φ m,aC t
 |.nil=>by rw[wTl];intro t j;simp at j
 |.cons t r=>by
  rw[wTl];intro t' j
  rcases Ij.mp j with e|e
  ·rw[e];exact mT t
  ·exact mTl r t' e
theorem mI:∀m,cj (wI Φ m)
 |.seq e=>wN (mE e)
 |.rng1 a=>u5 (aq (mE a) aw)
 |.rng2 a b=>u6 (aq (mE a) (aq (mE b) aw))
 |.zip a b=>wP (mE a) (mE b)
 |.enum a=>u7 (mE a)
 |.keys a=>uG (mE a)
theorem mCl:∀m,ck (wCl Φ m)
 |.last src g ifs elt=>i5 (mI src) (aN (bM (mE elt)) (mTl ifs))
 |.more src g ifs rest=>i5 (mI src) (aN (mCl rest) (mTl ifs))
theorem mCmp(fr:List (Option Nat)):∀m,ae (wCmp Φ fr m)
 |.last src g ifs elt=>kY (mI src) (aN (bM (mE elt)) (mTl ifs))
 |.more src g ifs rest=>kY (mI src) (aN (mCl rest) (mTl ifs))
end
mutual
theorem mS:∀m,aD (wS Φ m)
 |.asg g e=>wV (mE hΦ e)
 |.par i j a b=>wW (aq (mE hΦ a) (aq (mE hΦ b) aw))
 |.put o i e=>xg (mE hΦ e) (mE hΦ o) (mE hΦ i)
 |.aug i op e=>xj (xv op) (mE hΦ e)
 |.drop e=>ua (mE hΦ e)
 |.ret e=>wR (mE hΦ e)
 |.ite c a b=>wU (mT hΦ c) (mSs a) (mSs b)
 |.for g src b=>wX (mI hΦ src) (mSs b)
 |.while c b=>rP (mT hΦ c) (mSs b)
 |.frz i s=>xq (mS s)
 |.pass=>lc
 |.brk=>rO
 |.cnt=>u8
theorem mSs:∀m,aD (wSs Φ m)
 |.nil=>lc
 |.cons s r=>u9 (mS s) (mSs r)
end
end
end
variable{e:Expr}{es:List Expr}{env:Env}
section
structure Ctx where
 Γ:List Str
 N:List Str
 sc:Scope
 fn:List Str
 cs:List (Str×D)
 lm:Nat
 nm:Str
noncomputable def glB(sc:Scope)(x:Str):Bool:=sc.names.lookup x==E .globalImplicit
noncomputable def xw(sc:Scope)(x:Str):Bool:=sc.names.lookup x==E .local || sc.names.lookup x==E .cell || sc.names.lookup x==E .free
noncomputable def sj(sc:Scope)(x:Str):Bool:=sc.names.lookup x==E .local || sc.names.lookup x==E .cell
noncomputable def aW:Expr->Bool
 |.Starred ..=>R9
 |_=>N2
noncomputable def uH:Expr->Bool
 |.Name ..|.Call ..|.Subscript ..|.Constant ..|.BinOp ..|.Attribute ..=>N2
 |_=>R9
noncomputable def ke:Expr->Bool
 |.Slice ..=>R9
 |_=>N2
noncomputable def jn:Expr->Bool
 |.ListComp ..|.SetComp ..|.DictComp ..=>R9
 |_=>N2
noncomputable def mK:Expr->Bool
 |.Set ..=>R9
 |_=>N2
noncomputable def kf:Expr->Bool
 |.Call _ (_::_) _ _=>N2
 |.Call ..=>R9
 |_=>N2
noncomputable def opO:BOp->Mt
 |.add=>.Add|.sub=>.Sub|.mul=>.Mult|.fdiv=>.FloorDiv|.mod=>.Mod|.pow=>.Pow
noncomputable def xx:COp->CmpOp
 |.eq=>.Eq|.ne=>.NotEq|.lt=>.Lt|.le=>.LtE|.gt=>.Gt|.ge=>.GtE
noncomputable def og:BF->Str
 |.len=>"len"| .abs=>"abs"|.max2=>"max"|.min2=>"min"|.int=>"int"|.list=>"list"|.tuple=>"tuple"| .any=>"any"| .dict=>"dict"| .sorts=>"sorted"
noncomputable def BB:MF->Str
 |.append=>"append"|.extend=>"extend"|.pop=>"pop"
noncomputable def bltNames:List Str:=["len","abs","max","min","int","list","tuple","sum","isinstance","range","bool","str","dict","zip","enumerate","reversed","sorted","all","any","set"]
noncomputable def iq(sc osc:Scope):Scope:={sc with names:=sc.names.map λ(n,k)=>if(k==.free&&osc.kind==.function&&osc.names.lookup n==E .cell)then(n,.cell)else(n,k)}
theorem pQ(sc:Scope)(env:Env):relabel sc env=iq sc env.scope:=rfl
noncomputable def xz(sc osc:Scope)(oN N':List Str)(fr:List (Option Nat)):Bool:=
 decide (sc.kind=.function)&&decide ((sc.names.map (·.1)).Nodup)&&decide (N'.Nodup)
  && sc.names.all (λx=>!(x.2==.free) || osc.names.lookup x.1==E .cell || osc.names.lookup x.1==E .free)
  && decide (fr.length=N'.length)
  && (HV N'.length).all λi=>match fr[i]?,N'[i]? with
   |some (E j),E x=>decide (oN[j]?=E x)&&sc.names.any (λy=>decide (y=(x,IT)))
   |_,_=>N2
theorem pk{p:Prop}[d:Decidable p]{t:p->Bool}(h:dite p t (λ_=>R9)=N2):∃c,t c=N2:=by
 cases d with
 |isTrue c=>exact⟨c,h⟩
 |isFalse c=>cases h
noncomputable def eF(e:Expr)(f:Str->Pos->Bool):Bool:=if h:e.ctorIdx=23 then @Se.elim (λ_=>Bool) e h f else R9
@[elab_as_elim]
theorem fy{P:Expr->Prop}(e:Expr){f:Str->Pos->Bool}(h:eF e f=N2)(k:∀a b,f a b=N2->P (.Name a b)):P e:=(pk h).elim λc=>@Se.elim (λe=>∀c,@Se.elim (λ_=>Bool) e c f=N2->P e) e c (λa b _=>k a b) c
noncomputable def cY(e:Expr)(f:Const->Nat->Pos->Bool):Bool:=if h:e.ctorIdx=19 then @Q5.elim (λ_=>Bool) e h f else R9
@[elab_as_elim]
theorem eG{P:Expr->Prop}(e:Expr){f:Const->Nat->Pos->Bool}(h:cY e f=N2)(k:∀a b c,f a b c=N2->P (.Constant a b c)):P e:=(pk h).elim λc=>@Q5.elim (λe=>∀c,@Q5.elim (λ_=>Bool) e c f=N2->P e) e c (λa b c _=>k a b c) c
noncomputable def uI(e:Expr)(f:Expr->Mt->Expr->Pos->Bool):Bool:=if h:e.ctorIdx=2 then @RY.elim (λ_=>Bool) e h f else R9
@[elab_as_elim]
theorem BC{P:Expr->Prop}(e:Expr){f:Expr->Mt->Expr->Pos->Bool}(h:uI e f=N2)(k:∀a b c d,f a b c d=N2->P (.BinOp a b c d)):P e:=(pk h).elim λc=>@RY.elim (λe=>∀c,@RY.elim (λ_=>Bool) e c f=N2->P e) e c (λa b c d _=>k a b c d) c
noncomputable def fA(e:Expr)(f:UnaryOp->Expr->Pos->Bool):Bool:=if h:e.ctorIdx=3 then @QJ.elim (λ_=>Bool) e h f else R9
@[elab_as_elim]
theorem ir{P:Expr->Prop}(e:Expr){f:UnaryOp->Expr->Pos->Bool}(h:fA e f=N2)(k:∀a b c,f a b c=N2->P (.UnaryOp a b c)):P e:=(pk h).elim λc=>@QJ.elim (λe=>∀c,@QJ.elim (λ_=>Bool) e c f=N2->P e) e c (λa b c _=>k a b c) c
noncomputable def iu(e:Expr)(f:Expr->List CmpOp->List Expr->Pos->Bool):Bool:=if h:e.ctorIdx=15 then @QK.elim (λ_=>Bool) e h f else R9
@[elab_as_elim]
theorem oh{P:Expr->Prop}(e:Expr){f:Expr->List CmpOp->List Expr->Pos->Bool}(h:iu e f=N2)(k:∀a b c d,f a b c d=N2->P (.Compare a b c d)):P e:=(pk h).elim λc=>@QK.elim (λe=>∀c,@QK.elim (λ_=>Bool) e c f=N2->P e) e c (λa b c d _=>k a b c d) c
noncomputable def eO(e:Expr)(f:BoolOp->List Expr->Pos->Bool):Bool:=if h:e.ctorIdx=0 then @Rt.elim (λ_=>Bool) e h f else R9
@[elab_as_elim]
theorem gO{P:Expr->Prop}(e:Expr){f:BoolOp->List Expr->Pos->Bool}(h:eO e f=N2)(k:∀a b c,f a b c=N2->P (.BoolOp a b c)):P e:=(pk h).elim λc=>@Rt.elim (λe=>∀c,@Rt.elim (λ_=>Bool) e c f=N2->P e) e c (λa b c _=>k a b c) c
noncomputable def uJ(e:Expr)(f:Expr->Expr->Expr->Pos->Bool):Bool:=if h:e.ctorIdx=5 then @RZ.elim (λ_=>Bool) e h f else R9
@[elab_as_elim]
theorem BD{P:Expr->Prop}(e:Expr){f:Expr->Expr->Expr->Pos->Bool}(h:uJ e f=N2)(k:∀a b c d,f a b c d=N2->P (.IfExp a b c d)):P e:=(pk h).elim λc=>@RZ.elim (λe=>∀c,@RZ.elim (λ_=>Bool) e c f=N2->P e) e c (λa b c d _=>k a b c d) c
noncomputable def dZ(e:Expr)(f:List Expr->Nat->Pos->Bool):Bool:=if h:e.ctorIdx=25 then @S0.elim (λ_=>Bool) e h f else R9
@[elab_as_elim]
theorem eP{P:Expr->Prop}(e:Expr){f:List Expr->Nat->Pos->Bool}(h:dZ e f=N2)(k:∀a b c,f a b c=N2->P (.Tuple a b c)):P e:=(pk h).elim λc=>@S0.elim (λe=>∀c,@S0.elim (λ_=>Bool) e c f=N2->P e) e c (λa b c _=>k a b c) c
noncomputable def yi(e:Expr)(f:List Expr->Pos->Bool):Bool:=if h:e.ctorIdx=24 then @Sf.elim (λ_=>Bool) e h f else R9
@[elab_as_elim]
theorem Di{P:Expr->Prop}(e:Expr){f:List Expr->Pos->Bool}(h:yi e f=N2)(k:∀a b,f a b=N2->P (.List a b)):P e:=(pk h).elim λc=>@Sf.elim (λe=>∀c,@Sf.elim (λ_=>Bool) e c f=N2->P e) e c (λa b _=>k a b) c
noncomputable def dA(e:Expr)(f:Expr->Expr->Pos->Bool):Bool:=if h:e.ctorIdx=21 then @Px.elim (λ_=>Bool) e h f else R9
@[elab_as_elim]
theorem fB{P:Expr->Prop}(e:Expr){f:Expr->Expr->Pos->Bool}(h:dA e f=N2)(k:∀a b c,f a b c=N2->P (.Subscript a b c)):P e:=(pk h).elim λc=>@Px.elim (λe=>∀c,@Px.elim (λ_=>Bool) e c f=N2->P e) e c (λa b c _=>k a b c) c
noncomputable def sk(e:Expr)(f:Expr->List Expr->List OL->Pos->Bool):Bool:=if h:e.ctorIdx=16 then @Sg.elim (λ_=>Bool) e h f else R9
@[elab_as_elim]
theorem yj{P:Expr->Prop}(e:Expr){f:Expr->List Expr->List OL->Pos->Bool}(h:sk e f=N2)(k:∀a b c d,f a b c d=N2->P (.Call a b c d)):P e:=(pk h).elim λc=>@Sg.elim (λe=>∀c,@Sg.elim (λ_=>Bool) e c f=N2->P e) e c (λa b c d _=>k a b c d) c
noncomputable def jo(e:Expr)(f:Expr->Str->Pos->Bool):Bool:=if h:e.ctorIdx=20 then @Py.elim (λ_=>Bool) e h f else R9
@[elab_as_elim]
theorem sn{P:Expr->Prop}(e:Expr){f:Expr->Str->Pos->Bool}(h:jo e f=N2)(k:∀a b c,f a b c=N2->P (.Attribute a b c)):P e:=(pk h).elim λc=>@Py.elim (λe=>∀c,@Py.elim (λ_=>Bool) e c f=N2->P e) e c (λa b c _=>k a b c) c
noncomputable def uK(e:Expr)(f:Option Expr->Option Expr->Option Expr->Pos->Bool):Bool:=if h:e.ctorIdx=26 then @S4.elim (λ_=>Bool) e h f else R9
@[elab_as_elim]
theorem BE{P:Expr->Prop}(e:Expr){f:Option Expr->Option Expr->Option Expr->Pos->Bool}(h:uK e f=N2)(k:∀a b c d,f a b c d=N2->P (.Slice a b c d)):P e:=(pk h).elim λc=>@S4.elim (λe=>∀c,@S4.elim (λ_=>Bool) e c f=N2->P e) e c (λa b c d _=>k a b c d) c
noncomputable def lF(e:Expr)(f:Expr->List Jg->Scope->Pos->Bool):Bool:=if h:e.ctorIdx=8 then @Q6.elim (λ_=>Bool) e h f else R9
@[elab_as_elim]
theorem uL{P:Expr->Prop}(e:Expr){f:Expr->List Jg->Scope->Pos->Bool}(h:lF e f=N2)(k:∀a b c d,f a b c d=N2->P (.ListComp a b c d)):P e:=(pk h).elim λc=>@Q6.elim (λe=>∀c,@Q6.elim (λ_=>Bool) e c f=N2->P e) e c (λa b c d _=>k a b c d) c
noncomputable def yk(e:Expr)(f:List (Option Expr)->List Expr->Pos->Bool):Bool:=if h:e.ctorIdx=6 then @Si.elim (λ_=>Bool) e h f else R9
@[elab_as_elim]
theorem Dj{P:Expr->Prop}(e:Expr){f:List (Option Expr)->List Expr->Pos->Bool}(h:yk e f=N2)(k:∀a b c,f a b c=N2->P (.Dict a b c)):P e:=(pk h).elim λc=>@Si.elim (λe=>∀c,@Si.elim (λ_=>Bool) e c f=N2->P e) e c (λa b c _=>k a b c) c
noncomputable def fC(e:Stmt)(f:List Expr->Expr->Pos->Bool):Bool:=if h:e.ctorIdx=5 then @Ru.elim (λ_=>Bool) e h f else R9
@[elab_as_elim]
theorem iw{P:Stmt->Prop}(e:Stmt){f:List Expr->Expr->Pos->Bool}(h:fC e f=N2)(k:∀a b c,f a b c=N2->P (.Assign a b c)):P e:=(pk h).elim λc=>@Ru.elim (λe=>∀c,@Ru.elim (λ_=>Bool) e c f=N2->P e) e c (λa b c _=>k a b c) c
noncomputable def i7(e:Stmt)(f:Expr->Mt->Expr->Pos->Bool):Bool:=if h:e.ctorIdx=7 then @Pz.elim (λ_=>Bool) e h f else R9
@[elab_as_elim]
theorem pR{P:Stmt->Prop}(e:Stmt){f:Expr->Mt->Expr->Pos->Bool}(h:i7 e f=N2)(k:∀a b c d,f a b c d=N2->P (.AugAssign a b c d)):P e:=(pk h).elim λc=>@Pz.elim (λe=>∀c,@Pz.elim (λ_=>Bool) e c f=N2->P e) e c (λa b c d _=>k a b c d) c
noncomputable def uM(e:Stmt)(f:Expr->Pos->Bool):Bool:=if h:e.ctorIdx=24 then @Sj.elim (λ_=>Bool) e h f else R9
@[elab_as_elim]
theorem BG{P:Stmt->Prop}(e:Stmt){f:Expr->Pos->Bool}(h:uM e f=N2)(k:∀a b,f a b=N2->P (.Expr a b)):P e:=(pk h).elim λc=>@Sj.elim (λe=>∀c,@Sj.elim (λ_=>Bool) e c f=N2->P e) e c (λa b _=>k a b) c
noncomputable def oi(e:Stmt)(f:Option Expr->Pos->Bool):Bool:=if h:e.ctorIdx=3 then @Rw.elim (λ_=>Bool) e h f else R9
@[elab_as_elim]
theorem xA{P:Stmt->Prop}(e:Stmt){f:Option Expr->Pos->Bool}(h:oi e f=N2)(k:∀a b,f a b=N2->P (.Return a b)):P e:=(pk h).elim λc=>@Rw.elim (λe=>∀c,@Rw.elim (λ_=>Bool) e c f=N2->P e) e c (λa b _=>k a b) c
noncomputable def BH(e:Stmt)(f:Expr->List Stmt->List Stmt->Pos->Bool):Bool:=if h:e.ctorIdx=12 then @Stmt.If.elim (λ_=>Bool) e h f else R9
@[elab_as_elim]
theorem Ej{P:Stmt->Prop}(e:Stmt){f:Expr->List Stmt->List Stmt->Pos->Bool}(h:BH e f=N2)(k:∀a b c d,f a b c d=N2->P (.If a b c d)):P e:=(pk h).elim λc=>@Stmt.If.elim (λe=>∀c,@Stmt.If.elim (λ_=>Bool) e c f=N2->P e) e c (λa b c d _=>k a b c d) c
noncomputable def ym(e:Stmt)(f:Expr->Expr->List Stmt->List Stmt->Pos->Bool):Bool:=if h:e.ctorIdx=9 then @Stmt.For.elim (λ_=>Bool) e h f else R9
@[elab_as_elim]
theorem Dl{P:Stmt->Prop}(e:Stmt){f:Expr->Expr->List Stmt->List Stmt->Pos->Bool}(h:ym e f=N2)(k:∀a b c d e,f a b c d e=N2->P (.For a b c d e)):P e:=(pk h).elim λc=>@Stmt.For.elim (λe=>∀c,@Stmt.For.elim (λ_=>Bool) e c f=N2->P e) e c (λa b c d e _=>k a b c d e) c
noncomputable def qj(e:Stmt)(f:Expr->List Stmt->List Stmt->Pos->Bool):Bool:=if h:e.ctorIdx=11 then @S8.elim (λ_=>Bool) e h f else R9
@[elab_as_elim]
theorem zS{P:Stmt->Prop}(e:Stmt){f:Expr->List Stmt->List Stmt->Pos->Bool}(h:qj e f=N2)(k:∀a b c d,f a b c d=N2->P (.While a b c d)):P e:=(pk h).elim λc=>@S8.elim (λe=>∀c,@S8.elim (λ_=>Bool) e c f=N2->P e) e c (λa b c d _=>k a b c d) c
noncomputable def uN(e:Stmt)(f:Pos->Bool):Bool:=if h:e.ctorIdx=25 then @Sk.elim (λ_=>Bool) e h f else R9
@[elab_as_elim]
theorem BI{P:Stmt->Prop}(e:Stmt){f:Pos->Bool}(h:uN e f=N2)(k:∀a,f a=N2->P (.Pass a)):P e:=(pk h).elim λc=>@Sk.elim (λe=>∀c,@Sk.elim (λ_=>Bool) e c f=N2->P e) e c (λa _=>k a) c
noncomputable def qk(e:Stmt)(f:Pos->Bool):Bool:=if h:e.ctorIdx=26 then @S9.elim (λ_=>Bool) e h f else R9
@[elab_as_elim]
theorem zT{P:Stmt->Prop}(e:Stmt){f:Pos->Bool}(h:qk e f=N2)(k:∀a,f a=N2->P (.Break a)):P e:=(pk h).elim λc=>@S9.elim (λe=>∀c,@S9.elim (λ_=>Bool) e c f=N2->P e) e c (λa _=>k a) c
noncomputable def jq(e:Stmt)(f:Pos->Bool):Bool:=if h:e.ctorIdx=27 then @Q7.elim (λ_=>Bool) e h f else R9
@[elab_as_elim]
theorem so{P:Stmt->Prop}(e:Stmt){f:Pos->Bool}(h:jq e f=N2)(k:∀a,f a=N2->P (.Continue a)):P e:=(pk h).elim λc=>@Q7.elim (λe=>∀c,@Q7.elim (λ_=>Bool) e c f=N2->P e) e c (λa _=>k a) c
noncomputable def lv0{α:Type}(xs:List α)(b:Bool):Bool:=xs.isEmpty&&b
noncomputable def lvc{α:Type}(xs:List α)(f:α->List α->Bool):Bool:=match xs with
 |y::r=>f y r
 |[]=>R9
noncomputable def lv1{α:Type}(xs:List α)(f:α->Bool):Bool:=lvc xs λy r=>lv0 r (f y)
noncomputable def lv2{α:Type}(xs:List α)(f:α->α->Bool):Bool:=lvc xs λy r=>lv1 r (f y)
noncomputable def os{α:Type}(o:Option α)(f:α->Bool):Bool:=match o with
 |some x=>f x
 |none=>R9
noncomputable def on{α:Type}(o:Option α)(b:Bool):Bool:=o.isNone&&b
@[elab_as_elim]
theorem iy{α:Type}{P:List α->Prop}(xs:List α){b:Bool}(h:lv0 xs b=N2)(k:b=N2->P []):P xs:=by
 cases xs with
 |nil=>exact k h
 |cons _ _=>cases h
@[elab_as_elim]
theorem BJ{α:Type}{P:List α->Prop}(xs:List α){f:α->List α->Bool}(h:lvc xs f=N2)(k:∀y r,f y r=N2->P (y::r)):P xs:=by
 cases xs with
 |nil=>cases h
 |cons y r=>exact k y r h
@[elab_as_elim]
theorem cO{α:Type}{P:List α->Prop}(xs:List α){f:α->Bool}(h:lv1 xs f=N2)(k:∀y,f y=N2->P [y]):P xs:=BJ xs h λy r h=>iy r h λh=>k y h
@[elab_as_elim]
theorem oj{α:Type}{P:List α->Prop}(xs:List α){f:α->α->Bool}(h:lv2 xs f=N2)(k:∀y z,f y z=N2->P [y,z]):P xs:=BJ xs h λy r h=>cO r h λz h=>k y z h
@[elab_as_elim]
theorem jos{α:Type}{P:Option α->Prop}(o:Option α){f:α->Bool}(h:os o f=N2)(k:∀x,f x=N2->P (E x)):P o:=by
 cases o with
 |none=>cases h
 |some x=>exact k x h
@[elab_as_elim]
theorem jon{α:Type}{P:Option α->Prop}(o:Option α){b:Bool}(h:on o b=N2)(k:b=N2->P Z):P o:=by
 cases o with
 |none=>exact k h
 |some x=>cases h
theorem bY{a b:Bool}(h:(a&&b)=N2):a=N2/\b=N2:=by rwa[D0]at h
noncomputable def cJ(e:Expr)(g:Str->List Expr->Bool):Bool:=sk e λf xs ks _=>lv0 ks (eF f λx _=>g x xs)
@[elab_as_elim]
theorem cZ{P:Expr->Prop}(e:Expr){g:Str->List Expr->Bool}(h:cJ e g=N2)(k:∀x xs p pos,g x xs=N2->P (.Call (.Name x p) xs [] pos)):P e:=yj e h λf xs ks pos h=>iy ks h λh=>fy f h λx p h=>k x xs p pos h
noncomputable def sr(e:Expr)(g:Expr->Str->List Expr->Pos->Pos->Bool):Bool:=sk e λf xs ks p=>lv0 ks (jo f λo n q=>g o n xs q p)
@[elab_as_elim]
theorem yn{P:Expr->Prop}(e:Expr){g:Expr->Str->List Expr->Pos->Pos->Bool}(h:sr e g=N2)(k:∀o n xs q p,g o n xs q p=N2->P (.Call (.Attribute o n q) xs [] p)):P e:=yj e h λf xs ks pos h=>iy ks h λh=>sn f h λo n q h=>k o n xs q pos h
noncomputable def iSl(e:Expr)(g:Expr->Option Expr->Option Expr->Option Expr->Bool):Bool:=dA e λx y _=>uK y λl u s _=>g x l u s
@[elab_as_elim]
theorem jSl{P:Expr->Prop}(e:Expr){g:Expr->Option Expr->Option Expr->Option Expr->Bool}(h:iSl e g=N2)(k:∀x l u s p pos,g x l u s=N2->P (.Subscript x (.Slice l u s p) pos)):P e:=fB e h λx y pos h=>BE y h λl u s p h=>k x l u s p pos h
mutual
noncomputable def okG:MG->Ctx->Expr->Bool
 |.name i,C,e=>eF e λx _=>decide (C.N[i]?=E x)&&sj C.sc x&&(C.sc.names.lookup x==E .local || C.fn.contains x)
 |.tup gs,C,e=>dZ e λes _ _=>okGs gs C es
noncomputable def okGs:MGs->Ctx->List Expr->Bool
 |.nil,_,es=>es.isEmpty
 |.cons g r,C,es=>match es with
  |e::es=>aW e&&okG g C e&&okGs r C es
  |[]=>R9
end
mutual
noncomputable def okE:ME->Ctx->Expr->Bool
 |.var i,C,e=>eF e λx _=>decide (C.N[i]?=E x)&&xw C.sc x && !(x==("__debug__":Str)) && !(x==("__classdict__":Str))
 |.int i,_,e=>cY e λc _ _=>decide (c=.int i)
 |.bl i,_,e=>cY e λc _ _=>decide (c=.bool i)
 |.non,_,e=>cY e λc _ _=>decide (c=.none)
 |.str i,_,e=>cY e λc _ _=>decide (c=.str i)
 |.bin op a b,C,e=>uI e λl o r _=>decide (o=opO op)&&okE a C l&&okE b C r
 |.neg a,C,e=>fA e λo x _=>decide (o=.USub)&&okE a C x
 |.cmp op a b,C,e=>iu e λl os rs _=>lv1 os λo=>lv1 rs λr=>decide (o=xx op)&&okE a C l&&okE b C r && !(Mc o r)
 |.and es,C,e=>eO e λo xs _=>decide (o=.And) && !xs.isEmpty&&okEs es C xs
 |.or es,C,e=>eO e λo xs _=>decide (o=.Or) && !xs.isEmpty&&okEs es C xs
 |.not a,C,e=>fA e λo x _=>decide (o=.Not)&&okE a C x
 |.ite c a b,C,e=>uJ e λt x y _=>okT c C t&&okE a C x&&okE b C y
 |.tup es,C,e=>dZ e λxs _ _=>okEs es C xs
 |.lst es,C,e=>yi e λxs _=>okEs es C xs
 |.ix a b,C,e=>dA e λx y _=>ke y&&okE a C x&&okE b C y
 |.sl a lo hi,C,e=>iSl e λx l u s=>on s (okE a C x&&okO lo C l&&okO hi C u)
 |.call f es,C,e=>cJ e λx xs=>decide (C.Γ[f]?=E x)&&glB C.sc x && !(x==("__debug__":Str))&&okEs es C xs
 |.blt f es,C,e=>cJ e λx xs=>decide (x=og f)&&glB C.sc x && !xs.isEmpty&&okEs es C xs
 |.glob x k,C,e=>eF e λy _=>decide (y=x)&&glB C.sc y&&decide ((x,k)∈C.cs) && !(x==("__debug__":Str))
 |.dnew _,_,e=>yk e λks vs _=>lv0 ks (lv0 vs N2)
 |.dget o k x,C,e=>sr e λy n xs ap cp=>lv2 xs λe1 e2=>decide (n="get")&&kf y&&(ap.endLine==cp.line)&&aW e1&&aW e2&&okE o C y&&okE k C e1&&okE x C e2
 |.lrng a,C,e=>cJ e λx xs=>lv1 xs λw=>cJ w λz ys=>lv1 ys λy=>decide (x="list")&&glB C.sc x&&decide (z="range")&&glB C.sc z&&aW y&&okE a C y
 |.meth m o a,C,e=>sr e λx n xs ap cp=>lv1 xs λy=>decide (n=BB m)&&kf x&&(ap.endLine==cp.line)&&aW y&&okE o C x&&okE a C y
 |.comp fr N' c,C,e=>lF e λelt gens sc _=>xz sc C.sc C.N N' fr&&okC c C ⟨C.Γ,N',iq sc C.sc,(sc.names.filter (·.2==.cell)).map (·.1),C.cs,0,C.nm⟩ gens elt
noncomputable def okEs:MEs->Ctx->List Expr->Bool
 |.nil,_,es=>es.isEmpty
 |.cons m r,C,es=>match es with
  |e::es=>aW e&&okE m C e&&okEs r C es
  |[]=>R9
noncomputable def okO:MO->Ctx->Option Expr->Bool
 |.none,_,e=>e.isNone
 |.some m,C,e=>match e with
  |some e=>okE m C e
  |none=>R9
noncomputable def okT:MT->Ctx->Expr->Bool
 |.tru m,C,e=>uH e&&okE m C e
 |.cmp op a b,C,e=>iu e λl os rs _=>lv1 os λo=>lv1 rs λr=>decide (o=xx op)&&okE a C l&&okE b C r && !(Mc o r)
 |.and ts,C,e=>eO e λo xs _=>decide (o=.And) && !xs.isEmpty&&okTs ts C xs
 |.or ts,C,e=>eO e λo xs _=>decide (o=.Or) && !xs.isEmpty&&okTs ts C xs
 |.not t,C,e=>fA e λo x _=>decide (o=.Not)&&okT t C x
noncomputable def okTs:MTs->Ctx->List Expr->Bool
 |.nil,_,es=>es.isEmpty
 |.cons m r,C,es=>match es with
  |e::es=>okT m C e&&okTs r C es
  |[]=>R9
noncomputable def okI:MI->Ctx->Expr->Expr->Bool
 |.seq m,C,_,e=>mK e&&okE m C e
 |.keys m,C,_,e=>mK e&&okE m C e
 |.rng1 a,C,_,e=>cJ e λx xs=>lv1 xs λy=>decide (x="range")&&glB C.sc x&&aW y&&okE a C y
 |.rng2 a b,C,_,e=>cJ e λx xs=>lv2 xs λy z=>decide (x="range")&&glB C.sc x&&aW y&&aW z&&okE a C y&&okE b C z
 |.enum a,C,t,e=>cJ e λx xs=>lv1 xs λy=>dZ t λ_ _ _=>decide (x="enumerate")&&glB C.sc x&&aW y&&okE a C y
 |.zip a b,C,t,e=>cJ e λx xs=>lv2 xs λy z=>dZ t λ_ _ _=>decide (x="zip")&&glB C.sc x&&aW y&&aW z&&okE a C y&&okE b C z
noncomputable def okC:MC->Ctx->Ctx->List Jg->Expr->Bool
 |.last src g ifs m,Cs,C,gens,elt=>match gens with
  |[⟨t,it,fs,a⟩]=>decide (a=0)&&okI src Cs t it&&okG g C t&&okTs ifs C fs&&okE m C elt
  |_=>R9
 |.more src g ifs rest,Cs,C,gens,elt=>match gens with
  |⟨t,it,fs,a⟩::g2::gs=>decide (a=0)&&okI src Cs t it&&okG g C t&&okTs ifs C fs&&okC rest C C (g2::gs) elt
  |_=>R9
end
noncomputable def ba(sc:Scope)(ts:List Expr):List Str:=ts.filterMap fun
 |.Name id pos=>if sc.names.lookup id==E .local&&pos.line==(ts.head?.map (·.pos.line)).getD 0 then E id else Z
 |_=>Z
noncomputable def su(sc:Scope)(ts vs:List Expr):Bool:=!(ts.length==2 || ts.length==3) || vs.length != ts.length || (ba sc ts).length != ts.length || (ba sc ts).eraseDups.length != (ba sc ts).length || vs.all (Q8 8)
noncomputable def sv(C:Ctx)(i:Nat)(x:Str):Bool:=decide (C.N[i]?=E x)&&decide (C.sc.names.lookup x=E .local)
noncomputable def sx(sc:Scope)(ts vs:List Expr)(ns:List Str):Bool:=!(!(ts.length==2 || ts.length==3) || vs.length != ts.length) && !(vs.any λ| .Starred ..=>N2|_=>R9)&&decide (ba sc ts=ns) && !((ba sc ts).length != ts.length || (ba sc ts).eraseDups.length != (ba sc ts).length) && !(vs.all (Q8 8)) && !(vs.all (constantsAlone 8))
noncomputable def yo(sc:Scope)(tg e:Expr):Bool:=match tg,e with
 |.Tuple ts _ _,.Tuple vs _ _=>su sc ts vs
 |.Tuple ..,_=>N2
 |.Name ..,_=>N2
 |_,_=>R9
noncomputable def BK(sc:Scope)(x:Str)(px:Pos)(e:Expr):Bool:=match e with
 |.DictComp _ _ _ s _=>!(sc.names.lookup x==E .local&&px.line==e.pos.line && !(s.names.any λ(n,k)=>n==x&&(k==.local || k==.cell)))
 |_=>N2
noncomputable def sy(sc:Scope)(x:Str)(px:Pos)(e:Expr):Bool:=match e with
 |.ListComp _ _ s _=>sc.names.lookup x==E .local&&px.line==e.pos.line && !(s.names.any λ(n,k)=>n==x&&(k==.local || k==.cell))
 |_=>R9
mutual
noncomputable def okS:MS->Ctx->Stmt->Bool
 |.asg g m,C,s=>fC s λts e _=>lv1 ts λtg=>okG g C tg&&okE m C e&&yo C.sc tg e&&(match tg with|.Name x px=>BK C.sc x px e|_=>jn e)
 |.par i j a b,C,s=>fC s λts e _=>lv1 ts λtg=>dZ tg λts _ _=>dZ e λes _ _=>lv2 ts λt u=>lv2 es λe f=>eF t λx px=>eF u λy py=>sv C i x&&sv C j y&&decide (i≠j)&&aW e&&aW f&&okE a C e&&okE b C f&&sx C.sc [.Name x px,.Name y py] [e,f] [x,y]
 |.put o i m,C,s=>fC s λts e _=>lv1 ts λtg=>dA tg λx y _=>ke y&&jn e&&okE o C x&&okE i C y&&okE m C e
 |.aug i op m,C,s=>i7 s λt o e _=>eF t λx _=>decide (o=opO op)&&(match op with|.add|.sub|.mul=>N2|_=>R9)&&decide (C.N[i]?=E x)&&sj C.sc x&&(C.sc.names.lookup x==E .local || C.fn.contains x)&&okE m C e
 |.drop m,C,s=>uM s λe _=>jn e&&okE m C e
 |.ret m,C,s=>oi s λo _=>os o λe=>okE m C e
 |.ite c a b,C,s=>BH s λt x y _=>okT c C t&&okSs a C x&&okSs b C y
 |.for g src b,C,s=>ym s λtg it body els _=>lv0 els (mK it&&okG g C tg&&okI src C tg it&&okSs b C body)
 |.while c b,C,s=>qj s λt body els _=>lv0 els (okT c C t&&okSs b C body)
 |.frz _ m,C,s=>okS m C s
 |.pass,_,s=>uN s λ_=>N2
 |.brk,_,s=>qk s λ_=>N2
 |.cnt,_,s=>jq s λ_=>N2
noncomputable def okSs:MSs->Ctx->List Stmt->Bool
 |.nil,_,ss=>ss.isEmpty
 |.cons m r,C,ss=>match ss with
  |s::ss=>okS m C s&&okSs r C ss
  |[]=>R9
end
theorem ak(h:aW e=N2):IG (e::es) env=(R9,eval e env)::IG es env:=by cases e<;>first|rfl|(cases h;done)
theorem lH(h:aW e=N2):Kg (e::es) env=(R9,assign e env)::Kg es env:=by cases e<;>first|rfl|(cases h;done)
theorem sB(h:uH e=N2):∀whole,isTrue e env whole=(do let v <-whole;O0 e.pos;holding [v] (truthy v)):=by
 intro w
 cases e<;>first|rfl|(cases h;done)
theorem xB(h:ke e=N2):jJ e:=by
 intro o i
 cases e<;>first|rfl|(cases h;done)
theorem om(h:mK e=N2):∀x,Ks e env x=pure x:=by
 intro x
 cases e<;>first|rfl|(cases h;done)
theorem fD{n:Str}(h:kf e=N2):Q2 e n env (eval e env)=eval e env:=by
 cases e<;>first
  |rfl
  | (rename_i f xs _ _;cases xs with
     |nil=>cases h
     |cons _ _=>cases f<;>rfl)
theorem kg{t:Option Expr}{l:Nat}(h:jn e=N2):Mm e t l env=pure R9:=by cases e<;>first|rfl|(cases h;done)
end
variable{f:Nat}{x:Str}{pos:Pos}{sc:Scope}
section
noncomputable def lSp(K:Frag)(r:RAd):Sp:=λvs H Q _=>lR K r vs H Q
noncomputable def Dm(Φ:Phi)(j:Nat)(gs:List D)(js:List Nat):RAd:=λargs M Q=>args.length=2/\Φ (4000+j) (js.map λi=>(gs++args).getD i .non) M Q
noncomputable def spC(P:Iy)(w:IY)(K:Frag)(mg:Str->Option q7)(base:Heap)(k:Nat)(Φ:Phi)(i:Nat):List Env->D1->Sp:=λouter s vs H Q _=>∃(ds:List D) (a:SS) (j:Nat) (gs:List D) (js:List Nat) (M:Mem),RM K M H/\RDs K H (ds++[.ref a]) vs/\CP P w K mg base (k-1) (frs outer) a (lSp K (Dm Φ j gs js)) H s.heap/\Φ (1000+i) (ds++[.ref a,.int j,.tup gs,.tup (js.map λi:Nat=>.int i)]) M (KE' K M H Q)
def BL(X:Cx)(a:SS)(r:RAd):Prop:=∀(pins:List (SS×Obj)) (s:D1) (σ:St) (H:Hp) (vs:List V) (us:List q7) (Q:VK),Inv X pins σ H s->Vals vs us->lR X.K r vs H Q->
 PySem.W.FnAt a s.heap/\Ik (model X.prog X.w) X.A (call (.ref a) us) (EP X pins σ Q) X.xe s
structure BM(C:Ctx)(Φ:Phi)(k:Nat)(X:Cx)(P:SS):Prop where
 cd:∃c,X.env.code=.ref c/\PySem.W.CodeHd X.base c P
 bm:Ee X.mg X.base
 qu:X.env.qual=C.nm++(".<locals>.":Str)
 spc:∀(i:Nat) (x:Str),C.Γ[i]?=E x->∃f fd ps,X.mg x=E (.ref f)/\KO X.K (.ref f)=N2/\Binds X.K fd ps []/\CQ X.prog X.w X.K X.mg X.base k f fd ps (spC X.prog X.w X.K X.mg X.base k Φ i)
 low:∀(j:Nat) (x:Str),C.Γ[j]?=E x->∃f fd ps,X.mg x=E (.ref f)/\KO X.K (.ref f)=N2/\Binds X.K fd ps []/\dh X.prog X.w X.K X.mg X.base CX0 (k-2) f fd ps (lSp X.K (Φ (4000+j)))
 big:(∃k0,k=k0+2)∨∀(j:Nat) (x:Str),C.Γ[j]?=E x->∀ds M Q,¬Φ (4000+j) ds M Q
structure Good(C:Ctx)(Φ:Phi)(k:Nat)(X:Cx):Prop where
 hx:∀e s,X.xe e s->False
 calm:X.calm=N2
 N:X.N=C.N
 sc:X.env.scope=C.sc
 nd:X.N.Nodup
 fn:∀x∈C.fn,X.fn x=N2
 room:Room k X.A
 mgB:∀x∈bltNames,X.mg x=Z
 fns:∀(i:Nat) (x:Str),C.Γ[i]?=E x->∃f fd ps,X.mg x=E (.ref f)/\MA X.K Jv x=E (E (.ref f))/\KO X.K (.ref f)=N2/\Binds X.K fd ps []/\dh X.prog X.w X.K X.mg X.base CX0 k f fd ps (lSp X.K (Φ i))
 mono:∀f,aU (Φ f)
 cs:∀x d,(x,d)∈C.cs->∃u,X.mg x=E u/\GV X.K d u
 clo:C.lm=1->∀a,BL X a (Φ (5000+a))
 lam:∀P,C.lm=P+2->BM C Φ k X P
section
variable{C:Ctx}{Φ:Phi}{k:Nat}{X:Cx}
theorem Good.units(G:Good C Φ k X):X.A.units+64<Lk:=G.room.units
theorem Good.gl(G:Good C Φ k X)(h:glB C.sc x=N2):Gl X x:=by show X.env.scope.names.lookup x=_;rw[G.sc];simpa[glB]using h
theorem Good.vis(G:Good C Φ k X)(h:xw C.sc x=N2):Vis X.env.scope x:=by
 unfold Vis;rw[G.sc];simp[xw]at h
 rcases h with(h|h)|h
 ·exact .inl h
 ·exact .inr (.inl h)
 ·exact .inr (.inr h)
theorem Good.loc(G:Good C Φ k X)(h:sj C.sc x=N2):Loc X.env.scope x:=by unfold Loc;rw[G.sc];simpa[sj]using h
theorem Good.own(G:Good C Φ k X)(h:(C.sc.names.lookup x==E .local || C.fn.contains x)=N2):X.fn x=N2∨X.env.scope.names.lookup x=E .local:=by
 rw[G.sc];simp at h
 rcases h with h|h
 ·exact .inr h
 ·exact .inl (G.fn x h)
theorem BN(G:Good C Φ k X):∀o:BOp,OpR X (JT (opO o)) (l2 X.K (opB o))
 |.add=>ww|.sub=>wx|.mul=>wy|.fdiv=>tR|.mod=>wB|.pow=>wD
theorem ql(G:Good C Φ k X):∀o:COp,OpR X (Ku (xx o)) (l2 X.K (opC o))
 |.eq=>zd (by have:=G.units;lia)|.ne=>ze (by have:=G.units;lia)|.lt=>zj|.le=>zk|.gt=>zm|.ge=>zn
theorem BO(G:Good C Φ k X){f:BF}{t:TAd}{p:Pos}(mt:aY t)(z:Gl X (og f))(B:PA X (e::es) (lA X.K t))(he:IG (e::es) X.env=(R9,eval e X.env)::IG es X.env)(j:(Ms pos (IG es X.env)).any (·.1)=R9):PE X (.Call (.Name (og f) p) (e::es) [] pos) (lE X.K (wAr (opF f) t)):=by
 cases f with
 |len=>exact PE.imp (cN rq z (G.mgB _ (by decide)) PySem.boot_len B (by decide) (by decide) he j) (bI nv mt)
 |abs=>exact PE.imp (cN rA z (G.mgB _ (by decide)) (by decide +kernel) B (by decide) (by decide) he j) (bI ny mt)
 |max2=>exact PE.imp (cN (pG G.calm) z (G.mgB _ (by decide)) (by decide +kernel) B (by decide) (by decide) he j) (bI kU mt)
 |min2=>exact PE.imp (cN (pH G.calm) z (G.mgB _ (by decide)) (by decide +kernel) B (by decide) (by decide) he j) (bI kW mt)
 |int=>exact PE.imp (eB rB z (G.mgB _ (by decide)) (by decide +kernel) B (by decide) (by decide) he j) (bI nA mt)
 |list=>exact PE.imp (eB pI z (G.mgB _ (by decide)) (by decide +kernel) B (by decide) (by decide) he j) (bI kX mt)
 |tuple=>exact PE.imp (eB nB z (G.mgB _ (by decide)) (by decide +kernel) B (by decide) (by decide) he j) (bI j4 mt)
 |any=>exact PE.imp (cN (rX G.calm) z (G.mgB _ (by decide)) (by decide +kernel) B (by decide) (by decide) he j) (bI nH mt)
 |dict=>exact PE.imp (eB (pP (by have:=G.units;lia) G.calm) z (G.mgB _ (by decide)) (by decide +kernel) B (by decide) (by decide) he j) (bI lB mt)
 |sorts=>exact PE.imp (cN (nY (by have:=G.units;lia) G.calm) z (G.mgB _ (by decide)) (by decide +kernel) B (by decide) (by decide) he j) (bI jk mt)
theorem zU(G:Good C Φ k X){t:TAd}{p:Pos}(mt:aY t)(hf:C.Γ[f]?=E x)(B:Gl X x)(j:(x==("__debug__":Str))=R9)(J:PA X (e::es) (lA X.K t))(he:IG (e::es) X.env=(R9,eval e X.env)::IG es X.env)(z:(Ms pos (IG es X.env)).any (·.1)=R9):PE X (.Call (.Name x p) (e::es) [] pos) (lE X.K (wAr (Φ f) t)):=by
 obtain⟨a,fd,ps,hm,_,L,O,F⟩:=G.fns f x hf;refine PE.imp (yQ F G.room B hm L O .nil y8 J j he z) λσ H Q h=>?_;have h2:=bI (G.mono f) mt σ H Q h;have:(λvs H1=>lSp X.K (Φ f) (vs++[]) H1 Q E0)=λvs H1=>lR X.K (Φ f) vs H1 Q:=by funext vs H1;rw[Jt];rfl
 show(lA X.K t) σ H _;rw[this];exact h2
theorem xC(G:Good C Φ k X){p:Pos}(hf:C.Γ[f]?=E x)(z:Gl X x)(j:(x==("__debug__":Str))=R9):PE X (.Call (.Name x p) [] [] pos) (lE X.K (wAr (Φ f) bD)):=by obtain⟨a,fd,ps,hm,_,B,J,F⟩:=G.fns f x hf;refine PE.imp (vY F G.room z hm B J .nil y8 j) λσ H Q h=>?_;obtain⟨ρ,M,rs,rm,q⟩:=h;exact⟨[],M,rm,RDs.nil,q⟩
theorem iz{env:Env}{pos:Pos}:∀{es:List Expr},es.all aW=N2->(Ms pos (IG es env)).any (·.1)=R9
 |[],_=>rfl
 |e::es,h=>by
  simp only[N7,D0]at h;rw[ak h.1];show(R9 || (Ms pos (IG es env)).any (·.1))=R9
  rw[iz h.2];rfl
theorem gk:∀{ms:MEs} {es:List Expr},okEs ms C es=N2->es.all aW=N2
 |.nil,[],_=>rfl
 |.nil,_::_,h=>by simp[okEs]at h
 |.cons m r,[],h=>by simp[okEs]at h
 |.cons m r,e::es,h=>by simp only[okEs,D0]at h;simp only[N7,D0];exact⟨h.1.1,gk h.2⟩
theorem qm:∀{gs:MGs} {es:List Expr},okGs gs C es=N2->∀ds ρ ρ',bGs gs ds ρ=E ρ'->ds.length=es.length
 |.nil,es,h,ds,ρ,ρ',e=>by
  simp[okGs]at h;subst h;rw[bGs]at e
  cases ds with
  |nil=>rfl
  |cons _ _=>cases e
 |.cons g r,[],h,_,_,_,_=>by simp[okGs]at h
 |.cons g r,x::es,h,ds,ρ,ρ',e=>by
  simp only[okGs,D0]at h;rw[bGs]at e
  cases ds with
  |nil=>cases e
  |cons d ds=>
   simp only[bX]at e
   cases e1:bG g d ρ with
   |none=>rw[e1]at e;cases e
   |some ρ1=>rw[e1]at e;simp[qm h.2 ds ρ1 ρ' e]
theorem ot{env:Env}:∀{gs:MGs} {es:List Expr},okGs gs C es=N2->(Kg es env).length=es.length/\(Kg es env).findIdx? (·.1)=Z
 |.nil,es,h=>by simp[okGs]at h;subst h;exact⟨rfl,rfl⟩
 |.cons g r,[],h=>by simp[okGs]at h
 |.cons g r,x::es,h=>by
  simp only[okGs,D0]at h;obtain⟨a,b⟩:=ot (env:=env) h.2;rw[lH h.1.1];refine⟨by simp[a],?_⟩
  rw[List.findIdx?_cons];simp[b]
mutual
theorem sG(G:Good C Φ k X):∀(m:MG) (e:Expr),okG m C e=N2->PG X e (lG X.K (bG m))
 |.name i,e,h=>by refine fy e h λx _ h=>?_;simp only[D0]at h;exact zx G.nd (by rw[G.N];exact of_decide_eq_true h.1.1) (G.loc h.1.2) (G.own h.2)
 |.tup gs,e,h=>by refine eP e h λes _ _ h=>?_;rw[bG];obtain⟨a,b⟩:=ot (env:=X.env) h;exact Bo G.calm (qm h) (sGs G gs _ h) a b
theorem sGs(G:Good C Φ k X):∀(m:MGs) (es:List Expr),okGs m C es=N2->PGs X es (lGs X.K (bGs m))
 |.nil,es,h=>by simp[okGs]at h;subst h;exact zy
 |.cons g r,[],h=>by simp[okGs]at h
 |.cons g r,e::es,h=>by simp only[okGs,D0]at h;exact wM (sG G g e h.1.2) (sGs G r es h.2) (by rw[lH h.1.1];rfl)
end
theorem PB.imp{F:Sem Fin->Sem Fin}{t t':TC}(h:PB X F t)(i:∀σ H N,t' σ H N->t σ H N):PB X F t':=λpins s σ H N k Q fv I q hk=>h pins s σ H N k Q fv I (i _ _ _ q) hk
theorem jr{osc:Scope}{oN N':List Str}{fr:List (Option Nat)}(h:xz sc osc oN N' fr=N2):be sc osc oN N' fr:=by
 simp only[xz,D0,decide_eq_true_eq]at h;obtain⟨⟨⟨⟨⟨h1,h2⟩,J⟩,L⟩,O⟩,U⟩:=h;refine⟨h1,h2,J,λx hx e=>?_,O,λi j x hi hf=>?_⟩
 ·have B:=N6.mp L x hx;rw[e]at B;simpa using B
 ·have F:i<N'.length:=(HU.mp hi).1;have z:=N6.mp U i (Io.mpr F);rw[hf,hi]at z;simp only[D0,decide_eq_true_eq,LY]at z;obtain⟨a,y,Y,e⟩:=z;exact⟨a,by rw[<-e];exact Y⟩
theorem Good.blk(G:Good C Φ k X){N':List Str}{fr:List (Option Nat)}(B:be sc C.sc C.N N' fr)(s:D1)(H:Hp)(fp:List SS):
 Good ⟨C.Γ,N',iq sc C.sc,(sc.names.filter (·.2==.cell)).map (·.1),C.cs,0,C.nm⟩ Φ k (aG X sc N' s H fp):=by
 refine⟨λ_ _ h=>h,G.calm,rfl,?_,B.ndN,λx hx=>?_,G.room,G.mgB,G.fns,G.mono,G.cs,λz=>(by cases z),λ_ z=>(by cases z)⟩
 ·show relabel sc X.env=_;rw[pQ,G.sc]
 ·obtain⟨y,F,e⟩:=HQ.mp hx;obtain⟨h1,h2⟩:=Iq.mp F;obtain⟨n,kd⟩:=y;have j:kd=.cell:=by simpa using h2
  subst j;have e':n=x:=e;subst e';show(sc.names.lookup n==E .cell)=N2;rw[aS B.nd h1];rfl
end
end
variable{C:Ctx}{tb:TCd}
section
section
variable{Φ:Phi}{k:Nat}
theorem dN{X:Cx}(G:Good C Φ k X){F:Sem Fin->Sem Fin}{p:SS}{ifs:List Expr}{ts:List TTd}(mb:ck tb)(mt:∀t∈ts,aC t)(j:PB X F (lC X.K p tb))(z:IZ (λc t=>PT X c t) ifs (ts.map (lT X.K))):
 PB X (λk=>bq ifs X.env>>=λok=>if ok=N2 then F k else k) (lC X.K p (bg ts tb)):=
 PB.imp (wf G.hx j z) (j5 mb mt)
theorem gm{m:MC}{Cs:Ctx}{g2:Jg}{gs:List Jg}{elt:Expr}(h:okC m Cs C (g2::gs) elt=N2):g2.is_async=0:=by
 obtain⟨t,i,f,a⟩:=g2
 cases m with
 |last src g ifs m=>
  cases gs with
  |nil=>simp only[okC,D0,decide_eq_true_eq]at h;exact h.1.1.1.1
  |cons _ _=>simp[okC]at h
 |more src g ifs rest=>
  cases gs with
  |nil=>simp[okC]at h
  |cons _ _=>simp only[okC,D0,decide_eq_true_eq]at h;exact h.1.1.1.1
mutual
theorem sE:∀(m:ME) {C:Ctx} {X:Cx} (G:Good C Φ k X) (e:Expr),okE m C e=N2->PE X e (lE X.K (wE Φ m))
 |.var i,C,X,G,e,h=>by refine fy e h λx _ h=>?_;simp only[D0,JE,decide_eq_true_eq]at h;exact B9 (by rw[G.N];exact h.1.1.1) (G.vis h.1.1.2) h.1.2 h.2
 |.int i,C,X,G,e,h=>by refine eG e h λc _ _ h=>?_;rw[of_decide_eq_true h];exact le_int
 |.bl i,C,X,G,e,h=>by refine eG e h λc _ _ h=>?_;rw[of_decide_eq_true h];exact CY
 |.non,C,X,G,e,h=>by refine eG e h λc _ _ h=>?_;rw[of_decide_eq_true h];exact Ba
 |.str i,C,X,G,e,h=>by refine eG e h λc _ _ h=>?_;rw[of_decide_eq_true h];exact Bb
 |.bin op a b,C,X,G,e,h=>by refine BC e h λl o r _ h=>?_;simp only[D0,decide_eq_true_eq]at h;rw[h.1.1];exact CZ (BN G op) (oa op) (mE G.mono a) (mE G.mono b) (sE a G _ h.1.2) (sE b G _ h.2)
 |.neg a,C,X,G,e,h=>by
  refine ir e h λo x _ h=>?_;replace h:=bY h;obtain⟨ho,h⟩:=h
  cases of_decide_eq_true ho
  exact D3 wF nk (mE G.mono a) (sE a G _ h)
 |.cmp op a b,C,X,G,e,h=>by refine oh e h λl os rs pos h=>?_;refine cO os h λo h=>?_;refine cO rs h λr h=>?_;simp only[D0,decide_eq_true_eq]at h;obtain⟨⟨⟨ho,U⟩,hb⟩,hm⟩:=h;rw[JE]at hm;subst ho;exact Bc (ql G op) (fw op) (mE G.mono a) (mE G.mono b) (sE a G _ U) (sE b G _ hb) hm
 |.and es,C,X,G,e,h=>by
  refine gO e h λo xs _ h=>?_;replace h:=bY h;obtain⟨ho,h⟩:=h;obtain⟨ho,j⟩:=bY ho
  cases of_decide_eq_true ho
  exact sAnds es G _ _ h (by intro z;rw[z]at j;cases j)
 |.or es,C,X,G,e,h=>by
  refine gO e h λo xs _ h=>?_;replace h:=bY h;obtain⟨ho,h⟩:=h;obtain⟨ho,j⟩:=bY ho
  cases of_decide_eq_true ho
  exact sOrs es G _ _ h (by intro z;rw[z]at j;cases j)
 |.not a,C,X,G,e,h=>by
  refine ir e h λo x _ h=>?_;replace h:=bY h;obtain⟨ho,h⟩:=h
  cases of_decide_eq_true ho
  exact Bn (mE G.mono a) (sE a G _ h)
 |.ite c a b,C,X,G,e,h=>by refine BD e h λt x y _ h=>?_;simp only[D0]at h;exact D9 (mT G.mono c) (mE G.mono a) (mE G.mono b) (sT c G _ h.1.1) (sE a G _ h.1.2) (sE b G _ h.2)
 |.tup es,C,X,G,e,h=>by refine eP e h λxs _ _ h=>?_;exact Bf (mA G.mono es) (sA es G _ h)
 |.lst es,C,X,G,e,h=>by refine Di e h λxs _ h=>?_;exact Bg (mA G.mono es) (sA es G _ h)
 |.ix a b,C,X,G,e,h=>by refine fB e h λx y _ h=>?_;simp only[D0]at h;exact D4 (Eg (by have:=G.units;lia)) q0 (mE G.mono a) (mE G.mono b) (sE a G _ h.1.2) (sE b G _ h.2) (xB h.1.1)
 |.sl a lo hi,C,X,G,e,h=>by refine jSl e h λx l u s p pos h=>?_;refine jon s h fun  h=>?_;simp only[D0]at h;exact Da (mE G.mono a) (mO G.mono lo) (mO G.mono hi) (sE a G _ h.1.1) (sO lo G _ h.1.2) (sO hi G _ h.2)
 |.call f es,C,X,G,e,h=>by
  refine cZ e h λx xs p pos h=>?_;simp only[D0,decide_eq_true_eq,JE]at h;have hA:=sA es G _ h.2;have J:=gk h.2
  cases xs with
  |nil=>
   cases es with
   |nil=>exact xC G h.1.1.1 (G.gl h.1.1.2) h.1.2
   |cons _ _=>simp[okEs]at h
  |cons y ys=>simp only[N7,D0]at J;exact zU G (mA G.mono es) h.1.1.1 (G.gl h.1.1.2) h.1.2 hA (ak J.1) (iz J.2)
 |.blt f es,C,X,G,e,h=>by
  refine cZ e h λx xs p pos h=>?_;simp only[D0,decide_eq_true_eq,JE]at h;have hA:=sA es G _ h.2;have J:=gk h.2;obtain⟨⟨⟨rfl,O⟩,j⟩,_⟩:=h
  cases xs with
  |nil=>simp at j
  |cons y ys=>simp only[N7,D0]at J;exact BO G (mA G.mono es) (G.gl O) hA (ak J.1) (iz J.2)
 |.glob x k',C,X,G,e,h=>by refine fy e h λx _ h=>?_;simp only[D0,decide_eq_true_eq,JE]at h;obtain⟨⟨⟨rfl,O⟩,hc⟩,hd⟩:=h;obtain⟨u,Y,hv⟩:=G.cs _ _ hc;obtain⟨v,rv,rd⟩:=yh hv;exact PE.imp (yF (v:=v) (G.gl O) Y rv hd) λσ H Q g9=>(by obtain⟨ρ,M,rs,rm,q⟩:=g9;exact q _ H Ext.refl rm (rd H))
 |.dnew t,C,X,G,e,h=>by refine Dj e h λks vs _ h=>?_;refine iy ks h fun  h=>?_;refine iy vs h fun  h=>?_;exact zE
 |.dget o k' x,C,X,G,e,h=>by
  refine yn e h λy n xs ap cp h=>?_;refine oj xs h λe1 e2 h=>?_;simp only[D0,decide_eq_true_eq]at h;obtain⟨⟨⟨⟨⟨⟨⟨rfl,L⟩,F2⟩,Gp⟩,Gq⟩,ho⟩,hk⟩,hx⟩:=h;have st:IG [e1,e2] X.env=[(R9,eval e1 X.env),(R9,eval e2 X.env)]:=by rw[ak Gp,ak Gq];rfl
  refine zM (by have:=G.units;lia) (mE G.mono o) (mE G.mono k') (mE G.mono x) (sE o G _ ho) (sE k' G _ hk) (sE x G _ hx) ⟨fD L,?_,F2,?_⟩
  ·rw[st];rfl
  ·rw[st];rfl
 |.lrng a,C,X,G,e,h=>by refine cZ e h λx xs p pos h=>?_;refine cO xs h λw h=>?_;refine cZ w h λz ys p2 Gu h=>?_;refine cO ys h λy h=>?_;simp only[D0,decide_eq_true_eq]at h;obtain⟨⟨⟨⟨⟨rfl,O⟩,rfl⟩,Gr⟩,hs⟩,U⟩:=h;exact yZ (mE G.mono a) G.calm (sE a G _ U) (G.gl O) (G.mgB _ (by decide)) (G.gl Gr) (G.mgB _ (by decide)) (ak hs)
 |.meth m o a,C,X,G,e,h=>by
  refine yn e h λx n xs ap cp h=>?_;refine cO xs h λy h=>?_;simp only[D0,decide_eq_true_eq]at h;obtain⟨⟨⟨⟨⟨hn,L⟩,F2⟩,hs⟩,ho⟩,U⟩:=h;subst hn;have pa:PA X [y] (lA X.K (aH (wE Φ a) bD)):=bV (mE G.mono a) aw (sE a G _ U) dW (ak hs);have few:((Ms cp (IG [y] X.env)).all (λx=>!x.1)&&(backToKw cp (Ri [] X.env)).all (λx=>x.1.isSome)&&decide (([y]:List Expr).length+([]:List OL).length+(if([]:List OL).isEmpty then 0 else 1)<30))=N2:=by rw[ak hs];rfl
  cases m with
  |append=>exact PE.imp (rg Mr PySem.F.slot_list_append PySem.F.type_list_append kM (sE o G _ ho) pa (fD L) few F2 (ak hs) rfl) (jU i3 (mE G.mono o) (aq (mE G.mono a) aw) wK)
  |extend=>exact PE.imp (rg Mr PySem.F.slot_list_extend PySem.F.type_list_extend tw (sE o G _ ho) pa (fD L) few F2 (ak hs) rfl) (jU i4 (mE G.mono o) (aq (mE G.mono a) aw) wL)
  |pop=>exact PE.imp (rg Mr PySem.F.slot_list_pop PySem.F.type_list_pop w8 (sE o G _ ho) pa (fD L) few F2 (ak hs) rfl) (jU jm (mE G.mono o) (aq (mE G.mono a) aw) zR)
 |.comp fr N' c,C,X,G,e,h=>by
  refine uL e h λelt gens sc pos h=>?_;simp only[D0]at h;have B:be sc X.env.scope X.N N' fr:=by rw[G.sc,G.N];exact jr h.1
  have B':be sc C.sc C.N N' fr:=jr h.1
  cases c with
  |last src g ifs m=>
   have h2:=h.2;simp only[okC]at h2
   split at h2
   ·rename_i t it fs a;simp only[D0,decide_eq_true_eq]at h2;obtain⟨⟨⟨⟨rfl,hi⟩,O⟩,Y⟩,he⟩:=h2;refine PE.imp (hZ G.calm G.hx B (λg' z=>by simp at z) (sI src G _ t hi).1 (λs H fp=>sG (G.blk B' s H fp) g t O) (tb:=λp=>lC X.K p (bg (wTl Φ ifs) (bO (wE Φ m)))) (λs H fp p=>?_) (sI src G _ t hi).2) (eC (mI G.mono src) (aN (bM (mE G.mono m)) (mTl G.mono ifs)))
    have G':=G.blk B' s H fp;exact dN (p:=p) G' (bM (mE G.mono m)) (mTl G.mono ifs) (PB.imp (jL G'.hx (sE m G' elt he) rfl) (gd (mE G.mono m))) (sTl ifs G' fs Y)
   ·cases h2
  |more src g ifs rest=>
   have h2:=h.2;simp only[okC]at h2
   split at h2
   ·rename_i t it fs a g2 gs;simp only[D0,decide_eq_true_eq]at h2;obtain⟨⟨⟨⟨rfl,hi⟩,O⟩,Y⟩,he⟩:=h2;have Gs:∀g',(g2::gs)[0]?=E g'->g'.is_async=0:=fun g' z=>by
     have z':g2=g':=by simpa using z
     subst z';exact gm he
    refine PE.imp (hZ G.calm G.hx B Gs (sI src G _ t hi).1 (λs H fp=>sG (G.blk B' s H fp) g t O) (tb:=λp=>lC X.K p (bg (wTl Φ ifs) (wCl Φ rest))) (λs H fp p=>?_) (sI src G _ t hi).2) (eC (mI G.mono src) (aN (mCl G.mono rest) (mTl G.mono ifs)));have G':=G.blk B' s H fp;exact dN (p:=p) G' (mCl G.mono rest) (mTl G.mono ifs) (sCl rest G' elt (⟨t,it,fs,0⟩::g2::gs) sc pos 0 (.inl rfl) p he) (sTl ifs G' fs Y)
   ·cases h2
theorem sA:∀(m:MEs) {C:Ctx} {X:Cx} (G:Good C Φ k X) (es:List Expr),okEs m C es=N2->PA X es (lA X.K (wA Φ m))
 |.nil,C,X,G,es,h=>by simp[okEs]at h;subst h;exact dW
 |.cons m r,C,X,G,[],h=>by simp[okEs]at h
 |.cons m r,C,X,G,e::es,h=>by simp only[okEs,D0]at h;exact bV (mE G.mono m) (mA G.mono r) (sE m G e h.1.2) (sA r G es h.2) (ak h.1.1)
theorem sAnds:∀(m:MEs) {C:Ctx} {X:Cx} (G:Good C Φ k X) (es:List Expr) (pos:Pos),okEs m C es=N2->es≠[]->PE X (.BoolOp .And es pos) (lE X.K (wAnds Φ m))
 |.nil,C,X,G,es,pos,h,j=>by simp[okEs]at h;exact absurd h j
 |.cons m r,C,X,G,[],pos,h,j=>absurd rfl j
 |.cons m .nil,C,X,G,e::es,pos,h,_=>by simp only[okEs,D0]at h;obtain⟨h1,h2⟩:=h;simp at h2;subst h2;exact tY (sE m G e h1.2)
 |.cons m (.cons m2 r),C,X,G,e::es,pos,h,_=>by
  simp only[okEs,D0]at h;obtain⟨h1,h2⟩:=h
  cases es with
  |nil=>simp at h2
  |cons f fs=>exact Bm (mE G.mono m) (mAnds G.mono _) (sE m G e h1.2) (sAnds (.cons m2 r) G (f::fs) pos (by simpa only[okEs,D0]using h2) (by simp))
theorem sOrs:∀(m:MEs) {C:Ctx} {X:Cx} (G:Good C Φ k X) (es:List Expr) (pos:Pos),okEs m C es=N2->es≠[]->PE X (.BoolOp .Or es pos) (lE X.K (wOrs Φ m))
 |.nil,C,X,G,es,pos,h,j=>by simp[okEs]at h;exact absurd h j
 |.cons m r,C,X,G,[],pos,h,j=>absurd rfl j
 |.cons m .nil,C,X,G,e::es,pos,h,_=>by simp only[okEs,D0]at h;obtain⟨h1,h2⟩:=h;simp at h2;subst h2;exact tY (sE m G e h1.2)
 |.cons m (.cons m2 r),C,X,G,e::es,pos,h,_=>by
  simp only[okEs,D0]at h;obtain⟨h1,h2⟩:=h
  cases es with
  |nil=>simp at h2
  |cons f fs=>exact D8 (mE G.mono m) (mOrs G.mono _) (sE m G e h1.2) (sOrs (.cons m2 r) G (f::fs) pos (by simpa only[okEs,D0]using h2) (by simp))
theorem sO:∀(m:MO) {C:Ctx} {X:Cx} (G:Good C Φ k X) (e:Option Expr),okO m C e=N2->PO X e (lO X.K (wO Φ m))
 |.none,C,X,G,e,h=>by simp[okO]at h;subst h;exact zr
 |.some m,C,X,G,Z,h=>by simp[okO]at h
 |.some m,C,X,G,E e,h=>by simp only[okO]at h;exact zt (mE G.mono m) (sE m G e h)
theorem sT:∀(m:MT) {C:Ctx} {X:Cx} (G:Good C Φ k X) (e:Expr),okT m C e=N2->PT X e (lT X.K (wT Φ m))
 |.tru m,C,X,G,e,h=>by simp only[okT,D0]at h;exact Bi (mE G.mono m) (sE m G e h.2) (sB h.1)
 |.cmp op a b,C,X,G,e,h=>by refine oh e h λl os rs pos h=>?_;refine cO os h λo h=>?_;refine cO rs h λr h=>?_;simp only[D0,decide_eq_true_eq]at h;obtain⟨⟨⟨ho,B⟩,F⟩,hm⟩:=h;rw[JE]at hm;subst ho;exact Be (ql G op) (fw op) (mE G.mono a) (mE G.mono b) (sE a G _ B) (sE b G _ F) hm
 |.and ts,C,X,G,e,h=>by
  refine gO e h λo xs _ h=>?_;replace h:=bY h;obtain⟨ho,h⟩:=h;obtain⟨ho,j⟩:=bY ho
  cases of_decide_eq_true ho
  exact(sAndTs ts G _ _ h (by intro z;rw[z]at j;cases j)).pt
 |.or ts,C,X,G,e,h=>by
  refine gO e h λo xs _ h=>?_;replace h:=bY h;obtain⟨ho,h⟩:=h;obtain⟨ho,j⟩:=bY ho
  cases of_decide_eq_true ho
  exact(sOrTs ts G _ _ h (by intro z;rw[z]at j;cases j)).pt
 |.not t,C,X,G,e,h=>by
  refine ir e h λo x _ h=>?_;replace h:=bY h;obtain⟨ho,h⟩:=h
  cases of_decide_eq_true ho
  exact Bj (mT G.mono t) (sT t G _ h)
theorem sAndTs:∀(m:MTs) {C:Ctx} {X:Cx} (G:Good C Φ k X) (es:List Expr) (pos:Pos),okTs m C es=N2->es≠[]->PW X (.BoolOp .And es pos) (lT X.K (wAndTs Φ m))
 |.nil,C,X,G,es,pos,h,j=>by simp[okTs]at h;exact absurd h j
 |.cons m r,C,X,G,[],pos,h,j=>absurd rfl j
 |.cons m .nil,C,X,G,e::es,pos,h,_=>by simp only[okTs,D0]at h;obtain⟨h1,h2⟩:=h;simp at h2;subst h2;exact zp (sT m G e h1)
 |.cons m (.cons m2 r),C,X,G,e::es,pos,h,_=>by
  simp only[okTs,D0]at h;obtain⟨h1,h2⟩:=h
  cases es with
  |nil=>simp at h2
  |cons f fs=>exact Bl (mT G.mono m) (mAndTs G.mono _) (sT m G e h1) (sAndTs (.cons m2 r) G (f::fs) pos (by simpa only[okTs,D0]using h2) (by simp))
theorem sOrTs:∀(m:MTs) {C:Ctx} {X:Cx} (G:Good C Φ k X) (es:List Expr) (pos:Pos),okTs m C es=N2->es≠[]->PW X (.BoolOp .Or es pos) (lT X.K (wOrTs Φ m))
 |.nil,C,X,G,es,pos,h,j=>by simp[okTs]at h;exact absurd h j
 |.cons m r,C,X,G,[],pos,h,j=>absurd rfl j
 |.cons m .nil,C,X,G,e::es,pos,h,_=>by simp only[okTs,D0]at h;obtain⟨h1,h2⟩:=h;simp at h2;subst h2;exact Bk (sT m G e h1)
 |.cons m (.cons m2 r),C,X,G,e::es,pos,h,_=>by
  simp only[okTs,D0]at h;obtain⟨h1,h2⟩:=h
  cases es with
  |nil=>simp at h2
  |cons f fs=>exact D7 (mT G.mono m) (mOrTs G.mono _) (sT m G e h1) (sOrTs (.cons m2 r) G (f::fs) pos (by simpa only[okTs,D0]using h2) (by simp))
theorem sTl:∀(m:MTs) {C:Ctx} {X:Cx} (G:Good C Φ k X) (es:List Expr),okTs m C es=N2->IZ (λc t=>PT X c t) es ((wTl Φ m).map (lT X.K))
 |.nil,C,X,G,es,h=>by simp[okTs]at h;subst h;exact .nil
 |.cons m r,C,X,G,[],h=>by simp[okTs]at h
 |.cons m r,C,X,G,e::es,h=>by simp only[okTs,D0]at h;exact .cons (sT m G e h.1) (sTl r G es h.2)
theorem sI:∀(m:MI) {C:Ctx} {X:Cx} (G:Good C Φ k X) (e tg:Expr),okI m C tg e=N2->PI X tg e (lI X.K (wI Φ m))/\∀x,Ks e X.env x=pure x
 |.seq m,C,X,G,e,tg,h=>by simp only[okI,D0]at h;exact⟨Br (mE G.mono m) (sE m G e h.2),om h.1⟩
 |.keys m,C,X,G,e,tg,h=>by simp only[okI,D0]at h;exact⟨zQ (mE G.mono m) (sE m G e h.2),om h.1⟩
 |.rng1 a,C,X,G,e,tg,h=>by refine cZ e h λx xs p pos h=>?_;refine cO xs h λy h=>?_;simp only[D0,decide_eq_true_eq]at h;obtain⟨⟨⟨rfl,B⟩,hs⟩,F⟩:=h;exact⟨zz (aq (mE G.mono a) aw) (G.gl B) (G.mgB _ (by decide)) (bV (mE G.mono a) aw (sE a G _ F) dW (ak hs)) (ak hs),λx=>rfl⟩
 |.rng2 a b,C,X,G,e,tg,h=>by refine cZ e h λx xs p pos h=>?_;refine oj xs h λy z h=>?_;simp only[D0,decide_eq_true_eq]at h;obtain⟨⟨⟨⟨⟨rfl,B⟩,hs⟩,j⟩,F⟩,J⟩:=h;exact⟨zA (aq (mE G.mono a) (aq (mE G.mono b) aw)) (G.gl B) (G.mgB _ (by decide)) (bV (mE G.mono a) (aq (mE G.mono b) aw) (sE a G _ F) (bV (mE G.mono b) aw (sE b G _ J) dW (ak j)) (ak hs)) (by rw[ak hs,ak j];rfl) (ak j),λx=>rfl⟩
 |.enum a,C,X,G,e,tg,h=>by refine cZ e h λx xs p pos h=>?_;refine cO xs h λy h=>?_;refine eP tg h λts kt pt h=>?_;simp only[D0,decide_eq_true_eq]at h;obtain⟨⟨⟨rfl,B⟩,hs⟩,F⟩:=h;exact⟨zB (mE G.mono a) (G.gl B) (G.mgB _ (by decide)) (bV (mE G.mono a) aw (sE a G _ F) dW (ak hs)) (ak hs),λx=>rfl⟩
 |.zip a b,C,X,G,e,tg,h=>by refine cZ e h λx xs p pos h=>?_;refine oj xs h λy z h=>?_;refine eP tg h λts kt pt h=>?_;simp only[D0,decide_eq_true_eq]at h;obtain⟨⟨⟨⟨⟨rfl,B⟩,hs⟩,j⟩,F⟩,J⟩:=h;exact⟨Bu (mE G.mono a) (mE G.mono b) (G.gl B) (G.mgB _ (by decide)) (bV (mE G.mono a) (aq (mE G.mono b) aw) (sE a G _ F) (bV (mE G.mono b) aw (sE b G _ J) dW (ak j)) (ak hs)) (by rw[ak hs,ak j];rfl) (ak j),λx=>rfl⟩
theorem sCl:∀(m:MC) {C:Ctx} {X:Cx} (G:Good C Φ k X) (elt:Expr) (gens:List Jg) (sc:Scope) (pos:Pos) (d:Nat) (_:d=0∨d=d) (p:SS),okC m C C (gens.drop (d+1)) elt=N2->
 PB X (bc elt gens sc pos d (.ref p) X.env) (lC X.K p (wCl Φ m))
 |.last src g ifs m,C,X,G,elt,gens,sc,pos,d,_,p,h=>by
  simp only[okC]at h
  split at h
  ·rename_i t it fs a hd;simp only[D0,decide_eq_true_eq]at h;obtain⟨⟨⟨⟨rfl,hi⟩,B⟩,F⟩,he⟩:=h;have J:gens[d+1]?=E ⟨t,it,fs,0⟩:=by
    have z:(gens.drop (d+1))[0]?=E ⟨t,it,fs,0⟩:=by rw[hd];rfl
    rw[KS]at z;simpa using z
   have j:gens[d+1+1]?=Z:=by
    have z:(gens.drop (d+1))[1]?=Z:=by rw[hd];rfl
    rw[KS]at z;simpa using z
   refine PB.imp (kR G.hx G.calm J (λg' z=>by rw[j]at z;cases z) (sI src G _ t hi).1 (sG G g t B) (dN (p:=p) G (bM (mE G.mono m)) (mTl G.mono ifs) (PB.imp (jL G.hx (sE m G elt he) j) (gd (mE G.mono m))) (sTl ifs G fs F)) (sI src G _ t hi).2) (i6 (mI G.mono src) (aN (bM (mE G.mono m)) (mTl G.mono ifs)))
  ·cases h
 |.more src g ifs rest,C,X,G,elt,gens,sc,pos,d,_,p,h=>by
  simp only[okC]at h
  split at h
  ·rename_i t it fs a g2 gs hd;simp only[D0,decide_eq_true_eq]at h;obtain⟨⟨⟨⟨rfl,hi⟩,B⟩,F⟩,he⟩:=h;have J:gens[d+1]?=E ⟨t,it,fs,0⟩:=by
    have z:(gens.drop (d+1))[0]?=E ⟨t,it,fs,0⟩:=by rw[hd];rfl
    rw[KS]at z;simpa using z
   have j:gens[d+1+1]?=E g2:=by
    have z:(gens.drop (d+1))[1]?=E g2:=by rw[hd];rfl
    rw[KS]at z;simpa using z
   have O:gens.drop (d+1+1)=g2::gs:=by
    have z:(gens.drop (d+1)).drop 1=g2::gs:=by rw[hd];rfl
    rw[List.drop_drop]at z;simpa using z
   have L:∀g',gens[d+1+1]?=E g'->g'.is_async=0:=λg' z=>by rw[j]at z;cases z;exact gm he
   refine PB.imp (kR G.hx G.calm J L (sI src G _ t hi).1 (sG G g t B) (dN (p:=p) G (mCl G.mono rest) (mTl G.mono ifs) (sCl rest G elt gens sc pos (d+1) (.inr rfl) p (by rw[O];exact he)) (sTl ifs G fs F)) (sI src G _ t hi).2) (i6 (mI G.mono src) (aN (mCl G.mono rest) (mTl G.mono ifs)))
  ·cases h
end
end
end
section
section
variable{Φ:Phi}{k:Nat}{C:Ctx}{X:Cx}
theorem xD{ts vs:List Expr}{kk j:Nat}{pp p2:Pos}(hs:env.scope=sc)(z:sc.kind=.function)(h:su sc ts vs=N2):Ld [.Tuple ts kk pp] (.Tuple vs j p2) env=pure Z:=by
 have B:env.blockKind=.function:=by unfold Oo;rw[hs,z];rfl
 have h':su sc ts vs=N2:=h;unfold Ld;dsimp only;rw[B]
 by_cases c1:(!(ts.length==2 || ts.length==3) || vs.length != ts.length)=N2
 ·simp only[c1,Bool.true_or,if_true]
 ·simp only[MZ]at c1;rw[c1];simp only[Oi,bne_self_eq_false,Ki,if_false]
  split
  ·rfl
  ·
    generalize F:List.filterMap _ ts=L;obtain rfl:L=ba sc ts:=by
     rw[<-F];unfold ba;congr 1
     funext x
     cases x<;>first|rfl|(unfold Qn;rw[hs])
    unfold su at h';rw[c1]at h';simp only[Oi,OY]at h'
    by_cases c3:((ba sc ts).length != ts.length || (ba sc ts).eraseDups.length != (ba sc ts).length)=N2
    ·rw[if_pos c3]
    ·rw[if_neg c3];have J:vs.all (Q8 8)=N2:=by
      rcases h' with h'|h'
      ·exact absurd (OY _ _ |>.mpr h') c3
      ·exact h'
     rw[if_pos J]
theorem zV{ts vs:List Expr}{ns:List Str}{kk j:Nat}{pp p2:Pos}(hs:env.scope=sc)(B:sc.kind=.function)(h:sx sc ts vs ns=N2):Ld [.Tuple ts kk pp] (.Tuple vs j p2) env=pure (E ns):=by
 have F:env.blockKind=.function:=by unfold Oo;rw[hs,B];rfl
 simp only[sx,D0,JE,decide_eq_true_eq]at h;obtain⟨⟨⟨⟨⟨J,O⟩,U⟩,Y⟩,F2⟩,c6⟩:=h;unfold Ld;dsimp only;rw[F,J];simp only[Oi,bne_self_eq_false,Ki,if_false]
 split
 ·next z=>exact absurd z (by rw[MZ];exact O)
 ·generalize hL:List.filterMap _ ts=L;obtain rfl:L=ba sc ts:=by
   rw[<-hL];unfold ba;congr 1
   funext x
   cases x<;>first|rfl|(unfold Qn;rw[hs])
  rw[Y,F2,c6,U];rfl
theorem qo{i:Nat}(h:sv C i x=N2):C.N[i]?=E x/\C.sc.names.lookup x=E .local:=by simpa[sv]using h
theorem dO{tg:Expr}{l:Nat}{b:Bool}(h:Mm e (E tg) l env=pure b):Mb [tg] e l env=pure b:=by unfold Mb;exact h
theorem zW{tg:Expr}(hs:env.scope=sc)(j:sc.kind=.function)(h:yo sc tg e=N2):Ld [tg] e env=pure Z:=by
 cases tg with
 |Tuple ts kk pp=>
  cases e with
  |Tuple vs z p2=>exact xD hs j h
  |_=>rfl
 |_=>first|rfl|(cases h;done)
theorem ou{elt:Expr}{gens:List Jg}{s:Scope}{px:Pos}{l:Nat}(hs:env.scope=sc)(j:sc.kind=.function):
 Mm (.ListComp elt gens s pos) (E (.Name x px)) l env=pure (sy sc x px (.ListComp elt gens s pos)):=by
 have z:env.blockKind=.function:=by unfold Oo;rw[hs,j];rfl
 unfold Mm;dsimp only;rw[z];unfold sy Qn;rw[hs];rfl
theorem uO{ek ev:Expr}{gens:List Jg}{s:Scope}{px:Pos}{l:Nat}(hs:env.scope=sc)(j:sc.kind=.function):
 Mm (.DictComp ek ev gens s pos) (E (.Name x px)) l env=pure (sc.names.lookup x==E .local&&px.line==(Expr.DictComp ek ev gens s pos).pos.line && !(s.names.any λ(n,k)=>n==x&&(k==.local || k==.cell))):=by
 have z:env.blockKind=.function:=by unfold Oo;rw[hs,j];rfl
 unfold Mm;dsimp only;rw[z];unfold Qn;rw[hs];rfl
mutual
theorem sS:∀(m:MS) (G:Good C Φ k X) (F:C.sc.kind=.function) (s:Stmt),okS m C s=N2->PS X s (lS X.K (wS Φ m))
 |.asg g m,G,F,s,h=>by
  refine iw s h λts e pos h1=>?_;clear h;refine cO ts h1 λtg h=>?_;clear h1;simp only[D0]at h;obtain⟨⟨⟨J,he⟩,Y⟩,U⟩:=h;have hw:=zW G.sc F Y;have pg:=sG G g tg J;have plain:Mb [tg] e pos.line X.env=pure R9->PS X (.Assign [tg] e pos) (lS X.K (jX (wE Φ m) (bG g))):=λhs=>PS.imp (sZ (sE m G e he) pg hs hw (by cases tg<;>first|rfl|(cases Y;done))) (xc (mE G.mono m))
  cases tg with
  |Tuple ts a b=>exact plain (dO (kg U))
  |Name x px=>
   cases e with
   |ListComp elt gens sc cpos=>
    by_cases sw:sy C.sc x px (.ListComp elt gens sc cpos)=N2
    ·cases g with
     |tup gs=>exact absurd J Ih
     |name i=>
      cases m with
      |comp fr N' c=>
       replace he:=bY he;have B:be sc X.env.scope X.N N' fr:=by rw[G.sc,G.N];exact jr he.1
       have B':be sc C.sc C.N N' fr:=jr he.1;have F2:PG X (.Name x px) (iL i):=by have J:=bY J;have J:=PM (bY J.1) J.2;exact pT G.nd (by rw[G.N];exact of_decide_eq_true J.1.1) (G.loc J.1.2) (G.own J.2)
       have Gp:∀l,Mm (.ListComp elt gens sc cpos) (E (.Name x px)) l X.env=pure N2:=λl=>by rw[ou G.sc F,sw]
       have mc:=mCmp G.mono fr c
       cases c with
       |last src g ifs m=>
        have h2:=he.2;simp only[okC]at h2
        split at h2
        ·rename_i t it fs a;simp only[D0,decide_eq_true_eq]at h2;obtain⟨⟨⟨⟨rfl,hi⟩,O⟩,ht⟩,L⟩:=h2;refine PS.imp (iW (i:=i) (g:=lG X.K (bG g)) (wi:=lI X.K (wI Φ src)) G.calm G.hx B (λg' z=>by simp at z) (sI src G _ t hi).1 (λs H fp=>sG (G.blk B' s H fp) g t O) (tb:=λp=>lC X.K p (bg (wTl Φ ifs) (bO (wE Φ m)))) (λs H fp p=>?_) (sI src G _ t hi).2 F2 (Gp _)) λD σ H h=>?_
         ·have G':=G.blk B' s H fp;exact dN (p:=p) G' (bM (mE G.mono m)) (mTl G.mono ifs) (PB.imp (jL G'.hx (sE m G' elt L) rfl) (gd (mE G.mono m))) (sTl ifs G' fs ht)
         ·exact eC (mI G.mono src) (aN (bM (mE G.mono m)) (mTl G.mono ifs)) σ H _ (lg mc D σ H h)
        ·cases h2
       |more src g ifs rest=>
        have h2:=he.2;simp only[okC]at h2
        split at h2
        ·rename_i t it fs a g2 gs;simp only[D0,decide_eq_true_eq]at h2;obtain⟨⟨⟨⟨rfl,hi⟩,O⟩,ht⟩,L⟩:=h2;have Gq:∀g',(g2::gs)[0]?=E g'->g'.is_async=0:=fun g' z=>by
          have z':g2=g':=by simpa using z
          subst z';exact gm L
         refine PS.imp (iW (i:=i) (g:=lG X.K (bG g)) (wi:=lI X.K (wI Φ src)) G.calm G.hx B Gq (sI src G _ t hi).1 (λs H fp=>sG (G.blk B' s H fp) g t O) (tb:=λp=>lC X.K p (bg (wTl Φ ifs) (wCl Φ rest))) (λs H fp p=>?_) (sI src G _ t hi).2 F2 (Gp _)) λD σ H h=>?_
         ·have G':=G.blk B' s H fp;exact dN (p:=p) G' (mCl G.mono rest) (mTl G.mono ifs) (sCl rest G' elt (⟨t,it,fs,0⟩::g2::gs) sc cpos 0 (.inl rfl) p L) (sTl ifs G' fs ht)
         ·exact eC (mI G.mono src) (aN (mCl G.mono rest) (mTl G.mono ifs)) σ H _ (lg mc D σ H h)
        ·cases h2
      |_=>exact absurd he Ih
    ·refine plain ?_;simp only[MZ]at sw;refine dO ?_;rw[ou G.sc F,sw]
   |SetComp _ _ _ _=>cases m<;>exact absurd he Ih
   |DictComp _ _ _ _ _=>refine plain (dO ?_);rw[uO G.sc F];unfold BK at U;simp only[JE]at U;rw[U]
   |_=>exact plain (dO rfl)
  |_=>cases Y
 |.par i j a b,G,F,s,h=>by refine iw s h λts e pos h=>?_;refine cO ts h λtg h=>?_;refine eP tg h λts k p h=>?_;refine eP e h λes k' p' h=>?_;refine oj ts h λt u h=>?_;refine oj es h λe f h=>?_;refine fy t h λx px h=>?_;refine fy u h λy py h=>?_;simp only[D0,decide_eq_true_eq]at h;obtain⟨⟨⟨⟨⟨⟨⟨hi,hj⟩,Gr⟩,n1⟩,n2⟩,Y⟩,hb⟩,hw⟩:=h;obtain⟨i1,i2⟩:=qo hi;obtain⟨j1,j2⟩:=qo hj;exact PS.imp (AL G.calm G.nd (by rw[G.N];exact i1) (by rw[G.N];exact j1) Gr (by rw[G.sc];exact i2) (by rw[G.sc];exact j2) (bV (mE G.mono a) (aq (mE G.mono b) aw) (sE a G _ Y) (bV (mE G.mono b) aw (sE b G _ hb) dW (ak n2)) (ak n1)) (zV G.sc F hw) (dO rfl)) (uj (aq (mE G.mono a) (aq (mE G.mono b) aw)))
 |.put o i m,G,F,s,h=>by refine iw s h λts e pos h=>?_;refine cO ts h λtg h=>?_;refine fB tg h λx y tp h=>?_;simp only[D0]at h;obtain⟨⟨⟨⟨Gs,U⟩,ho⟩,hi⟩,he⟩:=h;exact Bw (by have:=G.units;lia) (mE G.mono m) (mE G.mono o) (mE G.mono i) (sE m G e he) (sE o G x ho) (sE i G y hi) (dO (kg U)) rfl (λv=>by cases y<;>first|rfl|(cases Gs;done))
 |.aug i op m,G,F,s,h=>by
  refine pR s h λt o e pos h=>?_;refine fy t h λx _ h=>?_;simp only[D0,decide_eq_true_eq]at h;obtain⟨⟨⟨⟨⟨rfl,Gu⟩,hi⟩,hl⟩,hf⟩,he⟩:=h
  cases op with
  |add=>exact nG G.nd (by rw[G.N];exact hi) (G.loc hl) (sE m G _ he) uf lh (mE G.mono m) (G.own hf)
  |sub=>exact nG G.nd (by rw[G.N];exact hi) (G.loc hl) (sE m G _ he) ug lj (mE G.mono m) (G.own hf)
  |mul=>exact nG G.nd (by rw[G.N];exact hi) (G.loc hl) (sE m G _ he) ui ll (mE G.mono m) (G.own hf)
  |_=>simp at Gu
 |.drop m,G,F,s,h=>by refine BG s h λe _ h=>?_;simp only[D0]at h;exact PS.imp (yJ (sE m G _ h.2) (kg h.1)) (ud (mE G.mono m))
 |.ret m,G,F,s,h=>by refine xA s h λo _ h=>?_;refine jos o h λe h=>?_;exact PS.imp (AG (sE m G _ h)) (wZ (mE G.mono m))
 |.ite c a b,G,F,s,h=>by refine Ej s h λt x y _ h=>?_;simp only[D0]at h;exact PS.imp (CA (sT c G _ h.1.1) (sSs a G F _ h.1.2) (sSs b G F _ h.2)) (zC (mT G.mono c))
 |.for g src b,G,F,s,h=>by refine Dl s h λtg it body els _ h=>?_;refine iy els h fun  h=>?_;simp only[D0]at h;obtain⟨⟨⟨hs,J⟩,hi⟩,hb⟩:=h;exact PS.imp (AO (λe s z=>(G.hx e s z).elim) G.calm (sI src G _ _ hi).1 (sG G g _ J) (sSs b G F _ hb) (om hs)) (xf (mI G.mono src) (mSs G.mono b))
 |.while c b,G,F,s,h=>by refine zS s h λt body els _ h=>?_;refine iy els h fun  h=>?_;simp only[D0]at h;exact PS.imp (vR (λe s z=>(G.hx e s z).elim) (sT c G _ h.1) (sSs b G F _ h.2)) (rR (mT G.mono c) (mSs G.mono b))
 |.frz i m,G,F,s,h=>by exact BA (sS m G F s h)
 |.pass,G,F,s,h=>by refine BI s h λ_ h=>?_;exact PS.imp yI lf
 |.brk,G,F,s,h=>by refine zT s h λ_ h=>?_;exact PS.imp vP rQ
 |.cnt,G,F,s,h=>by refine so s h λ_ h=>?_;exact PS.imp pF ub
theorem sSs:∀(m:MSs) (G:Good C Φ k X) (j:C.sc.kind=.function) (s:List Stmt),okSs m C s=N2->PSs X s (lS X.K (wSs Φ m))
 |.nil,G,j,s,h=>by simp[okSs]at h;subst h;exact PSs.imp yH lf
 |.cons m r,G,j,[],h=>by simp[okSs]at h
 |.cons m r,G,j,s::ss,h=>by simp only[okSs,D0]at h;exact PSs.imp (vO (sS m G j s h.1) (sSs r G j ss h.2)) (wY (mS G.mono m) (mSs G.mono r))
end
end
end
variable{a:SS}{ns:List Int}
section
structure FD where
 name:Str
 st:Stmt
 N:List Str
 np:Nat
 body:MSs
noncomputable def eQ(N:List Str)(ds:List D):am:=ds.map E++HN (N.length-ds.length) Z
noncomputable def phi(T:List FD):Nat->Phi
 |0=>λ_ _ _ _=>False
 |k+1=>λf ds M Q=>∃d,T[f]?=E d/\ds.length=d.np/\wSs (phi T k) d.body {nx:=λ_ M'=>Q .non M',rt:=Q} (eQ d.N ds) M
theorem iA(T:List FD):∀k f,aU (phi T k f)
 |0,f=>λ_ _ _ _ _ q=>q.elim
 |k+1,f=>λds M Q Q' h j=>(by obtain⟨d,e,l,q⟩:=j;exact⟨d,e,l,mSs (iA T k) d.body {nx:=λ_ M'=>Q .non M',rt:=Q} {nx:=λ_ M'=>Q' .non M',rt:=Q'} _ _ ⟨λ_ M' q'=>h _ _ q',h,λ_ _ z=>z,λ_ _ z=>z⟩ q⟩)
noncomputable def sC(Γ:List Str)(cs:List (Str×D))(d:FD):Bool:=
 decide ((aA d.st).kind=.function) && !(aA d.st).isCoroutine && !(aA d.st).isGenerator&&decide (d.N.Nodup)&&decide (d.np<=d.N.length)
  && (d.N.take d.np).all (λx=>(aA d.st).names.lookup x==E .local || (aA d.st).names.lookup x==E .cell)
  && (aA d.st).names.all (λy=>!(y.2==.free))&&okSs d.body ⟨Γ,d.N,aA d.st,d.N,cs,0,d.name⟩ (ci d.st)
theorem xE{Γ:List Str}{cs:List (Str×D)}{d:FD}(h:sC Γ cs d=N2):gy d.N (d.N.take d.np) (aA d.st)/\(d.N.take d.np).length=d.np/\okSs d.body ⟨Γ,d.N,aA d.st,d.N,cs,0,d.name⟩ (ci d.st)=N2:=by
 simp only[sC,D0,decide_eq_true_eq,JE]at h;obtain⟨⟨⟨⟨⟨⟨⟨h1,h2⟩,B⟩,F⟩,Y⟩,J⟩,L⟩,O⟩:=h;have j:(d.N.take d.np).length=d.np:=by rw[IJ];lia
 refine⟨⟨h1,h2,B,F,by rw[j],λx hx=>?_,λy U e=>?_⟩,j,O⟩
 ·have z:=N6.mp J x hx;simpa using z
 ·have z:=N6.mp L y U;rw[e]at z;simp at z
section
variable{P:Iy}{w:IY}{K:Frag}{mg:Str->Option q7}{base:Heap}
structure yp(K:Frag)(mg:Str->Option q7)(T:List FD)(cs:List (Str×D)):Prop where
 blt:∀x∈bltNames,mg x=Z
 fns:∀(i:Nat) (d:FD),T[i]?=E d->∃f fd,Fun K d.name d.name d.st f fd/\mg d.name=E (.ref f)/\MA K Jv d.name=E (E (.ref f))/\Binds K fd (d.N.take d.np) []
 ok:∀d∈T,sC (T.map (·.name)) cs d=N2
 cst:∀x d,(x,d)∈cs->∃u,mg x=E u/\GV K d u
theorem uP{T:List FD}{cs:List (Str×D)}(O:yp K mg T cs):∀(k i:Nat) (d:FD) (f:SS) (fd:LA),T[i]?=E d->Fun K d.name d.name d.st f fd->dh P w K mg base CX0 k f fd (d.N.take d.np) (lSp K (phi T k i))
 |0,i,d,f,fd,e,F=>⟨λvs H Q fv h=>by obtain⟨ds,M,_,_,q⟩:=h;exact q.elim,λA outer s H args us vs Q fv _ _ _ _ h=>by obtain⟨ds,M,_,_,q⟩:=h;exact q.elim⟩
 |k+1,i,d,f,fd,e,F=>by
  obtain⟨S,hl,hb⟩:=xE (O.ok d (Ib e));refine F.ok S (λvs H Q fv h=>?_) λcdv A outer s H vs Q fv hr h=>?_
  ·obtain⟨ds,M,rm,rs,d',e',l,q⟩:=h;rw[e]at e';cases e';rw[rs.length,l,hl]
  ·obtain⟨ds,M,rm,rs,d',e',l,q⟩:=h;rw[e]at e';cases e';have G:Good ⟨T.map (·.name),d.N,aA d.st,d.N,cs,0,d.name⟩ (phi T k) k ((i9 CX0 P w K mg base d.N d.name (aA d.st) f cdv A outer s H fv).nox):=by
    refine⟨λ_ _ z=>z,rfl,rfl,rfl,S.nd,λ_ _=>rfl,hr,O.blt,λj x hx=>?_,iA T k,O.cst,λz=>(by cases z),λ_ z=>(by cases z)⟩
    have B:(T.map (·.name))[j]?=E x:=hx;rw[I8]at B
    cases Y:T[j]? with
    |none=>rw[Y]at B;cases B
    |some d2=>rw[Y]at B;cases B;obtain⟨f2,U,F2,m2,n2,b2⟩:=O.fns j d2 Y;exact⟨f2,U,_,m2,n2,F2.kp,b2,uP O k j d2 f2 U Y F2⟩
   refine⟨_,sSs d.body G S.kind _ hb,eQ d.N ds,M,{nx:=λ_ M'=>KE' K M H Q .non M',rt:=KE' K M H Q},?_,rm,⟨λρ M' σ H' x rs' rm' q'=>?_,λd M' v H' x rm' rd' q'=>q' v H' x rm' rd',λ_ _ _ _ _ _ _ z=>z,λ_ _ _ _ _ _ _ z=>z⟩,q⟩
   ·refine⟨by simp[cT,eQ,rs.length],λj dd J=>?_⟩
    unfold eQ at J;unfold cT
    by_cases L:j<ds.length
    ·rw[HX (by simpa using L),I8]at J
     cases e3:ds[j]? with
     |none=>rw[e3]at J;cases J
     |some z=>rw[e3]at J;cases J;obtain⟨v,hv,rv⟩:=rs.get e3;refine⟨v,?_,rv⟩;rw[HX (by rw[hG,rs.length];exact L),I8,hv];rfl
    ·rw[HP (by simpa using L),Jd]at J
     split at J<;>cases J
   ·exact q' .non H' x rm' (SA.mpr rfl)
theorem BP{T:List FD}{k i:Nat}{H:Hp}(B:rh H)(F:SqL K H a (ns.map V.int))(h:phi T k i [.con (ns.map D.int)] (λ_=>Z) λd _=>d=.bl N2):
 lSp K (phi T k i) [.ref a] H (λv _=>v=.bl N2) λ_ _ _=>False:=by
 have j:RM K (λ_=>Z) H:=λ_ _ z=>by cases z
 refine⟨[.con (ns.map D.int)],λ_=>Z,j,RDs.cons (Su.mpr ⟨a,ns.map V.int,rfl,?_,RDs.ints ns⟩) RDs.nil,iA T k i [.con (ns.map D.int)] (λ_=>Z) (λd _=>d=.bl N2) (KE' K (λ_=>Z) H λv _=>v=.bl N2) (λd M' e=>λv H' x rm rd=>?_) h⟩
 ·rcases F with(z|⟨o,z⟩)|z
  ·rcases B a with q|⟨o,xs,q⟩
   ·rw[z]at q;cases q
   ·rw[z]at q;cases q
  ·exact .inl ⟨o,z⟩
  ·exact .inr z
 ·subst e;exact So.mp rd
end
theorem fE(us:List q7)(h:us.length=1):∃a,us=[a]:=List.length_eq_one_iff.mp h
theorem bH(us:List q7)(h:us.length=2):∃a b,us=[a,b]:=by
 cases us with
 |nil=>cases h
 |cons a us=>obtain⟨b,rfl⟩:=fE us (Nat.succ.inj h);exact⟨a,b,rfl⟩
theorem dB(us:List q7)(h:us.length=3):∃a b c,us=[a,b,c]:=by
 cases us with
 |nil=>cases h
 |cons a us=>obtain⟨b,c,rfl⟩:=bH us (Nat.succ.inj h);exact⟨a,b,c,rfl⟩
end
variable{b d:SS}{l v u:List Int}{ts:List (List Int)}{m L0 L1 L2 P:Nat}{j i c:Int}{s:Stmt}{T:List FD}{ds xs:List D}{M M' M'':Mem}{Q:QD}{ρ:am}{Φ:Phi}{kvs:List (D×D)}{A B:List (Nat->Int)}{o:O}{fv:bB}{zs:List (Int×Int)}{base:List (Nat×List Int)}
section
theorem BQ{k:Nat}{d:FD}(e:T[f]?=E d)(l:ds.length=d.np)(r:eQ d.N ds=ρ)(h:wSs (phi T k) d.body {nx:=λ_ M'=>Q .non M',rt:=Q} ρ M):phi T (k+1) f ds M Q:=by
 rw[<-r]at h
 first|exact⟨d,e,l,h⟩|exact .inl ⟨d,e,l,h⟩
theorem ao{n:Nat}{d:FD}(j:1<=n)(e:T[f]?=E d)(l:ds.length=d.np)(r:eQ d.N ds=ρ)(h:wSs (phi T (n-1)) d.body {nx:=λ_ M'=>Q .non M',rt:=Q} ρ M):phi T n f ds M Q:=by
 obtain⟨k,rfl⟩:∃k,n=k+1:=⟨n-1,∅⟩
 exact BQ e l r h
theorem EB{D:bB}:wSs Φ .nil D ρ M=D.nx ρ M:=by rw[wSs];rfl
theorem cP{s:MS}{r:MSs}{D:bB}:wSs Φ (.cons s r) D ρ M=wS Φ s {D with nx:=wSs Φ r D} ρ M:=by rw[wSs];rfl
theorem EC{y:D}:wIx (.tup ds) y M Q=∃i d,y=.int i/\atI ds i=E d/\Q d M:=rfl
theorem ED{y:D}:wIx (.con ds) y M Q=∃i d,y=.int i/\atI ds i=E d/\Q d M:=rfl
theorem av{d:D}(h:M a=E (.lst ds))(e:atI ds i=E d)(q:Q d M):wIx (.ref a) (.int i) M Q:=.inl ⟨ds,i,d,h,rfl,e,q⟩
theorem bE{v:D}{j:Nat}{Q:Mem->Prop}(h:M a=E (.lst ds))(e:ixN ds.length i=E j)(q:Q (ad M a (.lst (ds.set j v)))):gK (.ref a) (.int i) v M Q:=⟨a,rfl,.inl ⟨ds,i,j,rfl,h,e,q⟩⟩
theorem qp(h:M a=E (.lst ds))(q:Q (.int ds.length) M):fh [.ref a] M Q:=⟨_,_,rfl,by simp only[ii,h],q⟩
theorem ab(h:M a=E (.lst ds)):aM M (.ref a)=E ds:=by simp only[aM,h]
theorem Fj:jT [.int i] M Q=Q (.int i) M:=by
 apply propext;constructor
 ·rintro(⟨j,e,q⟩|⟨k,e,q⟩)
  ·cases e;exact q
  ·cases e
 ·exactλq=>.inl ⟨i,rfl,q⟩
theorem Fk{b:Bool}:jT [.bl b] M Q=Q (.int (if b then 1 else 0)) M:=by
 apply propext;constructor
 ·rintro(⟨j,e,q⟩|⟨k,e,q⟩)
  ·cases e
  ·cases e;exact q
 ·exactλq=>.inr ⟨b,rfl,q⟩
theorem Gb:wEq (.int i) (.int j) M Q=Q (.bl (i==j)) M:=by simp[wEq,rb,Jz]
theorem Gc:wNe (.int i) (.int j) M Q=Q (.bl (!(i==j))) M:=by simp[wNe,rb,Jz]
theorem Fl:dX (.int i) (.int j) M Q=Q (.int (i+j)) M:=rfl
theorem Fm{a b:List D}:dX (.tup a) (.tup b) M Q=((a≠[]∨True)/\a.length+b.length<=HZ/\Q (.tup (a++b)) M):=rfl
theorem uQ:dX (.ref a) (.ref b) M Q=∃xs ys,M a=E (.lst xs)/\M b=E (.lst ys)/\xs.length+ys.length<=HZ/\∀p,M p=Z->Q (.ref p) (ad M p (.lst (xs++ys))):=rfl
theorem Fn:jQ (.int i) (.int j) M Q=Q (.int (i-j)) M:=rfl
theorem Fo:ff (.int i) (.int j) M Q=(MulOk i j/\Q (.int (i*j)) M):=rfl
theorem Fp{k:Int}:ff (.tup ds) (.int k) M Q=(-(2^63)<=k/\k<2^63/\ds.length*k.toNat<=HZ/\Q (.tup (HN k.toNat ds).flatten) M):=rfl
theorem EE:iY (.int i) (.int j) M Q=(0<j/\j<2^256/\Q (.int (i / j)) M):=rfl
theorem Fq:ie (.int i) (.int j) M Q=(0<j/\Q (.int (i%j)) M):=rfl
theorem Ft:ni (.int i) (.int j) M Q=(0<=j/\j<=1000000/\i.natAbs<2^64/\Q (.int (i^j.toNat)) M):=rfl
theorem Gd:wLt (.int i) (.int j) M Q=Q (.bl (decide (i<j))) M:=rfl
theorem Gf:wLe (.int i) (.int j) M Q=Q (.bl (decide (i<=j))) M:=rfl
theorem Dn:wGt (.int i) (.int j) M Q=Q (.bl (decide (j<i))) M:=rfl
theorem Gg:wGe (.int i) (.int j) M Q=Q (.bl (decide (j<=i))) M:=rfl
theorem EF:j9 (.int i) (.int j) M Q=Q (.int (i+j)) M:=rfl
theorem EG:ja (.int i) (.int j) M Q=Q (.int (i-j)) M:=rfl
theorem EH:jb (.int i) (.int j) M Q=(MulOk i j/\Q (.int (i*j)) M):=rfl
theorem Fu:nj (.int i) M Q=Q (.int (-i)) M:=rfl
theorem Fv:jS [.int i] M Q=Q (.int (if i<0 then -i else i)) M:=by simp[jS]
theorem EI:iZ [.int i,.int j] M Q=Q (.int (if j > i then j else i)) M:=by
 apply propext;constructor
 ·rintro⟨a,b,e,q⟩;cases e;exact q
 ·exactλq=>⟨i,j,rfl,q⟩
theorem EJ:j3 [.int i,.int j] M Q=Q (.int (if j<i then j else i)) M:=by
 apply propext;constructor
 ·rintro⟨a,b,e,q⟩;cases e;exact q
 ·exactλq=>⟨i,j,rfl,q⟩
theorem Fw:fh [.con ds] M Q=Q (.int ds.length) M:=by simp[fh,ii]
theorem Fx:fh [.tup ds] M Q=Q (.int ds.length) M:=by simp[fh,ii]
theorem Fy:aM M (.tup ds)=E ds:=rfl
theorem Fz:aM M (.con ds)=E ds:=rfl
theorem Gh{α:Sort _}{a b:α}:(if N2=N2 then a else b)=a:=rfl
theorem Gi{α:Sort _}{a b:α}:(if R9=N2 then a else b)=b:=rfl
theorem EK{ta tb:TEd}{R:List D->(Mem->Prop)->Mem->Prop}:jW ta tb ρ M R=ta ρ M λx j=>tb ρ j λy M2=>∃xs ys,aM M2 x=E xs/\aM M2 y=E ys/\R (LV gH xs ys) (λM=>aM M x=E xs/\aM M y=E ys) M2:=by
 unfold jW aH;congr 1;funext x j;unfold bD;congr 1;funext y M2;apply propext;constructor
 ·rintro⟨x',y',xs,ys,e,q⟩
  cases e;exact⟨xs,ys,q⟩
 ·rintro⟨xs,ys,q⟩;exact⟨x,y,xs,ys,rfl,q⟩
theorem FA{y:Str}:dX (.str x) (.str y) M Q=(x.length+y.length<=HZ/\Q (.str (x++y)) M):=rfl
theorem FB{i}:wE Φ (.var i)=br i:=rfl
theorem FC{i}:wE Φ (.int i)=wC (.int i):=rfl
theorem Gj{b}:wE Φ (.bl b)=wC (.bl b):=rfl
theorem FE:wE Φ (.non)=wC .non:=rfl
theorem FF{x}:wE Φ (.str x)=wC (.str x):=rfl
theorem FG{op}{a}{b}:wE Φ (.bin op a b)=wOp (opB op) (wE Φ a) (wE Φ b):=rfl
theorem FH{a}:wE Φ (.neg a)=wUn nj (wE Φ a):=rfl
theorem FI{op}{a}{b}:wE Φ (.cmp op a b)=wOp (opC op) (wE Φ a) (wE Φ b):=rfl
theorem FJ{es}:wE Φ (.and es)=wAnds Φ es:=rfl
theorem Gk{es}:wE Φ (.or es)=wOrs Φ es:=rfl
theorem FK{a}:wE Φ (.not a)=mj (wE Φ a):=rfl
theorem FL{c}{a}{b}:wE Φ (.ite c a b)=wIf (wT Φ c) (wE Φ a) (wE Φ b):=rfl
theorem FM{es}:wE Φ (.tup es)=wAr ng (wA Φ es):=rfl
theorem FN{es}:wE Φ (.lst es)=wAr rp (wA Φ es):=rfl
theorem Gm{a}{b}:wE Φ (.ix a b)=wOp wIx (wE Φ a) (wE Φ b):=rfl
theorem Gn{a}{lo}{hi}:wE Φ (.sl a lo hi)=wSl (wE Φ a) (wO Φ lo) (wO Φ hi):=rfl
theorem EL{f}{es}:wE Φ (.call f es)=wAr (Φ f) (wA Φ es):=rfl
theorem FO{f}{es}:wE Φ (.blt f es)=wAr (opF f) (wA Φ es):=rfl
theorem EM{a}:wE Φ (.lrng a)=m7 (wE Φ a):=rfl
theorem EN{u1}{d}:wE Φ (.glob u1 d)=wC d:=rfl
theorem EO{t}:wE Φ (.dnew t)=mC t:=rfl
theorem EQ{o}{k}{x}:wE Φ (.dget o k x)=mG (wE Φ o) (wE Φ k) (wE Φ x):=rfl
theorem ER{m}{o}{a}:wE Φ (.meth m o a)=wBM (opM m) (wE Φ o) (aH (wE Φ a) bD):=rfl
theorem ES{fr}{u1}{c}:wE Φ (.comp fr u1 c)=wCmp Φ fr c:=rfl
theorem ET:wA Φ (.nil)=bD:=rfl
theorem Ek{e}{r}:wA Φ (.cons e r)=aH (wE Φ e) (wA Φ r):=rfl
theorem El:wTl Φ (.nil)=[]:=rfl
theorem DI{t}{r}:wTl Φ (.cons t r)=wT Φ t::wTl Φ r:=rfl
theorem FP{e}:wI Φ (.seq e)=rK (wE Φ e):=rfl
theorem EU{a}:wI Φ (.rng1 a)=mn (aH (wE Φ a) bD):=rfl
theorem EV{a}{b}:wI Φ (.rng2 a b)=mq (aH (wE Φ a) (aH (wE Φ b) bD)):=rfl
theorem FQ{a}{b}:wI Φ (.zip a b)=jW (wE Φ a) (wE Φ b):=rfl
theorem EW{a}:wI Φ (.enum a)=mv (wE Φ a):=rfl
theorem EX{a}:wI Φ (.keys a)=mJ (wE Φ a):=rfl
theorem DJ{src}{g}{ifs}{elt}:wCl Φ (.last src g ifs elt)=dL (wI Φ src) (bG g) (bg (wTl Φ ifs) (bO (wE Φ elt))):=rfl
theorem DK{src}{g}{ifs}{rest}:wCl Φ (.more src g ifs rest)=dL (wI Φ src) (bG g) (bg (wTl Φ ifs) (wCl Φ rest)):=rfl
theorem Do{fr:List (Option Nat)}{src}{g}{ifs}{elt}:wCmp Φ fr (.last src g ifs elt)=gJ fr (wI Φ src) (bG g) (bg (wTl Φ ifs) (bO (wE Φ elt))):=rfl
theorem Dp{fr:List (Option Nat)}{src}{g}{ifs}{rest}:wCmp Φ fr (.more src g ifs rest)=gJ fr (wI Φ src) (bG g) (bg (wTl Φ ifs) (wCl Φ rest)):=rfl
theorem FR{g}{e}:wS Φ (.asg g e)=jX (wE Φ e) (bG g):=rfl
theorem FS{i}{j}{a}{b}:wS Φ (.par i j a b)=rM (aH (wE Φ a) (aH (wE Φ b) bD)) (bX (bh i) (bX (bh j) fX)):=rfl
theorem FT{o}{i}{e}:wS Φ (.put o i e)=rS (wE Φ e) (wE Φ o) (wE Φ i):=rfl
theorem FU{i}{op}{e}:wS Φ (.aug i op e)=rT i (opI op) (wE Φ e):=rfl
theorem EY{e}:wS Φ (.drop e)=mz (wE Φ e):=rfl
theorem FV{e}:wS Φ (.ret e)=rL (wE Φ e):=rfl
theorem FW{c}{a}{b}:wS Φ (.ite c a b)=sIf (wT Φ c) (wSs Φ a) (wSs Φ b):=rfl
theorem FX{g}{src}{b}:wS Φ (.for g src b)=rN (wI Φ src) (bG g) (wSs Φ b):=rfl
theorem Em{c}{b}:wS Φ (.while c b)=j8 (wT Φ c) (wSs Φ b):=rfl
theorem FY{i}{s}:wS Φ (.frz i s)=nZ i (wS Φ s):=rfl
theorem EZ:wS Φ (.pass)=j6:=rfl
theorem FZ:wS Φ (.brk)=j7:=rfl
theorem G0:wS Φ (.cnt)=mw:=rfl
theorem G1{e}:wT Φ (.tru e)=rE (wE Φ e):=rfl
theorem G2{op}{a}{b}:wT Φ (.cmp op a b)=jO (wOp (opC op) (wE Φ a) (wE Φ b)):=rfl
theorem G3{ts}:wT Φ (.and ts)=wAndTs Φ ts:=rfl
theorem Go{ts}:wT Φ (.or ts)=wOrTs Φ ts:=rfl
theorem G4{t}:wT Φ (.not t)=m9 (wT Φ t):=rfl
theorem Co:wAndTs Φ (.nil)=λ_ _ _=>False:=rfl
theorem BR{e}:wAndTs Φ (.cons e .nil)=wT Φ e:=rfl
theorem BS{e}{f}{r}:wAndTs Φ (.cons e (.cons f r))=md (wT Φ e) (wAndTs Φ (.cons f r)):=rfl
theorem Dq:wOrTs Φ (.nil)=λ_ _ _=>False:=rfl
theorem Cp{e}:wOrTs Φ (.cons e .nil)=wT Φ e:=rfl
theorem Cq{e}{f}{r}:wOrTs Φ (.cons e (.cons f r))=rF (wT Φ e) (wOrTs Φ (.cons f r)):=rfl
theorem Dr:wAnds Φ (.nil)=λ_ _ _=>False:=rfl
theorem Cr{e}:wAnds Φ (.cons e .nil)=wE Φ e:=rfl
theorem Ct{e}{f}{r}:wAnds Φ (.cons e (.cons f r))=mf (wE Φ e) (wAnds Φ (.cons f r)):=rfl
theorem DL:wOrs Φ (.nil)=λ_ _ _=>False:=rfl
theorem Dt{e}:wOrs Φ (.cons e .nil)=wE Φ e:=rfl
theorem Du{e}{f}{r}:wOrs Φ (.cons e (.cons f r))=rG (wE Φ e) (wOrs Φ (.cons f r)):=rfl
theorem Eo{i}:bG (.name i)=bh i:=rfl
theorem F1{gs}:bG (.tup gs)=rJ (bGs gs):=rfl
theorem Ep:bGs (.nil)=fX:=rfl
theorem DM{g}{r}:bGs (.cons g r)=bX (bG g) (bGs r):=rfl
theorem Er:wO Φ (.none)=gD:=rfl
theorem Es{e}:wO Φ (.some e)=mm (wE Φ e):=rfl
theorem F4:opB (.add)=dX:=rfl
theorem F5:opB (.sub)=jQ:=rfl
theorem F6:opB (.mul)=ff:=rfl
theorem Et:opB (.fdiv)=iY:=rfl
theorem F7:opB (.mod)=ie:=rfl
theorem F8:opB (.pow)=ni:=rfl
theorem G5:opC (.eq)=wEq:=rfl
theorem G6:opC (.ne)=wNe:=rfl
theorem G7:opC (.lt)=wLt:=rfl
theorem G8:opC (.le)=wLe:=rfl
theorem G9:opC (.gt)=wGt:=rfl
theorem Ga:opC (.ge)=wGe:=rfl
theorem F9:opF (.len)=fh:=rfl
theorem Fa:opF (.abs)=jS:=rfl
theorem Eu:opF (.max2)=iZ:=rfl
theorem Ev:opF (.min2)=j3:=rfl
theorem Fb:opF (.int)=jT:=rfl
theorem Ew:opF (.list)=m8:=rfl
theorem DN:opF (.tuple)=fW:=rfl
theorem Fd:opF (.any)=rW:=rfl
theorem Ex:opF (.dict)=mH:=rfl
theorem DO:opF (.sorts)=jj:=rfl
theorem Dv:opM (.append)=gF:=rfl
theorem Dw:opM (.extend)=gG:=rfl
theorem Fe:opM (.pop)=jl:=rfl
theorem Ff:opI (.add)=j9:=rfl
theorem Fg:opI (.sub)=ja:=rfl
theorem Fh:opI (.mul)=jb:=rfl
local macro_rules|`(tactic| ac_nf)=>do
 let f:=fun(n:Lean.Name)(s:String)=>(s.splitOn " ").toArray.map fun x=>(⟨(Lean.mkIdent (n++x.toName)).raw⟩:Lean.Term)
 let a:=f `_root_.L2.Mi "rl br wC wOp wUn bD aH wAr jO ng rp m7 rE m9 md rF mf rG mj wIf gD mm wSl wBM bh fX bX rJ rK mn mq mv bO bg dL gJ j6 wQ j7 mw mz rL sIf jX rM rN j8 rS rT mC mG mJ EB EC ED Fj Fk Gb Gc Fl Fm Fn Fo Fp EE Fq Ft Gd Gf Dn Gg EF EG EH Fu Fv EI EJ Fw Fx Fy Fz Gh Gi EK FA FB FC Gj FE FF FG FH FI FJ Gk FK FL FM FN Gm Gn EL FO EM EN EO EQ ER ES ET Ek El DI FP EU EV FQ EW EX DJ DK Do Dp FR FS FT FU EY FV FW FX Em FY EZ FZ G0 G1 G2 G3 Go G4 Co BR BS Dq Cp Cq Dr Cr Ct DL Dt Du Eo F1 Ep DM Er Es F4 F5 F6 Et F7 F8 G5 G6 G7 G8 G9 Ga F9 Fa Eu Ev Fb Ew DN Fd Ex DO Dv Dw Fe Ff Fg Fh"
 let b1:=a++f .anonymous "Oz Kz Qo Qp N1 LF R5 R6 R7 Ii JC Iv Kb"
 let b2:=a++f .anonymous "Ki if_false if_true Oz Kz Qo Qp QF exists_eq_left' exists_eq_left exists_eq_right exists_and_left exists_and_right D.bl.injEq D.int.injEq D.ref.injEq D.tup.injEq N1 LF R5 R6 R7 Ii JC decide_eq_true_eq RB and_true true_and Iv Kb"
 `(tactic| ((try dsimp only[$[$b1:term],*]);(try simp only[$[$b2:term],*])))
local macro_rules|`(tactic| nofun)=>`(tactic| ((first|rw[cP]|(dsimp only;rw[cP]));ac_nf))
theorem uR{k d:D}(h:M a=E (.fdc kvs))(ok:bZ k=N2)(e:dget kvs k=E d)(q:Q d M):wIx (.ref a) k M Q:=.inr (.inr ⟨kvs,d,h,ok,e,q⟩)
theorem zX{i:Nat}{t:TSd}{A:bB}(e:ρ[i]?=E (E (.ref a)))(m:M a=E (.dct N2 kvs))(h:t A ρ (ad M a (.fdc kvs))):nZ i t A ρ M:=⟨a,kvs,e,.inl ⟨m,h⟩⟩
theorem ox{t:Bool}{k v:D}{Q:Mem->Prop}(h:M a=E (.dct t kvs))(ok:iX t k=N2)(j:kvs.length<HZ)(q:Q (ad M a (.dct t (cz kvs k v)))):gK (.ref a) k v M Q:=⟨a,rfl,.inr ⟨t,kvs,h,ok,j,q⟩⟩
def Ge(M M':Mem):Prop:=∀a o,M a=E o->M' a=E o
theorem Ge.refl:Ge M M:=λ_ _ h=>h
theorem Ge.trans(h:Ge M M')(g:Ge M' M''):Ge M M'':=λ_ _ e=>g _ _ (h _ _ e)
theorem Ge.new{p:SS}(h:M p=Z):Ge M (ad M p o):=λa o' e=>by rw[ax (λz=>by rw[z,h]at e;cases e)];exact e
def Box(b:SS)(M:Mem):Prop:=∃x y z:Int,M b=E (.lst [.int x,.int y,.int z])
structure Bx(b:SS)(M M':Mem):Prop where
 box:Box b M'
 keep:∀a o,a≠b->M a=E o->M' a=E o
theorem Bx.refl(h:Box b M):Bx b M M:=⟨h,λ_ _ _ e=>e⟩
theorem Bx.trans(h:Bx b M M')(g:Bx b M' M''):Bx b M M'':=⟨g.box,λa o n e=>g.keep a o n (h.keep a o n e)⟩
theorem Bx.ge(h:Bx b M M')(g:Ge M' M''):Bx b M M'':=⟨by obtain⟨x,y,z,e⟩:=h.box;exact⟨x,y,z,g _ _ e⟩,λa o n e=>g _ _ (h.keep a o n e)⟩
theorem Bx.put{x y z:Int}:Bx b M (ad M b (.lst [.int x,.int y,.int z])):=⟨⟨x,y,z,aa⟩,λa o n e=>by rw[ax n];exact e⟩
theorem Bx.of(h:Box b M)(g:Ge M M'):Bx b M M':=(Bx.refl h).ge g
theorem uS{b:BT}{chk:Mem->Prop}{N:NC}(I:List D->am->Mem->List D->Prop){acc:List D}(h0:I [] ρ M acc)(z:∀l ρ M acc,I l ρ M acc->chk M)(hs:∀l x r ρ M acc,xs=l++x::r->I l ρ M acc->∃ρ',b x ρ=E ρ'/\∀N':NC,(∀ρ2 M2 j,I (l++[x]) ρ2 M2 j->N' ρ2 M2 j)->tb ρ' M acc N')(B:∀ρ M acc,I xs ρ M acc->N ρ M acc):aZ b tb chk N xs ρ M acc:=by
 have g:∀(r l:List D) (ρ:am) (M:Mem) (acc:List D),xs=l++r->I l ρ M acc->aZ b tb chk N r ρ M acc:=by
  intro r
  induction r with
  |nil=>intro l ρ M acc e i;rw[Jt]at e;subst e;exact⟨z _ _ _ _ i,B _ _ _ i⟩
  |cons x r ih=>intro l ρ M acc e i;obtain⟨ρ',F,h⟩:=hs l x r ρ M acc e i;exact⟨z _ _ _ _ i,ρ',F,h _ λρ2 M2 j J=>ih (l++[x]) ρ2 M2 j (by rw[e];simp) J⟩
 exact g xs [] ρ M acc rfl h0
theorem xF{b:BT}{tb:TSd}{chk:Mem->Prop}(I:List D->am->Mem->Prop)(h0:I [] ρ M)(j:∀l ρ M,I l ρ M->chk M)(hs:∀l x r ρ M,xs=l++x::r->I l ρ M->∃ρ',b x ρ=E ρ'/\∀F:am->Mem->Prop,(∀ρ2 M2,I (l++[x]) ρ2 M2->F ρ2 M2)->tb {fv with nx:=F,ct:=F,bk:=fv.nx} ρ' M)(z:∀ρ M,I xs ρ M->fv.nx ρ M):bP b tb chk fv xs ρ M:=by
 have g:∀(r l:List D) (ρ:am) (M:Mem),xs=l++r->I l ρ M->bP b tb chk fv r ρ M:=by
  intro r
  induction r with
  |nil=>intro l ρ M e i;rw[Jt]at e;subst e;exact⟨j _ _ _ i,z _ _ i⟩
  |cons x r ih=>intro l ρ M e i;obtain⟨ρ',B,h⟩:=hs l x r ρ M e i;exact⟨j _ _ _ i,ρ',B,h _ λρ2 M2 J=>ih (l++[x]) ρ2 M2 (by rw[e];simp) J⟩
 exact g xs [] ρ M rfl h0
section
variable{T:List FD}
noncomputable def jt(s:Stmt):FD:=⟨"_law_cell_at",s,["_law_script","_law_k"],2,
 (.cons (.ite (.cmp .lt (.var 1) (.blt .len (.cons (.var 0) .nil))) (.cons (.ret (.ix (.var 0) (.var 1)))
 .nil) .nil)
 (.cons (.ret (.int 0))
 .nil))⟩
theorem iB{α:Type}{xs:List α}(h0:0<=i)(h1:i<xs.length):∃x,atI xs i=E x/\xs[i.toNat]?=E x:=by
 have:i.toNat<xs.length:=∅
 refine⟨xs[i.toNat],?_,r4 this⟩;unfold atI ixN;simp[h0,h1,r4 this]
theorem zY(hf:T[f]?=E (jt s)){n:Nat}(z:1<=n){k:Int}(h0:0<=k)(q:∀i,Q (.int i) M):phi T n f [.con (ns.map D.int),.int k] M Q:=by
 refine ao z hf rfl (ρ:=[E _,E _]) rfl ?_;unfold jt;nofun
 split
 ·next h=>
  nofun;obtain⟨x,e,j⟩:=iB (xs:=ns.map D.int) h0 h;rw[I8]at j
  cases e3:ns[k.toNat]? with
  |none=>rw[e3]at j;cases j
  |some y=>rw[e3]at j;cases j;exact⟨_,e,q y⟩
 ·nofun;exact q 0
theorem cB(h:-(2^64)<i/\i<2^64):MulOk i j:=.inl h
theorem fF(h:-(2^64)<j/\j<2^64):MulOk i j:=.inr (.inl h)
noncomputable def kh(s:Stmt):FD:=⟨"_law_mixed",s,["_law_number_here","_law_k","_law_once","_law_twice"],2,
 (.cons (.asg (.name 2) (.bin .mod (.bin .mul (.bin .add (.bin .add (.bin .mod (.var 0) (.int 1000000007)) (.bin .mul (.int 7) (.var 1))) (.int 1)) (.int 48271)) (.int 2147483647)))
 (.cons (.asg (.name 3) (.bin .mod (.bin .mul (.var 2) (.bin .add (.bin .add (.bin .mod (.var 2) (.int 1009)) (.var 1)) (.int 3))) (.int 998244353)))
 (.cons (.ret (.bin .fdiv (.bin .mod (.bin .add (.bin .mul (.var 3) (.int 39373)) (.var 2)) (.int 2147483629)) (.int 64)))
 .nil)))⟩
noncomputable def sF(s:Stmt)(fc fm:Nat):FD:=⟨"_law_box",s,["_law_script","_law_k","_law_cell"],2,
 (.cons (.asg (.name 2) (.call fc (.cons (.var 0) (.cons (.var 1) .nil))))
 (.cons (.ret (.lst (.cons (.bin .mul (.blt .abs (.cons (.var 2) .nil)) (.blt .int (.cons (.cmp .ge (.blt .abs (.cons (.var 2) .nil)) (.bin .pow (.int 10) (.int 18))) .nil))) (.cons (.call fm (.cons (.var 2) (.cons (.bin .add (.int 900) (.var 1)) .nil))) (.cons (.int 0) .nil)))))
 .nil))⟩
theorem BU{fc fm:Nat}{sc:Stmt}(hf:T[f]?=E (sF s fc fm))(z:T[fc]?=E (jt sc)){n:Nat}(B:∀{x k:Int} {M:Mem} {Q:QD},(∀i,Q (.int i) M)->phi T (n-1) fm [.int x,.int k] M Q)(J:2<=n){k:Int}(h0:0<=k)(q:∀p x y,M p=Z->Q (.ref p) (ad M p (.lst [.int x,.int y,.int 0]))):phi T n f [.con (ns.map D.int),.int k] M Q:=by
 refine ao ∅ hf rfl (ρ:=[E _,E _,Z]) rfl ?_
 unfold sF;nofun;refine zY z ∅ h0 λi=>?_
 nofun;refine⟨by decide,by decide,by decide,fF ?_,?_⟩
 ·split<;>lia
 refine B λj=>?_;exact⟨by rw[z4];lia,λp F=>q p _ _ F⟩
noncomputable def oy(s:Stmt)(fm:Nat):FD:=⟨"_law_take",s,["_law_box_here","_law_many","_law_found","_law_reach"],2,
 (.cons (.ite (.cmp .gt (.ix (.var 0) (.int 0)) (.int 0)) (.cons (.asg (.name 2) (.bin .mod (.ix (.var 0) (.int 0)) (.var 1)))
 (.cons (.put (.var 0) (.int 0) (.bin .fdiv (.ix (.var 0) (.int 0)) (.var 1)))
 (.cons (.ret (.var 2))
 .nil))) .nil)
 (.cons (.asg (.tup (.cons (.name 2) (.cons (.name 3) .nil))) (.tup (.cons (.int 0) (.cons (.int 1) .nil))))
 (.cons (.while (.cmp .lt (.var 3) (.var 1)) (.cons (.put (.var 0) (.int 2) (.bin .add (.ix (.var 0) (.int 2)) (.int 1)))
 (.cons (.asg (.name 2) (.bin .add (.bin .mul (.var 2) (.int 33554432)) (.call fm (.cons (.ix (.var 0) (.int 1)) (.cons (.ix (.var 0) (.int 2)) .nil)))))
 (.cons (.asg (.name 3) (.bin .mul (.var 3) (.int 33554432)))
 .nil))))
 (.cons (.ret (.bin .mod (.var 2) (.var 1)))
 .nil))))⟩
def sH(T:List FD)(n fm:Nat):Prop:=∀{x k:Int} {M:Mem} {Q:QD},(∀i,Q (.int i) M)->phi T n fm [.int x,.int k] M Q
theorem zZ{fm:Nat}(hf:T[f]?=E (oy s fm)){n:Nat}(L:sH T (n-1) fm)(U:2<=n){m:Int}(O:Box b M)(h1:0<m)(h2:m<=2^140)(q:∀r M',0<=r->r<m->Bx b M M'->Q (.int r) M'):phi T n f [.ref b,.int m] M Q:=by
 refine ao ∅ hf rfl (ρ:=[E _,E _,Z,Z]) rfl ?_
 unfold oy;obtain⟨x,y,z,J⟩:=O;nofun;refine av J (d:=.int x) rfl ?_;simp only[Dn];ac_nf
 split
 ·next hx=>
  nofun;refine av J (d:=.int x) rfl ?_;ac_nf;refine⟨h1,?_⟩;nofun;refine av J (d:=.int x) rfl ?_;ac_nf;refine⟨h1,∅,?_⟩
  refine bE J (j:=0) rfl ?_;nofun;exact q _ _ (Jk _ ∅) (IX _ h1) Bx.put
 ·next hx=>
  nofun;refine⟨by rw[z4];lia,?_⟩
  nofun;refine⟨7,?_⟩;have go:∀(f:Nat) (found reach z:Int) (M':Mem),m<=reach*33554432^f->M' b=E (.lst [.int x,.int y,.int z])->Bx b M M'->
   aV (jO (wOp wLt (br 3) (br 1))) (wSs (phi T (n-1)) (MSs.cons (MS.put (ME.var 0) (ME.int 2) (ME.bin BOp.add ((ME.var 0).ix (ME.int 2)) (ME.int 1)))
    (MSs.cons (MS.asg (MG.name 2) (ME.bin BOp.add (ME.bin BOp.mul (ME.var 2) (ME.int 33554432)) (ME.call fm (MEs.cons ((ME.var 0).ix (ME.int 1)) (MEs.cons ((ME.var 0).ix (ME.int 2)) MEs.nil)))))
      (MSs.cons (MS.asg (MG.name 3) (ME.bin BOp.mul (ME.var 3) (ME.int 33554432))) MSs.nil))))
    {nx:=wSs (phi T (n-1)) (MSs.cons (MS.ret (ME.bin BOp.mod (ME.var 2) (ME.var 1))) MSs.nil) {nx:=λx M'=>Q D.non M',rt:=Q},rt:=Q} (f+1) [E (.ref b),E (.int m),E (.int found),E (.int reach)] M':=by
   intro f
   induction f with
   |zero=>
    intro found reach z M' hm F B;simp only[aV];ac_nf;rw[if_neg ∅]
    nofun;exact⟨h1,q _ _ (Jk _ ∅) (IX _ h1) B⟩
   |succ f ih=>
    intro found reach z M' hm F B;rw[aV];ac_nf
    split
    ·next Y=>
     nofun;refine av F (d:=.int z) rfl ?_;ac_nf;refine bE F (j:=2) rfl ?_;nofun;refine⟨fF (by decide),?_⟩
     refine av aa (d:=.int y) rfl ?_;refine av aa (d:=.int (z+1)) rfl ?_;refine L λi=>?_;ac_nf;nofun;refine⟨fF (by decide),?_⟩
     exact ih _ _ (z+1) _ (by rw[LL,<-Int.pow_succ'];exact hm) aa (B.trans Bx.put)
    ·nofun;exact⟨h1,q _ _ (Jk _ ∅) (IX _ h1) B⟩
  exact go 6 0 1 z M ∅ J (Bx.refl ⟨x,y,z,J⟩)
def uT(T:List FD)(n f:Nat):Prop:=∀{b:SS} {m:Int} {M:Mem} {Q:QD},Box b M->0<m->m<=2^140->(∀r M',0<=r->r<m->Bx b M M'->Q (.int r) M')->phi T n f [.ref b,.int m] M Q
end
section
variable{T:List FD}
def oz(T:List FD)(n f:Nat):Prop:=∀{b:SS} {M:Mem} {Q:QD},Box b M->(∀r M',-1000<=r->r<=1000->Bx b M M'->Q (.int r) M')->phi T n f [.ref b] M Q
def dC(ns:List Int):Prop:=∀x∈ns,-1000<=x/\x<=1000
theorem dD{lo:Int}{n:Nat}:(ce lo n).length=n:=by simp[ce]
theorem af{α:Type}{xs l r:List α}{x:α}(e:xs=l++x::r):l.length<xs.length:=by rw[e];simp
theorem uU{α:Type}{xs l r:List α}{x:α}(e:xs=l++x::r):xs[l.length]?=E x:=by rw[e];simp
noncomputable def oA(s:Stmt)(fn:Nat):FD:=⟨"_law_part",s,["_law_box_here","_law_length"],2,
 (.cons (.ret (.blt .tuple (.cons (.comp [Z,(E 0)] ["_law_k","_law_box_here"] (.last (.rng1 (.var 1)) (.name 0) .nil (.call fn (.cons (.var 1) .nil)))) .nil)))
 .nil)⟩
theorem A0{fn:Nat}(hf:T[f]?=E (oA s fn)){n:Nat}(B:oz T (n-1) fn)(F2:1<=n){L:Nat}(hL:L<=1000)(F:Box b M)(q:∀(ns:List Int) M',ns.length=L->dC ns->Bx b M M'->Q (.tup (ns.map .int)) M'):phi T n f [.ref b,.int L] M Q:=by
 refine ao ∅ hf rfl (ρ:=[E _,E _]) rfl ?_
 unfold oA;nofun;refine⟨∅,∅,?_⟩
 refine uS (I:=λl ρ M' acc=>∃(ns:List Int) (x:Option D),acc=ns.map .int/\ns.length=l.length/\dC ns/\Bx b M M'/\ρ=[x,E (.ref b)]) ⟨[],Z,rfl,rfl,λ_ h=>by simp at h,Bx.refl F,rfl⟩ (λ_ _ _ _ _=>trivial) ?_ ?_
 ·rintro l x r ρ M1 acc e ⟨ns,o,rfl,j,hs,z,rfl⟩;refine⟨_,rfl,λN' J=>?_⟩;ac_nf;refine B z.box λv M2 h1 h2 O=>?_;have:=af e;rw[dD]at this;refine⟨by rw[hG,j,z4];lia,J _ _ _ ⟨ns++[v],_,by simp,by simp[j],?_,z.trans O,rfl⟩⟩
  intro y U
  rcases Ie.mp U with h|h
  ·exact hs y h
  ·simp at h;subst h;exact⟨h1,h2⟩
 ·rintro ρ M1 acc ⟨ns,o,rfl,j,hs,z,rfl⟩ p Y;rw[dD]at j;refine⟨_,ns.map .int,rfl,ab aa,q ns _ ∅ hs (z.ge (Ge.new Y))⟩
noncomputable abbrev Pr:=List Int×List Int×List Int
noncomputable def prD(p:Pr):D:=.tup [.tup (p.1.map .int),.tup (p.2.1.map .int),.tup (p.2.2.map .int)]
noncomputable def xG(p:Pr):Js:=.tuple [.tuple (p.1.map .int),.tuple (p.2.1.map .int),.tuple (p.2.2.map .int)]
structure ki(L0 L1 L2:Nat)(p:Pr):Prop where
 l0:p.1.length=L0
 l1:p.2.1.length=L1
 l2:p.2.2.length=L2
 s0:dC p.1
 s1:dC p.2.1
 s2:dC p.2.2
theorem qq{k:Nat}{M:Mem}:∀ns:List Int,aE (rb k M) (ns.map D.int)=E (ns.map PyData.int)
 |[]=>rfl
 |x::r=>by
  have e:rb k M (.int x)=E (.int x):=by cases k<;>rfl
  simp[aE,e,qq r]
theorem Dx{k:Nat}(p:Pr):rb (k+2) M (prD p)=E (xG p):=by simp[rb,prD,xG,aE,qq]
theorem uV{k:Nat}{M:Mem}:∀ps:List Pr,aE (rb (k+2) M) (ps.map prD)=E (ps.map xG)
 |[]=>rfl
 |p::r=>by simp[aE,Dx,uV r]
theorem uW{k:Nat}(h:M a=E (.lst ds)):rb (k+1) M (.ref a)=(aE (rb k M) ds).map Rm:=by simp only[rb,h]
theorem iC{s:MS}{r:MSs}(I:am->Mem->Prop)(h1:∀R:am->Mem->Prop,(∀ρ M,I ρ M->R ρ M)->wS Φ s {fv with nx:=R} ρ M)(h2:∀ρ M,I ρ M->wSs Φ r fv ρ M):wSs Φ (.cons s r) fv ρ M:=by rw[cP];exact h1 _ h2
theorem Bx.upd{q:SS}(h:Bx b M M')(B:M q=Z)(j:q≠b):Bx b M (ad M' q o):=
 ⟨by obtain⟨x,y,z,e⟩:=h.box;exact⟨x,y,z,by rw[ax j.symm];exact e⟩,fun u o' nu eu=>by rw[ax (λz=>by rw[z,B]at eu;cases eu)];exact h.keep u o' nu eu⟩
theorem Bx.none{q:SS}(h:Bx b M M')(z:M' q=Z)(j:q≠b):M q=Z:=by
 cases e:M q with
 |none=>rfl
 |some o=>rw[h.keep q o j e]at z;cases z
noncomputable def prL(p:Pr):List D:=[.tup (p.1.map .int),.tup (p.2.1.map .int),.tup (p.2.2.map .int)]
theorem gn{k:Nat}:dC (HN k 0):=λx h=>by rw[(List.mem_replicate.mp h).2];decide
theorem kj{k:Nat}:(HN k [D.int 0]).flatten=(HN k (0:Int)).map D.int:=by
 induction k with
 |zero=>rfl
 |succ k ih=>rw[Jx,K0,ih];rfl
def uX(T:List FD)(n f:Nat):Prop:=∀{b:SS} {L:Nat} {M:Mem} {Q:QD},L<=1000->Box b M->(∀(ns:List Int) M',ns.length=L->dC ns->Bx b M M'->Q (.tup (ns.map .int)) M')->phi T n f [.ref b,.int L] M Q
noncomputable def iD(s:Stmt)(ft fp:Nat):FD:=⟨"_law_scheme",s,["_law_box_here","_law_lengths","_law_count","_law_products","_law_k","_law_product","_law_way","_law_side"],3,
 (.cons (.asg (.name 3) (.lst .nil))
 (.cons (.for (.name 4) (.rng1 (.var 2)) (.cons (.asg (.name 5) (.comp [Z,(E 0)] ["_law_length","_law_box_here"] (.last (.seq (.var 1)) (.name 0) .nil (.call fp (.cons (.var 1) (.cons (.var 0) .nil))))))
 (.cons (.asg (.name 6) (.call ft (.cons (.var 0) (.cons (.int 8) .nil))))
 (.cons (.ite (.and (.cons (.cmp .lt (.var 6) (.int 3)) (.cons (.cmp .ne (.var 3) (.lst .nil)) .nil))) (.cons (.put (.var 5) (.var 6) (.ix (.ix (.var 3) (.call ft (.cons (.var 0) (.cons (.blt .len (.cons (.var 3) .nil)) .nil)))) (.var 6)))
 .nil) .nil)
 (.cons (.ite (.cmp .eq (.var 6) (.int 3)) (.cons (.asg (.name 7) (.call ft (.cons (.var 0) (.cons (.int 3) .nil))))
 (.cons (.put (.var 5) (.var 7) (.bin .mul (.tup (.cons (.int 0) .nil)) (.ix (.var 1) (.var 7))))
 .nil)) .nil)
 (.cons (.drop (.meth .append (.var 3) (.blt .tuple (.cons (.var 5) .nil))))
 .nil))))))
 (.cons (.ret (.bin .add (.blt .tuple (.cons (.var 1) .nil)) (.tup (.cons (.var 3) .nil))))
 .nil)))⟩
theorem uY{ft fp:Nat}(hf:T[f]?=E (iD s ft fp)){n:Nat}(GB:uT T (n-1) ft)(GC:uX T (n-1) fp)(hn:1<=n){c:Nat}(h0:L0<=1000)(h1:L1<=1000)(h2:L2<=1000)(hc:c<=1000)(hb:Box b M)(Gr:a≠b)(ha:M a=E (.lst [.int L0,.int L1,.int L2]))(q:∀(ps:List Pr) pr M',ps.length=c->(∀p∈ps,ki L0 L1 L2 p)->Bx b M M'->M pr=Z->M' pr=E (.lst (ps.map prD))->Q (.tup [.int L0,.int L1,.int L2,.ref pr]) M'):phi T n f [.ref b,.ref a,.int c] M Q:=by
 refine ao ∅ hf rfl (ρ:=[E _,E _,E _,Z,Z,Z,Z,Z]) rfl ?_
 unfold iD;nofun;refine⟨∅,λpr Gu=>?_⟩
 have Y:pr≠b:=λz=>by obtain⟨x,y,w,e⟩:=hb;rw[<-z,Gu]at e;cases e
 have GS:pr≠a:=λz=>by rw[<-z,Gu]at ha;cases ha
 nofun;refine⟨∅,∅,?_⟩
 refine xF (I:=λl ρ M'=>∃(ps:List Pr) (o4 o5 o6 o7:Option D),ρ=[E (.ref b),E (.ref a),E (.int c),E (.ref pr),o4,o5,o6,o7]/\ps.length=l.length/\(∀p∈ps,ki L0 L1 L2 p)/\Bx b M M'/\M' pr=E (.lst (ps.map prD)))
  ⟨[],Z,Z,Z,Z,rfl,rfl,λ_ h=>by simp at h,Bx.of hb (Ge.new Gu),aa⟩ (λ_ _ _ _=>trivial) ?_ ?_
 ·rintro l x r ρ M1 e ⟨ps,o4,o5,o6,o7,rfl,hl,hp,x1,GD⟩;have GL:=af e;rw[dD]at GL;refine⟨_,rfl,λF hF=>?_⟩;ac_nf;have Gv:=x1.keep a _ Gr ha;rw[cP];ac_nf;refine⟨_,ab Gv,?_⟩;simp only[aZ];refine⟨ab Gv,_,rfl,?_⟩;ac_nf;refine GC h0 x1.box λn0 M2 l0 s0 x2=>?_;have GE:=x2.keep a _ Gr Gv;refine⟨by simp[z4],ab GE,?_⟩
  refine GC h1 x2.box λn1 M3 l1 s1 x3=>?_;have GF:=x3.keep a _ Gr GE;refine⟨by simp[z4],ab GF,?_⟩
  refine GC h2 x3.box λn2 M4 l2 s2 x4=>?_;have Gy:=x4.keep a _ Gr GF;refine⟨by simp[z4],ab Gy,λpq Gs=>?_⟩
  have Gq:=x4.keep pr _ Y (x3.keep pr _ Y (x2.keep pr _ Y GD));have x5:=((x1.trans x2).trans (x3.trans x4)).ge (Ge.new (o:=.lst ([]++[D.tup (K7 D.int n0)]++[D.tup (K7 D.int n1)]++[D.tup (K7 D.int n2)])) Gs);have L:pq≠b:=λz=>by obtain⟨x,y,w,e⟩:=x4.box;rw[<-z,Gs]at e;cases e
  have O:M pq=Z:=((x1.trans x2).trans (x3.trans x4)).none Gs L;have F2:pr≠pq:=λz=>by rw[z,Gs]at Gq;cases Gq
  have GT:a≠pq:=λz=>by rw[z,Gs]at Gy;cases Gy
  have Gz:ad M4 pq (.lst ([]++[D.tup (K7 D.int n0)]++[D.tup (K7 D.int n1)]++[D.tup (K7 D.int n2)])) pr=E (.lst (ps.map prD)):=by rw[ax F2];exact Gq
  have GG:ad M4 pq (.lst ([]++[D.tup (K7 D.int n0)]++[D.tup (K7 D.int n1)]++[D.tup (K7 D.int n2)])) pq=E (.lst (prL (n0,n1,n2))):=aa;have hok:ki L0 L1 L2 (n0,n1,n2):=⟨l0,l1,l2,s0,s1,s2⟩;generalize ad M4 pq (.lst ([]++[D.tup (K7 D.int n0)]++[D.tup (K7 D.int n1)]++[D.tup (K7 D.int n2)]))=M5 at x5 Gz GG;generalize hP:(n0,n1,n2)=p0 at hok GG;clear Gs Gq x4 Gy x3 GF x2 GE hP;nofun;refine GB x5.box (by decide) (by decide) λway M6 w0 w1 x6=>?_
  have Gw:=x6.keep pr _ Y Gz;have GI:=x6.keep pq _ L GG;have GJ:=x5.trans x6;refine iC (I:=λρ' M'=>ρ'=[E (.ref b),E (.ref a),E (.int c),E (.ref pr),E x,E (.ref pq),E (.int way),o7]/\∃p:Pr,ki L0 L1 L2 p/\Bx b M M'/\M' pr=E (.lst (ps.map prD))/\M' pq=E (.lst (prL p))) (λR hR=>?_) ?_
  ·ac_nf
   split
   ·next hw=>
    refine⟨∅,λGU GK=>?_⟩
    have g:=Ge.new (o:=.lst []) GK;refine⟨_,_,uW (g _ _ Gw) |>.trans (by rw[uV];rfl),uW aa,?_⟩
    ac_nf;have x7:=GJ.ge g;have U:=g _ _ Gw;have Gx:=g _ _ GI
    split
    ·next GM=>
     have GR:0<ps.length:=by
      cases ps with
      |nil=>simp[Jz,N8]at GM
      |cons p r=>simp
     nofun;refine qp U ?_;refine GB x7.box (by rw[hG];lia) (by rw[hG];lia) λr M8 r0 r1 x8=>?_
     have J:=x8.keep pr _ Y U;have Gp:=x8.keep pq _ L Gx;obtain⟨d,e1,e2⟩:=iB r0 r1;refine av J e1 ?_;rw[I8]at e2
     cases e3:ps[r.toNat]? with
     |none=>rw[e3]at e2;cases e2
     |some pp=>
      rw[e3]at e2;cases e2;have ho:=hp pp (Ib e3);have GN:way=0∨way=1∨way=2:=∅
      have x9:=x7.trans x8
      rcases GN with rfl|rfl|rfl
      ·refine⟨_,_,rfl,rfl,bE Gp (j:=0) rfl ?_⟩;exact hR _ _ ⟨rfl,(pp.1,p0.2.1,p0.2.2),⟨ho.l0,hok.l1,hok.l2,ho.s0,hok.s1,hok.s2⟩,x9.upd O L,by rw[ax F2];exact J,aa⟩
      ·refine⟨_,_,rfl,rfl,bE Gp (j:=1) rfl ?_⟩;exact hR _ _ ⟨rfl,(p0.1,pp.2.1,p0.2.2),⟨hok.l0,ho.l1,hok.l2,hok.s0,ho.s1,hok.s2⟩,x9.upd O L,by rw[ax F2];exact J,aa⟩
      ·refine⟨_,_,rfl,rfl,bE Gp (j:=2) rfl ?_⟩;exact hR _ _ ⟨rfl,(p0.1,p0.2.1,pp.2.2),⟨hok.l0,hok.l1,ho.l2,hok.s0,hok.s1,ho.s2⟩,x9.upd O L,by rw[ax F2];exact J,aa⟩
    ·exact hR _ _ ⟨rfl,p0,hok,x7,U,Gx⟩
   ·exact hR _ _ ⟨rfl,p0,hok,GJ,Gw,GI⟩
  ·rintro ρ M7 ⟨rfl,p,B,x7,U,Gx⟩;refine iC (I:=λρ' M'=>∃(o7:Option D),ρ'=[E (.ref b),E (.ref a),E (.int c),E (.ref pr),E x,E (.ref pq),E (.int way),o7]/\∃p:Pr,ki L0 L1 L2 p/\Bx b M M'/\M' pr=E (.lst (ps.map prD))/\M' pq=E (.lst (prL p))) (λR hR=>?_) ?_
   ·ac_nf
    split
    ·nofun;refine GB x7.box (by decide) (by decide) λside M8 d0 d1 x8=>?_
     have J:=x8.keep pr _ Y U;have Gp:=x8.keep pq _ L Gx;have x9:=x7.trans x8;have GH:=x9.keep a _ Gr ha;nofun;refine⟨by rw[z4];lia,?_⟩
     have GO:side=0∨side=1∨side=2:=∅
     rcases GO with rfl|rfl|rfl
     ·refine av GH (d:=.int L0) rfl ?_;ac_nf;refine⟨∅,∅,by rw[z4];lia,bE Gp (j:=0) rfl ?_⟩
      rw[kj];exact hR _ _ ⟨_,rfl,(HN (L0:Int).toNat 0,p.2.1,p.2.2),⟨by simp,B.l1,B.l2,gn,B.s1,B.s2⟩,x9.upd O L,by rw[ax F2];exact J,aa⟩
     ·refine av GH (d:=.int L1) rfl ?_;ac_nf;refine⟨∅,∅,by rw[z4];lia,bE Gp (j:=1) rfl ?_⟩
      rw[kj];exact hR _ _ ⟨_,rfl,(p.1,HN (L1:Int).toNat 0,p.2.2),⟨B.l0,by simp,B.l2,B.s0,gn,B.s2⟩,x9.upd O L,by rw[ax F2];exact J,aa⟩
     ·refine av GH (d:=.int L2) rfl ?_;ac_nf;refine⟨∅,∅,by rw[z4];lia,bE Gp (j:=2) rfl ?_⟩
      rw[kj];exact hR _ _ ⟨_,rfl,(p.1,p.2.1,HN (L2:Int).toNat 0),⟨B.l0,B.l1,by simp,B.s0,B.s1,gn⟩,x9.upd O L,by rw[ax F2];exact J,aa⟩
    ·exact hR _ _ ⟨_,rfl,p,B,x7,U,Gx⟩
   ·rintro ρ M9 ⟨GW,rfl,p,B,x9,GA,GP⟩;nofun;refine⟨⟨_,GA⟩,_,_,rfl,ab GP,_,_,_,rfl,rfl,GA,by rw[hG,z4];lia,?_⟩
    ac_nf;exact hF _ _ ⟨ps++[p],_,_,_,_,rfl,by simp[hl],λp' GQ=>(Ie.mp GQ).elim (hp p') λz=>by simp at z;subst z;exact B,x9.upd Gu Y,by rw[aa];simp[prD,prL]⟩
 ·rintro ρ M1 ⟨ps,o4,o5,o6,o7,rfl,hl,hp,x1,GD⟩;have Gv:=x1.keep a _ Gr ha;dsimp only;nofun;refine⟨_,_,rfl,ab Gv,by rw[z4];lia,?_⟩
  ac_nf;rw[dD]at hl;exact⟨by simp,by rw[z4];lia,q ps pr M1 ∅ hp x1 Gu GD⟩
end
section
theorem ah{α:Type}{f:α->D}{b:BT}{chk:Mem->Prop}{N:NC}(I:List α->am->Mem->List D->Prop){ys:List α}(hx:xs=ys.map f){acc:List D}(h0:I [] ρ M acc)(z:∀l ρ M acc,I l ρ M acc->chk M)(hs:∀l x r ρ M acc,ys=l++x::r->I l ρ M acc->∃ρ',b (f x) ρ=E ρ'/\∀N':NC,(∀ρ2 M2 j,I (l++[x]) ρ2 M2 j->N' ρ2 M2 j)->tb ρ' M acc N')(B:∀ρ M acc,I ys ρ M acc->N ρ M acc):aZ b tb chk N xs ρ M acc:=by
 subst hx;have g:∀(r l:List α) (ρ:am) (M:Mem) (acc:List D),ys=l++r->I l ρ M acc->aZ b tb chk N (r.map f) ρ M acc:=by
  intro r
  induction r with
  |nil=>intro l ρ M acc e i;rw[Jt]at e;subst e;exact⟨z _ _ _ _ i,B _ _ _ i⟩
  |cons x r ih=>intro l ρ M acc e i;obtain⟨ρ',F,h⟩:=hs l x r ρ M acc e i;exact⟨z _ _ _ _ i,ρ',F,h _ λρ2 M2 j J=>ih (l++[x]) ρ2 M2 j (by rw[e];simp) J⟩
 exact g ys [] ρ M acc rfl h0
theorem aI{α:Type}{f:α->D}{b:BT}{tb:TSd}{chk:Mem->Prop}(I:List α->am->Mem->Prop){ys:List α}(hx:xs=ys.map f)(h0:I [] ρ M)(j:∀l ρ M,I l ρ M->chk M)(hs:∀l x r ρ M,ys=l++x::r->I l ρ M->∃ρ',b (f x) ρ=E ρ'/\∀F:am->Mem->Prop,(∀ρ2 M2,I (l++[x]) ρ2 M2->F ρ2 M2)->tb {fv with nx:=F,ct:=F,bk:=fv.nx} ρ' M)(z:∀ρ M,I ys ρ M->fv.nx ρ M):bP b tb chk fv xs ρ M:=by
 subst hx;have g:∀(r l:List α) (ρ:am) (M:Mem),ys=l++r->I l ρ M->bP b tb chk fv (r.map f) ρ M:=by
  intro r
  induction r with
  |nil=>intro l ρ M e i;rw[Jt]at e;subst e;exact⟨j _ _ _ i,z _ _ i⟩
  |cons x r ih=>intro l ρ M e i;obtain⟨ρ',B,h⟩:=hs l x r ρ M e i;exact⟨j _ _ _ i,ρ',B,h _ λρ2 M2 J=>ih (l++[x]) ρ2 M2 (by rw[e];simp) J⟩
 exact g ys [] ρ M rfl h0
theorem bR{x:D}(h:aM M x=E ds):ii M x=E ds.length:=by
 cases x with
 |ref a=>
  simp only[aM]at h
  split at h
  ·next e=>cases h;simp only[ii,e]
  ·cases h
 |tup es=>cases h;rfl
 |con es=>cases h;rfl
 |_=>cases h
theorem bv{α:Type}{xs:List α}{k:Nat}{x:α}(h:xs[k]?=E x):atI xs (k:Int)=E x:=by
 have j:k<xs.length:=(HU.mp h).1;unfold atI ixN;rw[if_pos ∅,if_pos ∅]
 exact h
theorem aK{n:Nat}:ce 0 n=(HV n).map λi=>D.int (i:Nat):=by simp[ce]
end
section
variable{T:List FD}
def Big(ns:List Int):Prop:=∀x∈ns,-1000000000000<=x/\x<=1000000000000
end
section
variable{T:List FD}
noncomputable def oB(x:Str)(s:Stmt):FD:=⟨"_law_mixed",s,[x,"_law_k","_law_once","_law_twice"],2,(kh s).body⟩
theorem uZ(hf:T[f]?=E (oB x s)){n:Nat}(j:1<=n):sH T n f:=by
 intro x k M Q q;refine ao j hf rfl (ρ:=[E _,E _,Z,Z]) rfl ?_;unfold oB kh;nofun;refine⟨by decide,cB (by decide),fF (by decide),by decide,?_⟩
 nofun;refine⟨by decide,cB ?_,by decide,?_⟩
 ·have h1:=Jk ((x%1000000007+7*k+1)*48271) (b:=2147483647) (by decide)
  have h2:=IX ((x%1000000007+7*k+1)*48271) (b:=2147483647) (by decide)
  lia
 nofun;refine⟨fF (by decide),by decide,by decide,by decide,?_⟩
 exact q _
end
section
open L2.Srt
variable{T:List FD}
noncomputable abbrev K3:=Int×Int×Int
noncomputable abbrev Tm:=K3×Int
noncomputable def k3D(k:K3):D:=.tup [.int k.1,.int k.2.1,.int k.2.2]
noncomputable def tmD(t:Tm):D:=.tup [.int t.1.1,.int t.1.2.1,.int t.1.2.2,.int t.2]
noncomputable def kcD(t:Tm):D×D:=(k3D t.1,.int t.2)
noncomputable def k3K(k:K3):Ky:=.tup [.int k.1,.int k.2.1,.int k.2.2]
def klt(a b:K3):Prop:=ltK (k3K a) (k3K b)=N2
theorem gP{a b:K3}(h:k3D a=k3D b):a=b:=by obtain⟨a1,a2,j⟩:=a;obtain⟨b1,b2,b3⟩:=b;simp[k3D]at h;simp[h]
theorem A1{a b:K3}(h:k3K a=k3K b):a=b:=by obtain⟨a1,a2,j⟩:=a;obtain⟨b1,b2,b3⟩:=b;simp[k3K]at h;simp[h]
noncomputable def cf(ts:List Tm)(k:K3):Int:=((ts.filter λt=>decide (t.1=k)).map (·.2)).sum
theorem bU{k:K3}:cf [] k=0:=rfl
theorem aB{t:Tm}{ts:List Tm}{k:K3}:cf (t::ts) k=(if t.1=k then t.2 else 0)+cf ts k:=by
 unfold cf
 by_cases h:t.1=k
 ·rw[ID (by simpa using h),if_pos h];simp
 ·rw[IQ (by simpa using h),if_neg h];simp
theorem aQ{a b:List Tm}{k:K3}:cf (a++b) k=cf a k+cf b k:=by
 induction a with
 |nil=>simp[bU]
 |cons t a ih=>rw[Oy,aB,aB,ih];lia
theorem A2{a b:List Tm}(h:a.Perm b){k:K3}:cf a k=cf b k:=by
 induction h with
 |nil=>rfl
 |cons x h ih=>rw[aB,aB,ih]
 |swap x y l=>simp only[aB];lia
 |trans _ _ j z=>rw[j,z]
theorem cQ{ts:List Tm}{k:K3}(h:∀t∈ts,t.1≠k):cf ts k=0:=by
 induction ts with
 |nil=>rfl
 |cons t ts ih=>rw[aB,if_neg (h t (by simp)),ih λu j=>h u (by simp[j])];rfl
theorem BV{ts:List Tm}(j:(ts.map (·.1)).Nodup){t:Tm}(B:t∈ts):cf ts t.1=t.2:=by
 induction ts with
 |nil=>simp at B
 |cons u ts ih=>
  simp only[Ii,JK]at j;rw[aB]
  rcases Ij.mp B with z|z
  ·subst z;rw[if_pos rfl,cQ λv F e=>j.1 (by rw[<-e];exact Iz F)]
   lia
  ·rw[if_neg λe=>j.1 (by rw[e];exact Iz z),ih j.2 z];lia
noncomputable def dk(L:List Tm)(k:K3)(c:Int):List Tm:=if(L.any λp=>decide (p.1=k))=N2 then L.map λp=>if p.1=k then(p.1,p.2+c)else p else L++[(k,c)]
theorem kl{L:List Tm}{k:K3}:dget (L.map kcD) (k3D k)=(L.find? λp=>decide (p.1=k)).map λp=>.int p.2:=by
 unfold dget
 induction L with
 |nil=>rfl
 |cons t L ih=>
  by_cases h:t.1=k
  ·rw[Ii,MP (by simp[kcD,h]),MP (by simpa using h)];rfl
  ·rw[Ii,Lx (by simp only[decide_eq_true_eq];exactλe=>h (gP e)),Lx (by simpa using h),ih]
theorem v4{L:List Tm}{k:K3}:((L.map kcD).any λp=>decide (p.1=k3D k))=L.any λp=>decide (p.1=k):=by
 induction L with
 |nil=>rfl
 |cons t L ih=>
  rw[Ii,LK,LK,ih];congr 1
  by_cases h:t.1=k
  ·simp[kcD,h]
  ·rw[decide_eq_false h];exact decide_eq_false (λe=>h (gP e))
theorem qr{L:List Tm}(j:(L.map (·.1)).Nodup){k:K3}:cz (L.map kcD) (k3D k) (.int ((((L.find? λp=>decide (p.1=k)).map (·.2)).getD 0)+c))=(dk L k c).map kcD:=by
 unfold cz dk;rw[v4]
 split
 ·next h=>
  rw[Jr,Jr];apply Jh;intro t B;simp only[Q9]
  by_cases e:t.1=k
  ·rw[if_pos (by rw[<-e];rfl),if_pos e]
   have:L.find? (λp=>decide (p.1=k))=E t:=by
    clear h
    induction L with
    |nil=>simp at B
    |cons u L ih=>
     simp only[Ii,JK]at j
     rcases Ij.mp B with z|z
     ·subst z;rw[MP (by simpa using e)]
     ·rw[Lx (by simp;intro F;exact j.1 (by rw[F,<-e];exact Iz z))]
      exact ih j.2 z
   rw[this];rfl
  ·rw[if_neg (c:=(kcD t).1=k3D k) (λz=>e (gP z)),if_neg e]
 ·next h=>
  have:L.find? (λp=>decide (p.1=k))=Z:=by rw[List.find?_eq_none];intro x hx;simp only[decide_eq_true_eq];intro e;exact h (LY.mpr ⟨x,hx,by simpa using e⟩)
  rw[this];simp[kcD]
theorem lJ{L:List Tm}{k:K3}:(dk L k c).map (·.1)=if(L.any λp=>decide (p.1=k))=N2 then L.map (·.1)else L.map (·.1)++[k]:=by
 unfold dk
 split
 ·rw[Jr];apply Jh;intro t _;simp only[Q9]
  split<;>rfl
 ·simp
theorem sJ{L:List Tm}(j:(L.map (·.1)).Nodup){k:K3}:((dk L k c).map (·.1)).Nodup:=by
 rw[lJ]
 split
 ·exact j
 ·next h=>
  refine MQ.mpr ⟨j,by simp,λa B b z e=>?_⟩
  simp at z;subst z;subst e;obtain⟨t,F,e⟩:=HQ.mp B;exact h (LY.mpr ⟨t,F,by simpa using e⟩)
theorem xH{L:List Tm}{k a:K3}(h:a∈(dk L k c).map (·.1)):a∈L.map (·.1)∨a=k:=by
 rw[lJ]at h
 split at h
 ·exact .inl h
 ·rcases Ie.mp h with z|z
  ·exact .inl z
  ·exact .inr (by simpa using z)
theorem xI{L:List Tm}{k:K3}:(dk L k c).length<=L.length+1:=by unfold dk;split<;>simp
theorem A3{L:List Tm}(j:(L.map (·.1)).Nodup){k a:K3}:cf (dk L k c) a=cf L a+if k=a then c else 0:=by
 unfold dk
 split
 ·next h=>
  obtain⟨t,B,e⟩:=LY.mp h;have e:t.1=k:=by simpa using e
  clear h
  induction L with
  |nil=>simp at B
  |cons u L ih=>
   simp only[Ii,JK]at j;rw[Ii,aB,aB]
   by_cases eu:u.1=k
   ·have rest:(L.map fun p=>if p.1=k then(p.1,p.2+c)else p)=L:=by
     conv=>rhs;rw[<-Rp L]
     apply Jh;intro p F;rw[if_neg λz=>j.1 (by rw[eu,<-z];exact Iz F)];rfl
    rw[rest,if_pos eu];dsimp only
    by_cases ea:u.1=a
    ·rw[if_pos ea,if_pos ea,if_pos (by rw[<-eu];exact ea)];lia
    ·rw[if_neg ea,if_neg ea,if_neg (by rw[<-eu];exact ea)];lia
   ·rcases Ij.mp B with z|z
    ·exact absurd (by rw[<-z];exact e) eu
    ·rw[ih j.2 z,if_neg eu];lia
 ·rw[aQ,aB,bU];simp
noncomputable def aL(ts:List Tm):List Tm:=ts.foldl (λL t=>dk L t.1 t.2) []
theorem cD{ts:List Tm}{t:Tm}:aL (ts++[t])=dk (aL ts) t.1 t.2:=by simp[aL]
theorem ed{α:Type}{P:List α->Prop}(h0:P [])(h1:∀l x,P l->P (l++[x]))(l:List α):P l:=by
 have:∀r:List α,P r.reverse:=by
  intro r
  induction r with
  |nil=>exact h0
  |cons x r ih=>rw[LO];exact h1 _ _ ih
 have:=this l.reverse;rw[List.reverse_reverse]at this;exact this
theorem cK(ts:List Tm):((aL ts).map (·.1)).Nodup:=ed (P:=λts=>((aL ts).map (·.1)).Nodup) (by simp[aL]) (λl x ih=>by rw[cD];exact sJ ih) ts
theorem qt(ts:List Tm)(k:K3):cf (aL ts) k=cf ts k:=ed (P:=λts=>cf (aL ts) k=cf ts k) rfl (λl x ih=>by rw[cD,A3 (cK l),ih,aQ,aB,bU];lia) ts
theorem fG(ts:List Tm):(aL ts).length<=ts.length:=ed (P:=λts=>(aL ts).length<=ts.length) (by simp[aL]) (λl x ih=>by rw[cD];have:=xI (L:=aL l) (k:=x.1) (c:=x.2);simp;lia) ts
theorem xJ(ts:List Tm):∀a∈(aL ts).map (·.1),a∈ts.map (·.1):=ed (P:=λts=>∀a∈(aL ts).map (·.1),a∈ts.map (·.1)) (by simp[aL]) (λl x ih a j=>by
 rw[cD]at j;rw[HS]
 rcases xH j with z|z
 ·exact Km _ (ih a z)
 ·exact Iw _ (by simp[z])) ts
theorem yq{ts:List Tm}{k:K3}:Mi.cf (ts.filter λt=>!(t.2==0)) k=Mi.cf ts k:=by
 induction ts with
 |nil=>rfl
 |cons t ts ih=>
  rw[aB]
  by_cases h:t.2=0
  ·rw[IQ (by simp[h]),ih,h];split<;>lia
  ·rw[ID (by simp[h]),aB,ih]
theorem Ge.upd{j:Mem}(g:Ge M j)(hd:M d=Z):Ge M (ad j d o):=λa o' e=>by rw[ax (λz=>by rw[z,hd]at e;cases e)];exact g _ _ e
end
section
open L2.Srt
variable{T:List FD}
noncomputable def gi(l:List Int)(i:Int):Int:=l.getD i.toNat 0
theorem iE(h0:0<=i)(h1:i<l.length):atI (l.map D.int) i=E (.int (gi l i)):=by
 obtain⟨k,rfl⟩:∃k:Nat,i=k:=⟨i.toNat,∅⟩
 refine bv ?_;unfold gi;rw[I8,Il,HY,r4 (show k<l.length by lia)];rfl
end
section
open L2.Srt
variable{T:List FD}
noncomputable def xK(L:List Tm)(k:K3)(c:Int):List Tm:=if(L.any λp=>decide (p.1=k))=N2 then L.map (λp=>if p.1=k then(p.1,c)else p)else L++[(k,c)]
theorem xL{L:List Tm}{k:K3}:cz (L.map kcD) (k3D k) (.int c)=(xK L k c).map kcD:=by
 unfold cz xK;rw[v4]
 split
 ·rw[Jr,Jr];refine Jh λp _=>?_;simp only[Q9]
  by_cases h:p.1=k
  ·rw[if_pos h,if_pos (show(kcD p).1=k3D k by show k3D p.1=k3D k;rw[h])];rfl
  ·rw[if_neg h,if_neg (show ¬(kcD p).1=k3D k fromλz=>h (gP z))]
 ·rw[HS];rfl
theorem i8{L:List Tm}(F:(L.map (·.1)).Nodup){ys:List D}(z:ys.Perm ((L.map kcD).map (·.1)))(hs:nR ys):∃rs:List Tm,rs.Perm L/\ys=rs.map (λt=>k3D t.1)/\rs.Pairwise λa b=>klt a.1 b.1:=by
 have J:(L.map kcD).map (·.1)=L.map λt=>k3D t.1:=by rw[Jr];rfl
 rw[J]at z;obtain⟨rs,B,p2⟩:=lu (λt:Tm=>k3D t.1) z rfl;refine⟨rs,B,p2.symm,?_⟩;have j:(rs.map (·.1)).Nodup:=(B.map (·.1)).nodup_iff.mpr F;unfold nR at hs;rw[<-p2,K6]at hs;rw[Jn,K6]at j;refine(hs.and j).imp ?_;rintro a b ⟨h1,h2⟩;unfold klt
 cases O:ltK (k3K a.1) (k3K b.1)with
 |true=>rfl
 |false=>exact absurd (A1 (ln _ _ O h1)) h2
theorem ee{L:List Tm}(j:(L.map (·.1)).Nodup){t:Tm}(B:t∈L):dget (L.map kcD) (k3D t.1)=E (.int t.2):=by
 rw[kl];have:L.find? (λp=>decide (p.1=t.1))=E t:=by
  induction L with
  |nil=>simp at B
  |cons x L ih=>
   simp only[Ii,JK]at j
   rcases Ij.mp B with z|z
   ·subst z;simp
   ·have:x.1≠t.1:=λe=>j.1 (by rw[e];exact Iz z)
    rw[Lx (by simpa using this)]
    exact ih j.2 z
 rw[this];rfl
theorem xM{L:List Tm}(j:(L.map (·.1)).Nodup):si (L.map kcD)=L.map kcD:=by
 have g:∀(r l:List Tm),(((l++r).map (·.1)).Nodup)->(r.map kcD).foldl (λa kv=>cz a kv.1 kv.2) (l.map kcD)=(l++r).map kcD:=by
  intro r
  induction r with
  |nil=>intro l _;simp
  |cons t r ih=>
   intro l h;rw[Ii,JL];have e:cz (l.map kcD) (kcD t).1 (kcD t).2=(l++[t]).map kcD:=by show cz (l.map kcD) (k3D t.1) (.int t.2)=_;rw[xL];unfold xK;rw[if_neg];intro z;obtain⟨p,B,e⟩:=LY.mp z;rw[HS,MQ]at h;exact h.2.2 _ (Iz B) _ (Iz (I0 ..)) (of_decide_eq_true e)
   rw[e,ih (l++[t]) (by rw[IV];exact h)]
   rw[IV];rfl
 have:=g L [] (by simpa using j)
 simpa[si]using this
theorem sK(k:K3):bZ (k3D k)=N2:=rfl
end
section
open L2.Srt
variable{T:List FD}
noncomputable def idx(l:List Int):List (Int×Int):=l.mapIdx λi x=>((i:Nat),x)
noncomputable def nz(l:List Int):List (Int×Int):=(idx l).filter λq=>!(q.2==0)
theorem dP:(idx l).length=l.length:=by simp[idx]
noncomputable def cu(i a j b:Int)(zs:List (Int×Int)):List Tm:=zs.map λz=>((z.1,i,j),a*b*z.2)
noncomputable def cv(i a:Int)(ys zs:List (Int×Int)):List Tm:=ys.flatMap λy=>cu i a y.1 y.2 zs
noncomputable def bS(xs ys zs:List (Int×Int)):List Tm:=xs.flatMap λx=>cv x.1 x.2 ys zs
noncomputable def xN(p:Pr):List Tm:=bS (nz p.1) (nz p.2.1) (nz p.2.2)
noncomputable def oC(ps:List Pr):List Tm:=ps.flatMap xN
theorem oD{a b:Int}:(cu i a j b zs).length=zs.length:=by simp[cu]
theorem oE{a:Int}{ys:List (Int×Int)}:(cv i a ys zs).length=ys.length*zs.length:=by
 unfold cv
 induction ys with
 |nil=>simp
 |cons y ys ih=>rw[Jb,hQ,ih,oD,Iv,J1];lia
theorem oF{xs ys:List (Int×Int)}:(bS xs ys zs).length=xs.length*(ys.length*zs.length):=by
 unfold bS
 induction xs with
 |nil=>simp
 |cons y ys ih=>rw[Jb,hQ,ih,oE,Iv,J1];lia
structure yr(ps:List Pr)(L:List Tm):Prop where
 nd:(L.map (·.1)).Nodup
 nz:∀t∈L,t.2≠0
 cf:∀k,cf L k=cf (oC ps) k
def Od(d:SS)(M M':Mem):Prop:=∀a,a≠d->M' a=M a
theorem Od.refl:Od d M M:=λ_ _=>rfl
theorem Od.trans(h:Od d M M')(g:Od d M' M''):Od d M M'':=λa n=>(g a n).trans (h a n)
theorem Od.upd(h:Od d M M'):Od d M (ad M' d o):=λa n=>(ax n).trans (h a n)
noncomputable abbrev bd(x:Int):Prop:=-1000000000000<=x/\x<=1000000000000
end
section
open L2.Srt
noncomputable def S1(zs:List (Int×Int))(k:Int):Int:=(zs.map λz=>if z.1=k then z.2 else 0).sum
theorem dQ{z:Int×Int}{k:Int}:S1 (z::zs) k=(if z.1=k then z.2 else 0)+S1 zs k:=by simp[S1]
theorem km{α:Type}{F:α->List Tm}{k:K3}:∀l:List α,cf (l.flatMap F) k=(l.map λx=>cf (F x) k).sum
 |[]=>rfl
 |x::l=>by rw[Jb,aQ,km l];simp
theorem qv{i a j b k i' j':Int}:∀{zs:List (Int×Int)},cf (cu i a j b zs) (k,i',j')=if i=i'/\j=j' then a*b*S1 zs k else 0
 |[]=>by simp[cu,bU,S1]
 |z::zs=>by
  rw[show cu i a j b (z::zs)=((z.1,i,j),a*b*z.2)::cu i a j b zs from rfl,aB,qv,dQ]
  by_cases h:i=i'/\j=j'
  ·obtain⟨rfl,rfl⟩:=h
   by_cases B:z.1=k
   ·subst B;simp[Ob]
   ·have:¬((z.1,i,j)=(k,i,j)):=λe=>B (congrArg (·.1) e);rw[if_neg this,if_pos ⟨rfl,rfl⟩,if_pos ⟨rfl,rfl⟩,if_neg B];simp
  ·have:¬((z.1,i,j)=(k,i',j')):=λe=>h ⟨congrArg (·.2.1) e,congrArg (·.2.2) e⟩;rw[if_neg this,if_neg h,if_neg h];rfl
theorem qw{i a k i' j':Int}{zs:List (Int×Int)}:∀{ys:List (Int×Int)},cf (cv i a ys zs) (k,i',j')=if i=i' then a*S1 ys j'*S1 zs k else 0
 |[]=>by simp[cv,bU,S1]
 |y::ys=>by
  rw[show cv i a (y::ys) zs=cu i a y.1 y.2 zs++cv i a ys zs from by simp[cv],aQ,qw,qv,dQ]
  by_cases h:i=i'
  ·subst h
   by_cases j:y.1=j'
   ·subst j;simp[Ob,Oc]
   ·rw[if_neg (λe=>j e.2),if_pos rfl,if_pos rfl,if_neg j];simp
  ·rw[if_neg (λe=>h e.1),if_neg h,if_neg h];rfl
theorem kn{k i' j':Int}{ys zs:List (Int×Int)}:∀{xs:List (Int×Int)},cf (bS xs ys zs) (k,i',j')=S1 xs i'*S1 ys j'*S1 zs k
 |[]=>by simp[bS,bU,S1]
 |x::xs=>by
  rw[show bS (x::xs) ys zs=cv x.1 x.2 ys zs++bS xs ys zs from by simp[bS],aQ,kn,qw,dQ]
  by_cases h:x.1=i'
  ·subst h;simp[Oc]
  ·rw[if_neg h,if_neg h];simp
noncomputable def gz(l:List Int)(i:Int):Int:=if i<0 then 0 else l.getD i.toNat 0
theorem v5(h:i<0):gz l i=0:=if_pos h
theorem v6:gz [] i=0:=by unfold gz;split<;>simp
theorem ko{x:Int}:gz (x::l) i=if i=0 then x else gz l (i-1):=by
 unfold gz
 by_cases h:i<0
 ·rw[if_pos h,if_neg ∅,if_pos ∅]
 ·rw[if_neg h]
  by_cases h0:i=0
  ·subst h0;simp
  ·rw[if_neg h0,if_neg ∅]
   obtain⟨n,rfl⟩:∃n:Nat,i=((n+1:Nat):Int):=⟨(i-1).toNat,∅⟩
   rw[show(((n+1:Nat):Int)-1).toNat=n by lia,Il]
   simp
theorem v7{a b:List Int}:∀{i:Int},gz (a++b) i=if i<a.length then gz a i else gz b (i-a.length):=by
 induction a with
 |nil=>
  intro i
  by_cases h:i<0
  ·rw[if_pos (by simpa using h),OU,v5 h,v5 h]
  ·rw[if_neg (by simpa using h)];simp
 |cons x a ih=>
  intro i;rw[Oy,ko,ko,ih,Iv]
  by_cases h0:i=0
  ·subst h0;rw[if_pos rfl,if_pos rfl,if_pos ∅]
  ·rw[if_neg h0,if_neg h0]
   by_cases h:i<((a.length+1:Nat):Int)
   ·rw[if_pos ∅,if_pos h]
   ·rw[if_neg ∅,if_neg h]
    congr 1;lia
theorem ju(h:gz l i≠0):0<=i/\i<l.length:=by
 unfold gz at h
 by_cases hi:i<0
 ·rw[if_pos hi]at h;exact absurd rfl h
 ·rw[if_neg hi]at h;refine⟨∅,?_⟩
  by_cases hl:i.toNat<l.length
  ·lia
  ·rw[HY,KY ∅]at h;exact absurd rfl h
theorem v8{a b:List (Int×Int)}{k:Int}:S1 (a++b) k=S1 a k+S1 b k:=by simp[S1]
theorem jv{k:Int}:∀zs:List (Int×Int),S1 (zs.filter λq=>!(q.2==0)) k=S1 zs k
 |[]=>rfl
 |z::zs=>by
  rw[dQ]
  by_cases h:z.2=0
  ·rw[IQ (by simp[h]),jv zs,h];simp
  ·rw[ID (by simp[h]),dQ,jv zs]
theorem eR(l:List Int)(k:Int):S1 (idx l) k=gz l k:=ed (P:=λl=>S1 (idx l) k=gz l k) (by rw[v6];rfl) (λl x ih=>by
 have e:idx (l++[x])=idx l++[(((l.length:Nat):Int),x)]:=by simp[idx,List.mapIdx_append]
 rw[e,v8,ih,v7,dQ];simp only[S1,JC,List.sum_nil]
 by_cases h:k<l.length
 ·rw[if_pos h,if_neg ∅];lia
 ·rw[if_neg h,ko,v6];have z:gz l k=0:=by
   cases Decidable.em (gz l k=0)with
   |inl h=>exact h
   |inr h'=>exact absurd (ju h').2 h
  rw[z]
  by_cases e:(l.length:Int)=k
  ·rw[if_pos e,if_pos ∅];lia
  ·rw[if_neg e,if_neg ∅];rfl) l
theorem A4{p:Pr}{k:Int}:cf (xN p) (k,i,j)=gz p.1 i*gz p.2.1 j*gz p.2.2 k:=by unfold xN;rw[kn];unfold nz;rw[jv,jv,jv,eR,eR,eR]
noncomputable def Tn(ps:List Pr)(k i j:Int):Int:=(ps.map λp=>gz p.1 i*gz p.2.1 j*gz p.2.2 k).sum
theorem A5{ps:List Pr}{k:Int}:cf (oC ps) (k,i,j)=Tn ps k i j:=by unfold oC Tn;rw[km];congr 1;exact Jh λp _=>A4
theorem qz{p:Pr}{a:List Pr}{k:Int}:Tn (p::a) k i j=gz p.1 i*gz p.2.1 j*gz p.2.2 k+Tn a k i j:=by simp[Tn]
theorem v9{L0 L1 L2:Nat}{k i j:Int}:∀{us:List Pr},(∀u∈us,u.1.length=L0/\u.2.1.length=L1/\u.2.2.length=L2)->Tn us k i j≠0->(0<=k/\k<L2)/\(0<=i/\i<L0)/\(0<=j/\j<L1)
 |[],_,h=>absurd (by simp[Tn]) h
 |u::us,B,h=>by
  obtain⟨L,O,U⟩:=B u (by simp)
  rw[qz]at h
  by_cases z:gz u.1 i*gz u.2.1 j*gz u.2.2 k=0
  ·rw[z,NF]at h;exact v9 (λv F=>B v (by simp[F])) h
  ·have a1:gz u.1 i≠0:=λe=>z (by rw[e];simp)
   have a2:gz u.2.1 j≠0:=λe=>z (by rw[e];simp)
   have J:gz u.2.2 k≠0:=λe=>z (by rw[e];simp)
   have:=ju a1;have:=ju a2;have:=ju J;lia
end
section
open L2.Srt
noncomputable def Sp(p:Int)(n:Nat):List (Nat->Int)->(Nat->Int)->Prop
 |[],f=>∀x,x<n->p ∣ f x
 |b::bs,f=>∃c:Int,Sp p n bs λx=>f x-c*b x
theorem Sp.congr{p:Int}{n:Nat}:∀{bs:List (Nat->Int)} {f g:Nat->Int},(∀x,x<n->p ∣ f x-g x)->Sp p n bs f->Sp p n bs g
 |[],f,g,h,s=>λx hx=>by
  have:=Kc (s x hx) (h x hx)
  rwa[show f x-(f x-g x)=g x by lia]at this
 |b::bs,f,g,h,⟨c,s⟩=>⟨c,s.congr fun x hx=>by
  have:=h x hx
  rwa[show f x-c*b x-(g x-c*b x)=f x-g x by lia]⟩
theorem Ss{p:Int}{n:Nat}:∀{bs:List (Nat->Int)} {f:Nat->Int},(∀x,x<n->p ∣ f x)->Sp p n bs f
 |[],f,h=>h
 |b::bs,f,h=>⟨0,Ss λx hx=>by simpa using h x hx⟩
theorem Sp.comb{p:Int}{n:Nat}{k:Int}:∀{bs:List (Nat->Int)} {f g:Nat->Int},Sp p n bs f->Sp p n bs g->Sp p n bs λx=>f x+k*g x
 |[],f,g,h,s=>λx hx=>JH (h x hx) (IK (s x hx))
 |b::bs,f,g,⟨c,h⟩,⟨d,s⟩=>⟨c+k*d,(h.comb (k:=k) s).congr fun x hx=>by
  rw[Oc,Oe,LL,show f x-c*b x+(k*g x-k*(d*b x))-(f x+k*g x-(c*b x+k*(d*b x)))=0 by lia]
  exact J7 _⟩
theorem Sp.snoc{p:Int}{n:Nat}{t:Nat->Int}:∀{bs:List (Nat->Int)} {f:Nat->Int},Sp p n (bs++[t]) f↔∃c:Int,Sp p n bs λx=>f x-c*t x
 |[],f=>OQ
 |b::bs,f=>by
  constructor
  ·rintro⟨c,h⟩;obtain⟨d,h⟩:=Sp.snoc.mp h;exact⟨d,c,h.congr λx _=>by rw[show f x-c*b x-d*t x-(f x-d*t x-c*b x)=0 by lia];exact J7 _⟩
  ·rintro⟨d,c,h⟩;exact⟨c,Sp.snoc.mpr ⟨d,h.congr λx _=>by rw[show f x-d*t x-c*b x-(f x-c*b x-d*t x)=0 by lia];exact J7 _⟩⟩
theorem Sp.more{p:Int}{n:Nat}{t:Nat->Int}{bs:List (Nat->Int)}{f:Nat->Int}(h:Sp p n bs f):Sp p n (bs++[t]) f:=Sp.snoc.mpr ⟨0,h.congr λx _=>by simp⟩
theorem Sp.last{p:Int}{n:Nat}{t:Nat->Int}{bs:List (Nat->Int)}:Sp p n (bs++[t]) t:=Sp.snoc.mpr ⟨1,Ss λx _=>by simp⟩
structure Vr(p:Int)(n:Nat)(v:List Int):Prop where
 len:v.length=n
 inn:∀x∈v,0<=x/\x<p
noncomputable def gf(v:List Int):Nat->Int:=λx=>gz v (x:Nat)
theorem au{x:Nat}(h:x<v.length):v[x]?=E (gf v x):=by unfold gf gz;rw[if_neg ∅,Il,HY,r4 h];rfl
theorem Vr.at{p:Int}{n:Nat}(h:Vr p n v){x:Nat}(hx:x<n):0<=gf v x/\gf v x<p:=h.inn _ (Ib (au (by rw[h.len];exact hx)))
theorem Vr.ext{p:Int}{n:Nat}(j:Vr p n u)(z:Vr p n v)(h:∀x,x<n->p ∣ gf u x-gf v x):u=v:=by
 apply K1;intro x
 by_cases hx:x<n
 ·rw[au (by rw[j.len];exact hx),au (by rw[z.len];exact hx)]
  have a:=j.at hx;have b:=z.at hx;obtain⟨k,J⟩:=h x hx;congr 1;have F:0<p:=∅
  have:k=0:=by
   apply J4;intro B
   rcases Qq B with h1|h1
   ·have:=Ni (show k <= -1 by lia) (Int.le_of_lt F)
    lia
   ·have:=Ni (show 1<=k by lia) (Int.le_of_lt F)
    lia
  rw[this]at J;lia
 ·rw[KY (by rw[j.len];lia),KY (by rw[z.len];lia)]
noncomputable def cb(p t:Int)(u v:List Int):List Int:=LV (λa b=>(a+t*b)%p) u v
theorem eI{p t:Int}(j:0<p){n:Nat}(z:u.length=n)(B:v.length=n):Vr p n (cb p t u v):=by
 refine⟨by unfold cb;rw[Nv,z,B];simp,λx hx=>?_⟩
 unfold cb at hx;rw[<-List.map_uncurry_zip_eq_zipWith]at hx;obtain⟨q,_,rfl⟩:=HQ.mp hx;exact⟨Jk _ ∅,IX _ j⟩
theorem sL{p t:Int}{n:Nat}(j:u.length=n)(z:v.length=n){x:Nat}(hx:x<n):gf (cb p t u v) x=(gf u x+t*gf v x)%p:=by
 have B:(cb p t u v).length=n:=by unfold cb;rw[Nv,j,z];simp
 have e:=au (v:=cb p t u v) (x:=x) (by rw[B];exact hx)
 unfold cb at e⊢;rw[P4,au (by rw[j];exact hx),au (by rw[z];exact hx)]at e
 exact(Ir.inj e).symm
theorem bb{p a:Int}:p ∣ a-a%p:=by have:=Int.mul_ediv_add_emod a p;exact⟨a / p,∅⟩
theorem da{p t:Int}{n:Nat}(j:u.length=n)(z:v.length=n){x:Nat}(hx:x<n):p ∣ (gf u x+t*gf v x)-gf (cb p t u v) x:=by rw[sL j z hx];exact bb
theorem oG{p:Int}(j:p=2∨p=3){w:Int}(h0:0<w)(h1:w<p):p ∣ w*w-1:=by
 rcases j with rfl|rfl
 ·have:w=1:=by lia
  subst this;exact⟨0,∅⟩
 ·have:w=1∨w=2:=by lia
  rcases this with rfl|rfl
  ·exact⟨0,∅⟩
  ·exact⟨1,∅⟩
theorem va{p:Int}(F:p=2∨p=3){n:Nat}{t u':List Int}(J:t.length=n)(L:Vr p n u)(j:Vr p n u')(O:Sp p n A (gf u))(z:Sp p n A (gf u'))(U:¬Sp p n A (gf t)){s s':Int}(h0:0<=s/\s<p)(Y:0<=s'/\s'<p)(e:cb p s u t=cb p s' u' t):s=s'/\u=u':=by
 have key:∀x,x<n->p ∣ (gf u x+s*gf t x)-(gf u' x+s'*gf t x):=λx hx=>by
  have a:=da (p:=p) (t:=s) L.len J hx;have b:=da (p:=p) (t:=s') j.len J hx;rw[e]at a;have:=Kc a b
  rwa[show gf u x+s*gf t x-gf (cb p s' u' t) x-(gf u' x+s'*gf t x-gf (cb p s' u' t) x)=(gf u x+s*gf t x)-(gf u' x+s'*gf t x) by lia]at this
 have es:s=s':=by
  apply J4;intro B;apply U;have hd:p ∣ (s-s')*(s-s')-1:=by
   rcases Qq B with h|h
   ·have:=oG F (w:=s'-s) ∅ ∅
    rwa[show(s'-s)*(s'-s)=(s-s')*(s-s') by rw[<-Of s s',Int.neg_mul_neg]]at this
   ·exact oG F ∅ ∅
  have h1:=Sp.comb (k:=-1) z O;have h2:=Sp.comb (k:=s-s') (Ss (f:=λ_=>0) λ_ _=>J7 _) h1;refine h2.congr λx hx=>?_;have F2:p ∣ (s-s')*_:=IK (key x hx);have k2:p ∣ _*gf t x:=J2 hd;have k3:=Kc k2 F2
  rwa[show((s-s')*(s-s')-1)*gf t x-(s-s')*(gf u x+s*gf t x-(gf u' x+s'*gf t x))=0+(s-s')*(gf u' x + -1*gf u x)-gf t x by grind]at k3
 subst es;refine⟨rfl,L.ext j λx hx=>?_⟩;have:=key x hx
 rwa[show gf u x+s*gf t x-(gf u' x+s*gf t x)=gf u x-gf u' x by lia]at this
structure Kn(P n:Nat)(A:List (Nat->Int))(keys:List (List Int)):Prop where
 nd:keys.Nodup
 mem:∀v,v∈keys↔Vr P n v/\Sp P n A (gf v)
 len:keys.length=P^A.length
noncomputable def nxR(P:Nat)(t u:List Int)(ss:List Nat):List (List Int):=ss.map λs=>cb P (s:Nat) u t
noncomputable def nx(P:Nat)(t:List Int)(keys:List (List Int)):List (List Int):=keys.flatMap λu=>nxR P t u (HV P)
theorem cq{n x:Nat}:gf (HN n 0) x=0:=by
 unfold gf gz;rw[if_neg ∅,Il,HY,Jd]
 split<;>rfl
theorem gQ{n:Nat}(j:0<P):Vr P n (HN n 0):=⟨by simp,λx hx=>by rw[J9 hx];lia⟩
theorem Kn.init{n:Nat}(j:0<P):Kn P n [] [HN n 0] where
 nd:=by simp
 mem:=λv=>by
  rw[Im];constructor
  ·rintro rfl;exact⟨gQ j,Ss λx _=>by rw[cq];exact J7 _⟩
  ·rintro⟨h,s⟩;exact h.ext (gQ j) λx hx=>by rw[cq,QL];exact s x hx
 len:=by simp
theorem vc{P:Nat}{t:List Int}:∀{keys:List (List Int)},(nx P t keys).length=keys.length*P
 |[]=>by simp[nx]
 |u::keys=>by have ih:=vc (P:=P) (t:=t) (keys:=keys);unfold nx at ih⊢;rw[Jb,hQ,ih,Iv,J1];simp[nxR];lia
theorem Kn.step{n:Nat}(hP:P=2∨P=3){keys:List (List Int)}{t:List Int}(h:Kn P n A keys)(z:Vr P n t)(O:¬Sp P n A (gf t)):Kn P n (A++[gf t]) (nx P t keys) where
 nd:=by
  have U:(P:Int)=2∨(P:Int)=3:=∅
  unfold nx;rw[Jn,List.pairwise_flatMap];refine⟨λu B=>?_,?_⟩
  ·have j:=(h.mem u).mp B;unfold nxR;rw[K6];refine Lj (λ{a b} Y F2 hab e=>?_) (Jn.mp R8);have Y:=Io.mp Y;have F2:=Io.mp F2;exact hab (Ra.inj (va U z.len j.1 j.1 j.2 j.2 O ∅ ∅ e).1)
  ·refine Lj (λ{u u'} B j huu x hx y hy e=>?_) (Jn.mp h.nd);obtain⟨s,hs,rfl⟩:=HQ.mp hx;obtain⟨s',J,rfl⟩:=HQ.mp hy;have hs:=Io.mp hs;have J:=Io.mp J;have h1:=(h.mem u).mp B;have h2:=(h.mem u').mp j;exact huu (va U z.len h1.1 h2.1 h1.2 h2.2 O ∅ ∅ e).2
 mem:=λv=>by
  have F:(0:Int)<P:=∅
  unfold nx;rw[IE];constructor
  ·rintro⟨u,B,hv⟩;obtain⟨s,hs,rfl⟩:=HQ.mp hv;obtain⟨h1,h2⟩:=(h.mem u).mp B;refine⟨eI F h1.len z.len,Sp.snoc.mpr ⟨s,h2.congr λx hx=>?_⟩⟩;have:=da (p:=P) (t:=(s:Nat)) h1.len z.len hx
   rwa[show gf u x-(gf (cb P (s:Nat) u t) x-(s:Nat)*gf t x)=gf u x+(s:Nat)*gf t x-gf (cb P (s:Nat) u t) x by lia]
  ·rintro⟨h1,h2⟩;obtain⟨c,h2⟩:=Sp.snoc.mp h2;have B:=eI (p:=P) (t:=-c) F h1.len z.len;have L:=Jk c (show(P:Int)≠0 by lia)
   have Gp:=IX c F;refine⟨cb P (-c) v t,(h.mem _).mpr ⟨B,h2.congr λx hx=>?_⟩,HQ.mpr ⟨(c%P).toNat,Io.mpr ∅,?_⟩⟩
   ·have:=da (p:=P) (t:=-c) h1.len z.len hx
    rwa[show gf v x-c*gf t x-gf (cb P (-c) v t) x=gf v x + -c*gf t x-gf (cb P (-c) v t) x by rw[Rx];lia]
   ·rw[Ma L];refine(eI F B.len z.len).ext h1 λx hx=>?_;have a:=da (p:=P) (t:=c%P) B.len z.len hx;have b:=da (p:=P) (t:=-c) h1.len z.len hx;have d:(P:Int) ∣ (c-c%P)*gf t x:=J2 bb;have:=JH (JH a b) d;rw[<-KJ]at this
    rwa[show -(gf (cb P (-c) v t) x+c%P*gf t x-gf (cb P (c%P) (cb P (-c) v t) t) x+(gf v x + -c*gf t x-gf (cb P (-c) v t) x)+(c-c%P)*gf t x)=gf (cb P (c%P) (cb P (-c) v t) t) x-gf v x by grind]at this
 len:=by rw[vc,h.len,hQ,IA,QM]
structure Bs(P n:Nat)(A:List (Nat->Int))(base:List (Nat×List Int)):Prop where
 vr:∀e∈base,Vr P n e.2
 pl:∀e∈base,e.1<n/\gf e.2 e.1=1
 tri:base.Pairwise λe e'=>gf e'.2 e.1=0
 sp:∀f,Sp P n (base.map λe=>gf e.2) f↔Sp P n A f
 len:base.length=A.length
theorem Bs.init{n:Nat}:Bs P n [] []:=⟨by simp,by simp,.nil,λ_=>OQ,rfl⟩
noncomputable def wo(P:Nat):List (Nat×List Int)->List Int->List Int
 |[],r=>r
 |e::bs,r=>wo P bs (cb P (-(gf r e.1)) r e.2)
theorem dE{P n:Nat}(z:0<P):∀{base:List (Nat×List Int)} {r:List Int},(∀e∈base,Vr P n e.2)->Vr P n r->Vr P n (wo P base r)
 |[],r,_,h=>h
 |e::bs,r,j,h=>by show Vr P n (wo P bs (cb P (-(gf r e.1)) r e.2));exact dE z (λx hx=>j x (HR _ hx)) (eI ∅ h.len (j e I0).len)
theorem qA{P n:Nat}(J:0<P){z:Nat}(j:z<n):∀{base:List (Nat×List Int)} {r:List Int},(∀e∈base,Vr P n e.2)->(∀e∈base,gf e.2 z=0)->Vr P n r->gf r z=0->gf (wo P base r) z=0
 |[],r,_,_,_,h0=>h0
 |e::bs,r,B,he,h,h0=>by
  have F:=(B e I0).len;show gf (wo P bs (cb P (-(gf r e.1)) r e.2)) z=0;refine qA J j (λx hx=>B x (HR _ hx)) (λx hx=>he x (HR _ hx)) (eI ∅ h.len F) ?_
  rw[sL h.len F j,h0,he e I0];simp
theorem gR{P n:Nat}(F:0<P):∀{base:List (Nat×List Int)} {r:List Int},(∀e∈base,Vr P n e.2)->(∀e∈base,e.1<n/\gf e.2 e.1=1)->(base.Pairwise λe e'=>gf e'.2 e.1=0)->Vr P n r->∀e∈base,gf (wo P base r) e.1=0
 |[],r,_,_,_,_,e,he=>by cases he
 |b::bs,r,z,j,B,h,e,he=>by
  have J:=(z b I0).len;have L:=eI (p:=P) (t:=-(gf r b.1)) ∅ h.len J
  rw[KR]at B;show gf (wo P bs (cb P (-(gf r b.1)) r b.2)) e.1=0
  rcases Ij.mp he with rfl|he
  ·refine qA F (j e I0).1 (λx hx=>z x (HR _ hx)) B.1 L ?_;rw[sL h.len J (j e I0).1,(j e I0).2];simp;rw[show gf r e.1 + -gf r e.1=0 by lia];simp
  ·exact gR F (λx hx=>z x (HR _ hx)) (λx hx=>j x (HR _ hx)) B.2 L e he
theorem mL{P n:Nat}(B:0<P):∀{base:List (Nat×List Int)} {r:List Int},(∀e∈base,Vr P n e.2)->Vr P n r->Sp P n (base.map λe=>gf e.2) λx=>gf r x-gf (wo P base r) x
 |[],r,_,_=>λx _=>by simp[wo]
 |b::bs,r,j,h=>by
  have z:=(j b I0).len;have ih:=mL B (base:=bs) (r:=cb P (-(gf r b.1)) r b.2) (λx hx=>j x (HR _ hx)) (eI ∅ h.len z)
  refine⟨gf r b.1,ih.congr λx hx=>?_⟩;have a:=da (p:=P) (t:=-(gf r b.1)) h.len z hx;rw[<-KJ]at a;show(P:Int) ∣ _-(gf r x-gf (wo P bs (cb P (-(gf r b.1)) r b.2)) x-gf r b.1*gf b.2 x)
  rwa[show -(gf r x + -gf r b.1*gf b.2 x-gf (cb P (-gf r b.1) r b.2) x)=gf (cb P (-gf r b.1) r b.2) x-gf (wo P bs (cb P (-gf r b.1) r b.2)) x-(gf r x-gf (wo P bs (cb P (-(gf r b.1)) r b.2)) x-gf r b.1*gf b.2 x) by grind]at a
theorem Sp.at{p:Int}{n z:Nat}(j:z<n):∀{bs:List (Nat->Int)} {f:Nat->Int},(∀b∈bs,b z=0)->Sp p n bs f->p ∣ f z
 |[],f,_,h=>h z j
 |b::bs,f,B,⟨c,h⟩=>by have:=Sp.at j (λx hx=>B x (HR _ hx)) h;rw[B b I0]at this;simpa using this
theorem iF{P n:Nat}:∀{base:List (Nat×List Int)} {f:Nat->Int},(∀e∈base,e.1<n/\gf e.2 e.1=1)->(base.Pairwise λe e'=>gf e'.2 e.1=0)->(∀e∈base,(P:Int) ∣ f e.1)->Sp P n (base.map λe=>gf e.2) f->∀x,x<n->(P:Int) ∣ f x
 |[],f,_,_,_,h=>h
 |e::bs,f,j,z,F,⟨c,h⟩=>by
  rw[KR]at z;have h1:=Sp.at (j e I0).1 (λb J=>by obtain⟨e',B,rfl⟩:=HQ.mp J;exact z.1 e' B) h
  dsimp only at h1;rw[(j e I0).2,Pa]at h1;have L:(P:Int) ∣ c:=by
   have:=Kc (F e I0) h1
   rwa[show f e.1-(f e.1-c)=c by lia]at this
  refine iF (λx hx=>j x (HR _ hx)) z.2 (λx hx=>F x (HR _ hx)) (h.congr λx _=>?_);rw[show f x-c*gf e.2 x-f x = -(c*gf e.2 x) by lia,KJ]
  exact J2 L
theorem Bs.out{n:Nat}(j:0<P)(h:Bs P n A base){t:List Int}(z:Vr P n t):wo P base t=HN n 0↔Sp P n A (gf t):=by
 have hs:=mL j h.vr z;constructor
 ·intro e;refine(h.sp _).mp (hs.congr λx _=>?_);rw[e,cq,QL,Int.sub_self];exact J7 _
 ·intro e;have e:=(h.sp _).mpr e;have B:=Sp.comb (k:=-1) e hs;refine(dE j h.vr z).ext (gQ j) λx hx=>?_;rw[cq,QL];refine iF h.pl h.tri (λb F=>by rw[gR j h.vr h.pl h.tri z b F];exact J7 _) (B.congr λx _=>?_) x hx
  rw[show gf t x + -1*(gf t x-gf (wo P base t) x)-gf (wo P base t) x=0 by lia];exact J7 _
theorem jw{F:Int->Int}{x:Nat}(h:x<v.length):gf (v.map F) x=F (gf v x):=by
 have e:=au (v:=v.map F) (x:=x) (by rw[hG];exact h)
 rw[I8,au h]at e;exact(Ir.inj e).symm
theorem Bs.step{n:Nat}(F2:P=2∨P=3)(h:Bs P n A base){t:List Int}(L:Vr P n t){pl:Nat}(j:pl<n)(hw:gf (wo P base t) pl≠0):
 Bs P n (A++[gf t]) (base++[(pl,(wo P base t).map λx=>(gf (wo P base t) pl*x)%P)]):=by
 have z:0<P:=∅
 have J:=dE z h.vr L;have U:=gR z h.vr h.pl h.tri L;have hs:=mL z h.vr L;have B:=J.at j;generalize hR:wo P base t=R at J U hs hw B;generalize hW:gf R pl=w at hw B;have O:(P:Int) ∣ w*w-1:=oG ∅ ∅ B.2
 have go:∀x,x<n->gf (R.map λx=>(w*x)%P) x=(w*gf R x)%P:=λx hx=>jw (F:=λx=>(w*x)%P) (by rw[J.len];exact hx)
 refine⟨λe he=>?_,λe he=>?_,?_,λf=>?_,by rw[hQ,hQ,h.len];rfl⟩
 ·rcases Ie.mp he with he|he
  ·exact h.vr e he
  ·rw[Im.mp he];refine⟨by rw[hG];exact J.len,λx hx=>?_⟩
   obtain⟨y,_,rfl⟩:=HQ.mp hx;exact⟨Jk _ ∅,IX _ ∅⟩
 ·rcases Ie.mp he with he|he
  ·exact h.pl e he
  ·rw[Im.mp he];refine⟨j,?_⟩;dsimp only;rw[go pl j,hW]
   rcases F2 with rfl|rfl
   ·have:w=1:=by lia
    rw[this];rfl
   ·have:w=1∨w=2:=by lia
    rcases this with e|e<;>rw[e]<;>rfl
 ·rw[IH];refine⟨h.tri,by simp,λa Y b hb=>?_⟩
  rw[Im.mp hb];dsimp only;rw[go _ (h.pl a Y).1,U a Y];simp
 ·rw[HS,Ii,JC];constructor
  ·intro hf;obtain⟨c,hf⟩:=Sp.snoc.mp hf;refine Sp.snoc.mpr ⟨c*w,(h.sp _).mp ((Sp.comb (k:=-(c*w)) hf hs).congr λx hx=>?_)⟩;dsimp only;rw[go x hx];have a:(P:Int) ∣ c*(w*gf R x-(w*gf R x)%P):=IK bb
   rwa[show f x-c*(w*gf R x % ↑P) + -(c*w)*(gf t x-gf R x)-(f x-c*w*gf t x)=c*(w*gf R x-(w*gf R x)%P) by grind]
  ·intro hf;obtain⟨c,hf⟩:=Sp.snoc.mp hf;refine Sp.snoc.mpr ⟨c*w,(Sp.comb (k:=c) ((h.sp _).mpr hf) hs).congr λx hx=>?_⟩;dsimp only;rw[go x hx];have a:(P:Int) ∣ c*w*(w*gf R x-(w*gf R x)%P):=IK bb;have b:(P:Int) ∣ (c*gf R x)*(w*w-1):=IK O;have:=Kc b a
   rwa[show(c*gf R x)*(w*w-1)-c*w*(w*gf R x-(w*gf R x)%P)=f x-c*gf t x+c*(gf t x-gf R x)-(f x-c*w*(w*gf R x % ↑P)) by grind]at this
end
section
open L2.Srt
variable{T:List FD}
noncomputable def ixs(l:List Int)(ks:List Nat):List (Int×Int):=ks.map λk:Nat=>((k:Int),gi l (k:Int))
theorem kr{N:Nat}(h:l.length=N):ixs l (HV N)=idx l:=by
 unfold ixs idx;apply K1;intro j;rw[I8,L9]
 by_cases hj:j<N
 ·rw[K8 hj,r4 ∅]
  simp only[LF,gi,Il];rw[HY,r4 ∅];rfl
 ·rw[KY (by simp;lia),KY ∅];rfl
theorem ku{ks:List Nat}:(ixs l ks).length=ks.length:=by simp[ixs]
theorem iG{ks:List Nat}{k:Nat}:ixs l (ks++[k])=ixs l ks++[((k:Int),gi l (k:Int))]:=by simp[ixs]
theorem vd(h:Big l):bd (gi l i):=by
 unfold gi;rw[HY]
 cases e:l[i.toNat]? with
 |none=>constructor<;>decide
 |some x=>exact h x (Ib e)
noncomputable def kw(s:Stmt):FD:=⟨"_law_sums",s,["_law_scheme_here","_law_found","_law_l","_law_r","_law_o","_law_i","_law_j","_law_k"],1,
 (.cons (.asg (.name 1) (.dnew N2))
 (.cons (.for (.tup (.cons (.name 2) (.cons (.name 3) (.cons (.name 4) .nil)))) (.seq (.ix (.var 0) (.int 3))) (.cons (.for (.name 5) (.rng1 (.ix (.var 0) (.int 0))) (.cons (.for (.name 6) (.rng1 (.ix (.var 0) (.int 1))) (.cons (.for (.name 7) (.rng1 (.ix (.var 0) (.int 2))) (.cons (.put (.var 1) (.tup (.cons (.var 7) (.cons (.var 5) (.cons (.var 6) .nil)))) (.bin .add (.dget (.var 1) (.tup (.cons (.var 7) (.cons (.var 5) (.cons (.var 6) .nil)))) (.int 0)) (.bin .mul (.bin .mul (.ix (.var 2) (.var 5)) (.ix (.var 3) (.var 6))) (.ix (.var 4) (.var 7)))))
 .nil))
 .nil))
 .nil))
 .nil))
 (.cons (.frz 1 (.ret (.blt .dict (.cons (.comp [Z,(E 1)] ["_law_place","_law_found"] (.last (.keys (.var 1)) (.name 0) (.cons (.cmp .ne (.ix (.var 1) (.var 0)) (.int 0)) .nil) (.tup (.cons (.var 0) (.cons (.ix (.var 1) (.var 0)) .nil))))) .nil))))
 .nil)))⟩
noncomputable def sbK:MSs:=.cons (.put (.var 1) (.tup (.cons (.var 7) (.cons (.var 5) (.cons (.var 6) .nil)))) (.bin .add (.dget (.var 1) (.tup (.cons (.var 7) (.cons (.var 5) (.cons (.var 6) .nil)))) (.int 0)) (.bin .mul (.bin .mul (.ix (.var 2) (.var 5)) (.ix (.var 3) (.var 6))) (.ix (.var 4) (.var 7))))) .nil
noncomputable def sbJ:MSs:=.cons (.for (.name 7) (.rng1 (.ix (.var 0) (.int 2))) sbK) .nil
noncomputable def sbI:MSs:=.cons (.for (.name 6) (.rng1 (.ix (.var 0) (.int 1))) sbJ) .nil
noncomputable def scD(L0 L1 L2:Nat)(p:SS):D:=.tup [.int L0,.int L1,.int L2,.ref p]
theorem BW{p:SS}{x:Pr}{i j:Nat}{B:Option D}{pre:List Tm}(h2:L2<=1000)(hi:i<x.1.length)(hj:j<x.2.1.length)(Y:x.2.2.length=L2)(b1:Big x.1)(b3:Big x.2.2)(hd:M d=E (.dct N2 ((aL pre).map kcD)))(hl:pre.length+L2<=1000000)(q:∀M' B,Od d M M'->M' d=E (.dct N2 ((aL (pre++cu i (gi x.1 i) j (gi x.2.1 j) (idx x.2.2))).map kcD))->fv.nx [E (scD L0 L1 L2 p),E (.ref d),E (.tup (x.1.map .int)),E (.tup (x.2.1.map .int)),E (.tup (x.2.2.map .int)),E (.int i),E (.int j),B] M'):
 wSs Φ sbJ fv [E (scD L0 L1 L2 p),E (.ref d),E (.tup (x.1.map .int)),E (.tup (x.2.1.map .int)),E (.tup (x.2.2.map .int)),E (.int i),E (.int j),B] M:=by
 unfold sbJ scD;nofun;refine⟨_,rfl,_,rfl,∅,∅,?_⟩
 rw[Il];rw[<-kr Y]at q;refine aI (I:=λl ρ M'=>∃B,ρ=[E (scD L0 L1 L2 p),E (.ref d),E (.tup (x.1.map .int)),E (.tup (x.2.1.map .int)),E (.tup (x.2.2.map .int)),E (.int i),E (.int j),B]/\Od d M M'/\M' d=E (.dct N2 ((aL (pre++cu i (gi x.1 i) j (gi x.2.1 j) (ixs x.2.2 l))).map kcD))) aK ⟨_,rfl,Od.refl,by simpa[cu,ixs]using hd⟩ (λ_ _ _ _=>trivial) ?_ ?_
 ·rintro l k r ρ M1 e ⟨B,rfl,g1,J⟩;refine⟨_,rfl,λF F2=>?_⟩;have O:=af e;rw[Ic]at O;have Gp:k<L2:=by have h9:k∈HV L2:=(by rw[e];simp);simpa using h9
  have U:=fG (pre++cu i (gi x.1 i) j (gi x.2.1 j) (ixs x.2.2 l));rw[hQ,oD,ku]at U;unfold sbK;rw[cP];ac_nf;refine⟨⟨_,_,J⟩,by rw[z4];lia,_,_,J,rfl,_,iE ∅ ∅,_,iE ∅ ∅,?_⟩
  ac_nf;refine⟨cB (by have:=vd b1 (i:=(i:Int));unfold bd at this;lia),_,iE ∅ ∅,?_⟩
  ac_nf;refine⟨fF (by have:=vd b3 (i:=(k:Int));unfold bd at this;lia),?_⟩
  have ek:D.tup [D.int (k:Int),D.int (i:Int),D.int (j:Int)]=k3D (k,i,j):=rfl;rw[ek,kl];have eg:∀L:List Tm,((Option.map (λp:Tm=>D.int p.2) (L.find? λp=>decide (p.1=((k:Int),(i:Int),(j:Int))))).getD (.int 0))=.int (((L.find? λp=>decide (p.1=((k:Int),(i:Int),(j:Int)))).map (·.2)).getD 0):=λL=>by cases L.find? λp=>decide (p.1=((k:Int),(i:Int),(j:Int)))<;>rfl
  rw[eg];ac_nf;refine⟨by rw[z4];lia,ox J rfl (by rw[hG,z4];lia) ?_⟩
  rw[qr (cK _)];refine F2 _ _ ⟨_,rfl,g1.upd,?_⟩;rw[aa,iG,show ∀a b:Int,∀zs,∀z:Int×Int,cu i a j b (zs++[z])=cu i a j b zs++[((z.1,(i:Int),(j:Int)),a*b*z.2)] fromλa b zs z=>by simp[cu],<-IV,cD]
 ·rintro ρ M1 ⟨B,rfl,g1,J⟩;dsimp only;ac_nf;exact q _ _ g1 J
theorem BX{p:SS}{x:Pr}{i:Nat}{B z:Option D}{pre:List Tm}(h1:L1<=1000)(h2:L2<=1000)(hi:i<x.1.length)(U:x.2.1.length=L1)(O:x.2.2.length=L2)(b1:Big x.1)(b3:Big x.2.2)(hd:M d=E (.dct N2 ((aL pre).map kcD)))(hl:pre.length+L1*L2<=1000000)(q:∀M' B z,Od d M M'->M' d=E (.dct N2 ((aL (pre++cv i (gi x.1 i) (idx x.2.1) (idx x.2.2))).map kcD))->fv.nx [E (scD L0 L1 L2 p),E (.ref d),E (.tup (x.1.map .int)),E (.tup (x.2.1.map .int)),E (.tup (x.2.2.map .int)),E (.int i),B,z] M'):
 wSs Φ sbI fv [E (scD L0 L1 L2 p),E (.ref d),E (.tup (x.1.map .int)),E (.tup (x.2.1.map .int)),E (.tup (x.2.2.map .int)),E (.int i),B,z] M:=by
 unfold sbI scD;nofun;refine⟨_,rfl,_,rfl,∅,∅,?_⟩
 rw[Il];rw[<-kr U]at q;refine aI (I:=λl ρ M'=>∃B z,ρ=[E (scD L0 L1 L2 p),E (.ref d),E (.tup (x.1.map .int)),E (.tup (x.2.1.map .int)),E (.tup (x.2.2.map .int)),E (.int i),B,z]/\Od d M M'/\M' d=E (.dct N2 ((aL (pre++cv i (gi x.1 i) (ixs x.2.1 l) (idx x.2.2))).map kcD))) aK ⟨_,_,rfl,Od.refl,by simpa[cv,ixs]using hd⟩ (λ_ _ _ _=>trivial) ?_ ?_
 ·rintro l j r ρ M1 e ⟨B,z,rfl,g1,L⟩;refine⟨_,rfl,λF Y=>?_⟩;have J:=af e;rw[Ic]at J;have F2:j<L1:=by have h9:j∈HV L1:=(by rw[e];simp);simpa using h9
  have hm:(l.length+1)*L2<=L1*L2:=Jp _ J;rw[J1]at hm;refine BW h2 hi ∅ O b1 b3 L (by rw[hQ,oE,ku,dP,O];lia) λM2 z g2 e2=>Y _ _ ⟨_,_,rfl,g1.trans g2,?_⟩
  rw[e2,iG,IV,show ∀(a:Int) (ys zs:List (Int×Int)) (y:Int×Int),cv i a (ys++[y]) zs=cv i a ys zs++cu i a y.1 y.2 zs fromλa ys zs y=>by simp[cv]]
 ·rintro ρ M1 ⟨B,z,rfl,g1,L⟩;dsimp only;ac_nf;exact q _ _ _ g1 L
theorem xO(hf:T[f]?=E (kw s)){n:Nat}(hn:1<=n)(h0:L0<=1000)(h1:L1<=1000)(h2:L2<=1000){p:SS}{ps:List Pr}(hp:M p=E (.lst (ps.map prD)))(hl:ps.length*(L0*(L1*L2))<=1000000)(hF:∀p∈ps,Big p.1/\Big p.2.2/\p.1.length=L0/\p.2.1.length=L1/\p.2.2.length=L2)(q:∀(L:List Tm) d M',yr ps L->L.length<=ps.length*(L0*(L1*L2))->Ge M M'->M d=Z->M' d=E (.dct N2 (L.map kcD))->Q (.ref d) M'):phi T n f [.tup [.int L0,.int L1,.int L2,.ref p]] M Q:=by
 refine ao ∅ hf rfl (ρ:=[E (scD L0 L1 L2 p),Z,Z,Z,Z,Z,Z,Z]) rfl ?_
 unfold kw;nofun;intro d hd;have g0:=Ge.new (o:=.dct N2 []) hd;have d0:=aa (M:=M) (a:=d) (o:=.dct N2 []);generalize ad M d (.dct N2 [])=M0 at g0 d0⊢;unfold scD;nofun;refine⟨_,rfl,_,ab (g0 _ _ hp),?_⟩;have GC:p≠d:=λz=>by rw[z,hd]at hp;cases hp
 have cfR:∀ps:List Pr,∀k,cf (ps.flatMap λx=>bS (idx x.1) (idx x.2.1) (idx x.2.2)) k=cf (oC ps) k:=λps k=>by obtain⟨k,i,j⟩:=k;rw[A5,km];unfold Tn;congr 1;exact Jh λx _=>by rw[kn,eR,eR,eR]
 refine aI (f:=prD) (ys:=ps) (I:=λl ρ M'=>∃o2 o3 o4 o5 U Y,ρ=[E (scD L0 L1 L2 p),E (.ref d),o2,o3,o4,o5,U,Y]/\Ge M M'/\M' d=E (.dct N2 ((aL (l.flatMap λx=>bS (idx x.1) (idx x.2.1) (idx x.2.2))).map kcD))/\(l.flatMap λx=>bS (idx x.1) (idx x.2.1) (idx x.2.2)).length=l.length*(L0*(L1*L2))) rfl ⟨_,_,_,_,_,_,rfl,g0,d0,by simp⟩ (λl ρ M' ⟨_,_,_,_,_,_,_,g,_⟩=>ab (g _ _ hp)) ?_ ?_
 ·rintro l x r ρ M1 e ⟨o2,o3,o4,o5,U,Y,rfl,g1,hM,hlen⟩;refine⟨_,rfl,λF Gw=>?_⟩;obtain⟨b1,b3,e0,e1,e2⟩:=hF x (by rw[e];simp)
  have Gr:=af e;have hm:(l.length+1)*(L0*(L1*L2))<=ps.length*(L0*(L1*L2)):=Jp _ Gr;rw[J1]at hm;unfold scD;nofun;refine⟨_,rfl,_,rfl,∅,∅,?_⟩
  rw[Il];generalize F2:(l.flatMap λx=>bS (idx x.1) (idx x.2.1) (idx x.2.2))=pre at hM hlen;have B:(pre++bS (idx x.1) (idx x.2.1) (idx x.2.2)).length=(l.length+1)*(L0*(L1*L2)):=by rw[hQ,oF,dP,dP,dP,hlen,e0,e1,e2,J1]
  refine aI (I:=λl' ρ M'=>∃o5 U Y,ρ=[E (scD L0 L1 L2 p),E (.ref d),E (.tup (x.1.map .int)),E (.tup (x.2.1.map .int)),E (.tup (x.2.2.map .int)),o5,U,Y]/\Od d M1 M'/\M' d=E (.dct N2 ((aL (pre++bS (ixs x.1 l') (idx x.2.1) (idx x.2.2))).map kcD))) aK ⟨_,_,_,rfl,Od.refl,by simpa[bS,ixs]using hM⟩ (λ_ _ _ _=>trivial) ?_ ?_
  ·rintro l' i r' ρ M2 e' ⟨o5,U,Y,rfl,g2,J⟩;refine⟨_,rfl,λF2 Gx=>?_⟩;have Gp:=af e';rw[Ic]at Gp;have GD:i<L0:=by have h9:i∈HV L0:=(by rw[e'];simp);simpa using h9
   have Gy:(l'.length+1)*(L1*L2)<=L0*(L1*L2):=Jp _ Gp;rw[J1]at Gy;refine BX h1 h2 ∅ e1 e2 b1 b3 J (by rw[hQ,oF,ku,dP,dP,hlen,e1,e2];lia) λM3 U Y g3 e3=>Gx _ _ ⟨_,_,_,rfl,g2.trans g3,?_⟩
   rw[e3,iG,IV,show ∀(xs ys zs:List (Int×Int)) (y:Int×Int),bS (xs++[y]) ys zs=bS xs ys zs++cv y.1 y.2 ys zs fromλxs ys zs y=>by simp[bS]]
  ·rintro ρ M2 ⟨o5,U,Y,rfl,g2,J⟩;dsimp only;ac_nf;rw[kr e0]at J;refine Gw _ _ ⟨_,_,_,_,_,_,rfl,λa o ea=>?_,?_,?_⟩
   ·by_cases had:a=d
    ·subst had;rw[hd]at ea;cases ea
    ·rw[g2 a had];exact g1 _ _ ea
   ·rw[J,KG,F2,Jb,Rb,Jt]
   ·rw[KG,F2,Jb,Rb,Jt,B,hQ,IA]
 ·rintro ρ M1 ⟨o2,o3,o4,o5,U,Y,rfl,g1,hM,hlen⟩;dsimp only;nofun;refine zX rfl hM ?_;generalize B:(ps.flatMap λx=>bS (idx x.1) (idx x.2.1) (idx x.2.2))=raw at hM hlen⊢;have fd:=aa (M:=M1) (a:=d) (o:=.fdc ((aL raw).map kcD));have g2:Ge M (ad M1 d (.fdc ((aL raw).map kcD))):=g1.upd hd;have Gz:=fG raw;have O:=cK raw;have Gs:=qt raw;generalize ad M1 d (.fdc ((aL raw).map kcD))=M2 at fd g2⊢;generalize aL raw=L at fd Gz O Gs;ac_nf;refine⟨_,fd,?_⟩;refine ah (f:=λt:Tm=>k3D t.1) (ys:=L) (I:=λl ρ M' acc=>(∃o0,ρ=[o0,E (.ref d)])/\M'=M2/\acc=(l.filter λt=>!(t.2==0)).map λt=>.tup [k3D t.1,.int t.2]) (by rw[Jr];rfl) ⟨⟨_,rfl⟩,rfl,rfl⟩ (λ_ _ _ _ _=>trivial) ?_ ?_
  ·rintro l t r ρ M3 acc e ⟨⟨o0,rfl⟩,rfl,rfl⟩;refine⟨_,rfl,λN' Gu=>?_⟩;have Gr:=af e;have ht:t∈L:=by rw[e];simp
   have GA:(l.filter λt=>!(t.2==0)).length<=l.length:=II _ _;ac_nf;refine uR fd (sK _) (ee O ht) ?_;ac_nf
   by_cases hz:t.2=0
   ·rw[if_neg (by simp[hz])]
    refine Gu _ _ _ ⟨⟨_,rfl⟩,rfl,?_⟩;rw[IP,IQ (by simp[hz])];simp
   ·rw[if_pos (by simp[hz])]
    refine uR fd (sK _) (ee O ht) ?_;refine⟨by rw[z4];lia,by rw[hG,z4];lia,Gu _ _ _ ⟨⟨_,rfl⟩,rfl,?_⟩⟩
    rw[IP,ID (by simp[hz])];simp
  ·rintro ρ M3 acc ⟨⟨o0,rfl⟩,rfl,rfl⟩ p2 hp2;have GA:(L.filter λt=>!(t.2==0)).length<=L.length:=II _ _;have Gv:((L.filter λt=>!(t.2==0)).map (·.1)).Nodup:=O.sublist (Rc _ Nw);refine⟨p2,(L.filter λt=>!(t.2==0)).map kcD,rfl,by rw[aa,Jr];rfl,λkv GB=>?_,by rw[hG,z4];lia,λpf Gq=>?_⟩
   ·obtain⟨t,_,rfl⟩:=HQ.mp GB;exact sK _
   ·rw[xM Gv];have g3:=g2.trans (Ge.new (o:=.lst ((L.filter λt=>!(t.2==0)).map λt=>D.tup [k3D t.1,.int t.2])) hp2);refine q (L.filter λt=>!(t.2==0)) pf _ ⟨Gv,λt ht=>?_,λk=>by rw[yq,Gs,<-B,cfR]⟩ ∅ (g3.trans (Ge.new Gq)) ?_ aa
    ·have:=(Iq.mp ht).2;simpa using this
    ·cases hz:M pf with
     |none=>rfl
     |some o=>rw[g3 _ _ hz]at Gq;cases Gq
end
section
open L2.Srt
noncomputable def chF(P n:Nat)(A:List (Nat->Int))(ts:List (List Int)):List (Nat->Int):=ts.foldl (λA t=>@ite _ (Sp P n A (gf t)) (Jo _) A (A++[gf t])) A
theorem eS{n:Nat}:chF P n A []=A:=rfl
theorem bK{n:Nat}{t:List Int}(h:Sp P n A (gf t)):chF P n A (t::ts)=chF P n A ts:=by unfold chF;rw[JL,if_pos h]
theorem aO{n:Nat}{t:List Int}(h:¬Sp P n A (gf t)):chF P n A (t::ts)=chF P n (A++[gf t]) ts:=by unfold chF;rw[JL,if_neg h]
theorem qB{n:Nat}{us:List (List Int)}:chF P n A (ts++us)=chF P n (chF P n A ts) us:=by unfold chF;rw[KA]
theorem oH{n:Nat}{t:List Int}(h:Sp P n (chF P n A ts) (gf t)):chF P n A (ts++[t])=chF P n A ts:=by rw[qB,bK h];rfl
theorem eT{n:Nat}{t:List Int}(h:¬Sp P n (chF P n A ts) (gf t)):chF P n A (ts++[t])=chF P n A ts++[gf t]:=by rw[qB,aO h];rfl
theorem Sp.moreL{p:Int}{n:Nat}{bs:List (Nat->Int)}{f:Nat->Int}(h:Sp p n bs f):∀us:List (Nat->Int),Sp p n (bs++us) f
 |[]=>by rw[Jt];exact h
 |u::us=>by
  rw[show bs++u::us=(bs++[u])++us by simp]
  exact Sp.moreL h.more us
theorem gS{P n:Nat}:∀{ts:List (List Int)} {A:List (Nat->Int)},∃us,chF P n A ts=A++us/\us.length<=ts.length
 |[],A=>⟨[],by rw[eS,Jt],HW _⟩
 |t::ts,A=>by
  by_cases h:Sp P n A (gf t)
  ·obtain⟨us,e,j⟩:=gS (P:=P) (n:=n) (ts:=ts) (A:=A);exact⟨us,by rw[bK h,e],by rw[Iv];lia⟩
  ·obtain⟨us,e,j⟩:=gS (P:=P) (n:=n) (ts:=ts) (A:=A++[gf t]);exact⟨gf t::us,by rw[aO h,e];simp,by rw[Iv,Iv];lia⟩
theorem gT{n:Nat}:(chF P n A ts).length<=A.length+ts.length:=by obtain⟨us,e,j⟩:=gS (P:=P) (n:=n) (ts:=ts) (A:=A);rw[e,hQ];lia
theorem jx{n:Nat}{f:Nat->Int}(h:Sp P n A f):Sp P n (chF P n A ts) f:=by obtain⟨us,e,_⟩:=gS (P:=P) (n:=n) (ts:=ts) (A:=A);rw[e];exact h.moreL us
theorem bw{P n:Nat}:∀{ts:List (List Int)} {A:List (Nat->Int)} {t:List Int},t∈ts->Sp P n (chF P n A ts) (gf t)
 |u::ts,A,t,h=>by
  rcases Ij.mp h with rfl|h
  ·by_cases e:Sp P n A (gf t)
   ·rw[bK e];exact jx e
   ·rw[aO e];exact jx Sp.last
  ·by_cases e:Sp P n A (gf u)
   ·rw[bK e];exact bw h
   ·rw[aO e];exact bw h
theorem oI{P n:Nat}:∀{ts:List (List Int)} {A:List (Nat->Int)},(chF P n A ts).length<A.length+ts.length->∃i,i<ts.length/\chF P n A (ts.eraseIdx i)=chF P n A ts
 |[],A,h=>by rw[eS]at h;simp at h
 |t::ts,A,h=>by
  by_cases e:Sp P n A (gf t)
  ·exact⟨0,by simp,by rw[bK e];rfl⟩
  ·rw[aO e,Iv,<-Nat.add_assoc,Nat.add_right_comm]at h;obtain⟨i,hi,q⟩:=oI (A:=A++[gf t]) (ts:=ts) (by rw[hQ,IA];exact h)
   exact⟨i+1,by rw[Iv];lia,by rw[List.eraseIdx_cons_succ,aO e,aO e,q]⟩
theorem oJ{P n:Nat}{A:List (Nat->Int)}(T:List (List Int)):∀k,k<=T.length->∃ix:List Nat,ix.Pairwise (· < ·)/\(∀i∈ix,i<k)/\chF P n A (ix.map λi=>T.getD i [])=chF P n A (T.take k)/\(chF P n A (T.take k)).length=A.length+ix.length
 |0,_=>⟨[],.nil,by simp,by simp[eS],by simp[eS]⟩
 |k+1,h=>by
  obtain⟨ix,h1,h2,j,z⟩:=oJ (P:=P) (n:=n) (A:=A) T k ∅
  have e:T.take (k+1)=T.take k++[T.getD k []]:=by rw[JR,r4 ∅];simp[HY,r4 (show k<T.length by lia)]
  by_cases q:Sp P n (chF P n A (T.take k)) (gf (T.getD k []))
  ·exact⟨ix,h1,λi hi=>by have:=h2 i hi;lia,by rw[e,oH q,j],by rw[e,oH q,z]⟩
  ·refine⟨ix++[k],?_,?_,?_,?_⟩
   ·rw[IH];exact⟨h1,by simp,λa B b F=>by rw[Im.mp F];exact h2 a B⟩
   ·intro i hi
    rcases Ie.mp hi with hi|hi
    ·have:=h2 i hi;lia
    ·rw[Im.mp hi];lia
   ·rw[HS,Ii,JC,e,eT (by rw[j];exact q),j,eT q]
   ·rw[e,eT q,hQ,hQ,z];simp;lia
def In(P n:Nat)(A:List (Nat->Int)):Prop:=∃keys,Kn P n A keys
theorem In.init{n:Nat}(j:P=2∨P=3):In P n []:=⟨_,Kn.init ∅⟩
theorem In.step{n:Nat}(j:P=2∨P=3){t:List Int}(h:In P n A)(z:Vr P n t)(B:¬Sp P n A (gf t)):In P n (A++[gf t]):=let⟨k,h⟩:=h; ⟨_,h.step j z B⟩
theorem In.ch{P n:Nat}(j:P=2∨P=3):∀{ts:List (List Int)} {A:List (Nat->Int)},In P n A->(∀t∈ts,Vr P n t)->In P n (chF P n A ts)
 |[],A,h,_=>h
 |t::ts,A,h,z=>by
  by_cases e:Sp P n A (gf t)
  ·rw[bK e];exact In.ch j h λx hx=>z x (HR _ hx)
  ·rw[aO e];exact In.ch j (h.step j (z t I0) e) λx hx=>z x (HR _ hx)
theorem fH{α:Type}[DecidableEq α]:∀{l₁ l₂:List α},l₁.Nodup->(∀x∈l₁,x∈l₂)->l₁.length<=l₂.length
 |[],_,_,_=>JG _
 |a::l,l₂,h,hs=>by
  rw[JK]at h;have j:=hs a I0;have ih:=fH (l₂:=l₂.erase a) h.2 λx hx=>(List.mem_erase_of_ne λz=>h.1 (by rw[<-z];exact hx)).mpr (hs x (HR _ hx))
  rw[List.length_erase_of_mem j]at ih;have:=List.length_pos_of_mem j;rw[Iv];lia
theorem yt{a b:Nat}(j:P=2∨P=3)(h:P^a<=P^b):a<=b:=by
 rcases OR b a with k|k
 ·have:=Nat.pow_lt_pow_right (a:=P) ∅ k
  lia
 ·exact k
theorem In.le{n:Nat}(j:P=2∨P=3)(z:In P n A)(F:In P n B)(h:∀v,Vr P n v->Sp P n A (gf v)->Sp P n B (gf v)):A.length<=B.length:=by obtain⟨k,ka⟩:=z;obtain⟨l,kb⟩:=F;have:=fH ka.nd λx hx=>(kb.mem x).mpr ⟨((ka.mem x).mp hx).1,h x ((ka.mem x).mp hx).1 ((ka.mem x).mp hx).2⟩;rw[ka.len,kb.len]at this;exact yt j this
theorem In.all{n:Nat}(O:P=2∨P=3)(j:In P n A)(F:In P n B)(h:∀v,Vr P n v->Sp P n A (gf v)->Sp P n B (gf v))(e:A.length=B.length)(J:Vr P n v)(hs:Sp P n B (gf v)):Sp P n A (gf v):=by
 obtain⟨k,ka⟩:=j;obtain⟨l,kb⟩:=F;apply J4;intro L;have hm:v∉k:=λz=>L ((ka.mem v).mp z).2;have:=fH (l₁:=v::k) (l₂:=l) (JK.mpr ⟨hm,ka.nd⟩) λx hx=>by
  rcases Ij.mp hx with rfl|hx
  ·exact(kb.mem x).mpr ⟨J,hs⟩
  ·exact(kb.mem x).mpr ⟨((ka.mem x).mp hx).1,h x ((ka.mem x).mp hx).1 ((ka.mem x).mp hx).2⟩
 rw[Iv,ka.len,kb.len,e]at this;lia
theorem Bs.le{n:Nat}(h:Bs P n A base):A.length<=n:=by
 have nd:(base.map (·.1)).Nodup:=by rw[Jn,K6];refine Lj (λ{a b} ha hb hab e=>?_) h.tri;rw[e,(h.pl b hb).2]at hab;exact absurd hab (by decide)
 have:=fH (l₂:=HV n) nd λx hx=>by obtain⟨e,he,rfl⟩:=HQ.mp hx;exact Io.mpr (h.pl e he).1
 rw[hG,Ic,h.len]at this;exact this
noncomputable def dl(k:Nat):Nat->Int:=λx=>if x=k then 1 else 0
theorem Sp.units{p:Int}{n:Nat}(h:∀k,k<n->Sp p n B (dl k))(f:Nat->Int):Sp p n B f:=by
 have go:∀k,k<=n->Sp p n B λx=>if x<k then f x else 0:=by
  intro k
  induction k with
  |zero=>intro _;exact Ss λx _=>by simp
  |succ k ih=>
   intro j;refine((ih ∅).comb (k:=f k) (h k ∅)).congr λx _=>?_
   unfold dl
   by_cases e:x=k
   ·subst e;simp
   ·by_cases e2:x<k
    ·rw[if_pos e2,if_neg e,if_pos ∅];simp
    ·rw[if_neg e2,if_neg e,if_neg ∅];simp
 exact(go n (HW _)).congr λx hx=>by rw[if_pos hx];simp
end
section
open L2.Srt
noncomputable def bn:Nat->Nat->Nat
 |_,0=>1
 |0,_+1=>0
 |n+1,k+1=>bn n k+bn n (k+1)
theorem bn_0{n:Nat}:bn n 0=1:=by cases n<;>rfl
theorem dR:∀{n k:Nat},n<k->bn n k=0
 |0,k+1,_=>rfl
 |n+1,k+1,h=>by show bn n k+bn n (k+1)=0;rw[dR (show n<k by lia),dR (show n<k+1 by lia)]
theorem ve:∀{n k:Nat},k<=n->1<=bn n k
 |n,0,_=>by rw[bn_0];exact HW _
 |n+1,k+1,h=>by
  show 1<=bn n k+bn n (k+1);have:=ve (n:=n) (k:=k) ∅
  lia
theorem qC{n:Nat}:bn n n=1:=by
 induction n with
 |zero=>rfl
 |succ n ih=>show bn n n+bn n (n+1)=1;rw[ih,dR ∅]
theorem kx:∀{n a b:Nat},a+b=n->bn n a=bn n b
 |0,a,b,h=>by
  have:a=0:=∅
  have:b=0:=∅
  subst a;subst b;rfl
 |n+1,0,b,h=>by
  have:b=n+1:=∅
  subst this;rw[bn_0,qC]
 |n+1,a+1,0,h=>by
  have:a=n:=∅
  subst this;rw[bn_0,qC]
 |n+1,a+1,b+1,h=>by show bn n a+bn n (a+1)=bn n b+bn n (b+1);rw[kx (show a+(b+1)=n by lia),kx (show(a+1)+b=n by lia),Qw]
theorem BY{k:Nat}:bn m k*(k+1)+bn m k*(m-k)=bn m k*(m+1):=by
 by_cases h:k<=m
 ·rw[<-Nat.mul_add,show k+1+(m-k)=m+1 by lia]
 ·rw[dR ∅];simp
theorem gU:∀{m k:Nat},bn m (k+1)*(k+1)=bn m k*(m-k)
 |0,k=>by simp[bn]
 |m+1,0=>by have ih:=gU (m:=m) (k:=0);have e:bn (m+1) (0+1)=bn m 0+bn m (0+1):=rfl;rw[bn_0]at ih;rw[e,bn_0,bn_0];lia
 |m+1,k+1=>by
  have j:=gU (m:=m) (k:=k+1);have z:=gU (m:=m) (k:=k);have a1:=BY (m:=m) (k:=k+1);have B:bn (m+1) (k+1+1)=bn m (k+1)+bn m (k+1+1):=rfl;have F:bn (m+1) (k+1)=bn m k+bn m (k+1):=rfl;have J:m+1-(k+1)=m-k:=∅
  have a2:bn m (k+1)*(k+1)+bn m (k+1)*(m-k)=bn m (k+1)*(m+1):=by
   by_cases h:k<=m
   ·rw[<-Nat.mul_add,show k+1+(m-k)=m+1 by lia]
   ·rw[dR (show m<k+1 by lia)];simp
  rw[B,F,J,Nat.add_mul,Nat.add_mul,j,<-z,a1,a2]
noncomputable def cnt(m:Nat):Nat->Nat
 |0=>1
 |k+1=>cnt m k*(m-k) / (k+1)
theorem vf{m:Nat}:∀k,cnt m k=bn m k
 |0=>bn_0.symm
 |k+1=>by show cnt m k*(m-k) / (k+1)=_;rw[vf k,<-gU,Nat.mul_div_cancel _ ∅]
theorem A6{e:Nat}(h:e<=m):cnt m (min e (m-e))=bn m e:=by
 rw[vf]
 by_cases k:e<=m-e
 ·rw[LH k]
 ·rw[Nat.min_eq_right ∅];exact kx ∅
theorem vg{r:Nat}:∀{M:Nat},((HV (M-r)).map λi=>bn (M-(i+1)) r).sum=bn M (r+1)
 |0=>by simp[bn]
 |M+1=>by
  by_cases h:r<=M
  ·rw[show M+1-r=(M-r)+1 by lia,List.range_succ_eq_map,Ii,Qa,Jr]
   have ih:=vg (r:=r) (M:=M);show _=bn M r+bn M (r+1);rw[<-ih];congr 1;congr 1;refine Jh λi _=>?_;show bn (M+1-(i+1+1)) r=_;congr 1;lia
  ·rw[show M+1-r=0 by lia,dR ∅];rfl
noncomputable def fsx(c:List Nat):Nat:=match c.getLast? with|none=>0|some x=>x+1
noncomputable def exs(m e k:Nat)(c:List Nat):List (List Nat):=(HV (m-e+k+1-fsx c)).map λi=>c++[fsx c+i]
noncomputable def stp(m e k:Nat)(cs:List (List Nat)):List (List Nat):=cs.flatMap (exs m e k)
noncomputable def sts(m e:Nat):Nat->List (List Nat)
 |0=>[[]]
 |k+1=>stp m e k (sts m e k)
theorem cR{c:List Nat}{x:Nat}:fsx (c++[x])=x+1:=by unfold fsx;simp
theorem dS{m e:Nat}:∀{k:Nat},∀c,c∈sts m e k↔c.length=k/\c.Pairwise (· < ·)/\∀(i x:Nat),c[i]?=E x->x<=m-e+i
 |0,c=>by
  constructor
  ·intro h;have:c=[]:=by simpa[sts]using h
   subst this;exact⟨rfl,.nil,by simp⟩
  ·rintro⟨h,_,_⟩;rw[Jf.mp h];simp[sts]
 |k+1,c=>by
  constructor
  ·intro h;obtain⟨u,F,h⟩:=IE.mp (show c∈(sts m e k).flatMap (exs m e k)from h);obtain⟨i,hi,rfl⟩:=HQ.mp h;have hi:=Io.mp hi;obtain⟨h1,h2,B⟩:=(dS u).mp F;refine⟨by rw[hQ,h1];rfl,?_,λj x hx=>?_⟩
   ·rw[IH];refine⟨h2,by simp,λa z b O=>?_⟩
    rw[Im.mp O]
    rcases JA u with rfl|⟨u',y,rfl⟩
    ·cases z
    ·rw[Jm]at *
     rw[cR]
     rcases Ie.mp z with z|z
     ·have:=(IH.mp h2).2.2 a z y (by simp)
      lia
     ·rw[Im.mp z];lia
   ·by_cases hj:j<u.length
    ·rw[HX hj]at hx;exact B j x hx
    ·rw[HP ∅]at hx
     have:j-u.length=0:=by have:=(HU.mp hx).1;simp at this;lia
     rw[this]at hx;have hx:fsx u+i=x:=by simpa using hx
     lia
  ·rintro⟨h1,h2,B⟩
   rcases JA c with rfl|⟨u,x,rfl⟩
   ·simp at h1
   ·rw[Jm]at *
    rw[IH]at h2;have J:u.length=k:=by rw[hQ,IA]at h1;lia
    have F:=(dS (m:=m) (e:=e) (k:=k) u).mpr ⟨J,h2.1,λi y L=>B i y (by rw[HX (HU.mp L).1];exact L)⟩
    have hx:=B k x (by rw[HP ∅,J,MD];rfl)
    have hf:fsx u<=x:=by
     rcases JA u with rfl|⟨u',y,rfl⟩
     ·exact JG _
     ·rw[Jm]at *
      rw[cR];exact h2.2.2 y (by simp) x (by simp)
    show _∈(sts m e k).flatMap (exs m e k);exact IE.mpr ⟨u,F,HQ.mpr ⟨x-fsx u,Io.mpr ∅,by rw[show fsx u+(x-fsx u)=x by lia]⟩⟩
theorem oK{m:Nat}:∀{c:List Nat},c.Pairwise (· < ·)->(∀x∈c,x<m)->∀(i x:Nat),c[i]?=E x->x+(c.length-i)<=m
 |a::c,h,hm,0,x,e=>by
  have:a=x:=by simpa using e
  subst this;have j:=hm a I0
  cases c with
  |nil=>simp;lia
  |cons b c=>have ih:=oK (c:=b::c) (KR.mp h).2 (λx hx=>hm x (HR _ hx)) 0 b rfl;have:=(KR.mp h).1 b I0;rw[Iv];lia
 |a::c,h,hm,i+1,x,e=>by
  have ih:=oK (c:=c) (KR.mp h).2 (λx hx=>hm x (HR _ hx)) i x (by simpa using e)
  rw[Iv];lia
theorem ky{e:Nat}{c:List Nat}(j:c.length=e)(h:c.Pairwise (· < ·))(hm:∀x∈c,x<m):c∈sts m e e:=by refine(dS c).mpr ⟨j,h,λi x hx=>?_⟩;have:=oK h hm i x hx;have hi:=(HU.mp hx).1;lia
theorem oM{e:Nat}(he:e<=m){c:List Nat}(h:c∈sts m e e):c.length=e/\c.Pairwise (· < ·)/\∀x∈c,x<m:=by obtain⟨h1,h2,j⟩:=(dS c).mp h;refine⟨h1,h2,λx hx=>?_⟩;obtain⟨i,hi⟩:=JY hx;have:=j i x hi;have:=(HU.mp hi).1;lia
theorem oO{α β:Type}(f:α->List β)(g:β->Nat):∀l:List α,((l.flatMap f).map g).sum=(l.map λa=>((f a).map g).sum).sum
 |[]=>rfl
 |a::l=>by rw[Jb,HS,List.sum_append,oO f g l,Ii,Qa]
theorem qD{m e:Nat}(he:e<=m):∀{k:Nat},k<=e->((sts m e k).map λc=>bn (m-fsx c) (e-k)).sum=bn m e
 |0,_=>by simp[sts,fsx]
 |k+1,j=>by
  show(((sts m e k).flatMap (exs m e k)).map λc=>bn (m-fsx c) (e-(k+1))).sum=_;rw[oO,<-qD he (k:=k) ∅]
  congr 1;refine Jh λc _=>?_;have h:=vg (r:=e-(k+1)) (M:=m-fsx c);rw[show e-(k+1)+1=e-k by lia]at h
  rw[<-h];unfold exs;rw[Jr,show m-e+k+1-fsx c=m-fsx c-(e-(k+1)) by lia]
  congr 1;refine Jh λi _=>?_;show bn (m-fsx (c++[fsx c+i])) _=_;rw[cR];congr 1;lia
theorem oP{α:Type}(g:α->Nat):∀{l:List α},(∀a∈l,1<=g a)->l.length<=(l.map g).sum
 |[],_=>JG _
 |a::l,h=>by have:=oP g (l:=l) λx hx=>h x (HR _ hx);have:=h a I0;rw[Ii,Qa,Iv];lia
theorem A7{e:Nat}(he:e<=m){k:Nat}(j:k<=e):(sts m e k).length<=bn m e:=by
 rw[<-qD he j];refine oP _ λc z=>ve ?_;obtain⟨h1,h2,B⟩:=(dS c).mp z
 rcases JA c with rfl|⟨u,x,rfl⟩
 ·show e-k<=m-0;lia
 ·rw[Jm]at *
  rw[cR];have F:u.length+1=k:=by simpa using h1
  have:=B u.length x (by simp)
  lia
end
section
open L2.Srt
noncomputable def cm(g:Nat->Nat->Int)(c:Nat->Int):Nat->Nat->Int
 |0,_=>0
 |k+1,x=>cm g c k x+c k*g k x
theorem ef{g g':Nat->Nat->Int}{c c':Nat->Int}{x:Nat}:∀{k:Nat},(∀i,i<k->c i*g i x=c' i*g' i x)->cm g c k x=cm g' c' k x
 |0,_=>rfl
 |k+1,h=>by show cm g c k x+c k*g k x=cm g' c' k x+c' k*g' k x;rw[ef λi hi=>h i ∅,h k ∅]
theorem qE{g:Nat->Nat->Int}{c:Nat->Int}{a:Int}{x:Nat}:∀{k:Nat},cm g (λi=>a*c i) k x=a*cm g c k x
 |0=>by simp[cm]
 |k+1=>by show cm g (λi=>a*c i) k x+a*c k*g k x=a*(cm g c k x+c k*g k x);rw[qE,Ob,LL]
theorem oQ{g:Nat->Nat->Int}{c d:Nat->Int}{x:Nat}:∀{k:Nat},cm g (λi=>d i-c i) k x=cm g d k x-cm g c k x
 |0=>by simp[cm]
 |k+1=>by show cm g (λi=>d i-c i) k x+(d k-c k)*g k x=cm g d k x+d k*g k x-(cm g c k x+c k*g k x);rw[oQ,Ry];lia
theorem sp_cm{p:Int}{n:Nat}{g:Nat->Nat->Int}:∀{k:Nat} {f:Nat->Int},Sp p n ((HV k).map g) f↔∃c:Nat->Int,∀x,x<n->p ∣ f x-cm g c k x
 |0,f=>by
  constructor
  ·intro h;exact⟨λ_=>0,λx hx=>by have:=h x hx;simpa[cm]using this⟩
  ·rintro⟨c,h⟩ x hx;have:=h x hx;simpa[cm]using this
 |k+1,f=>by
  rw[L6,HS,Ii,JC,Sp.snoc];constructor
  ·rintro⟨a,h⟩;obtain⟨c,h⟩:=sp_cm.mp h;refine⟨λi=>if i=k then a else c i,λx hx=>?_⟩
   have:=h x hx;show p ∣ f x-(cm g (λi=>if i=k then a else c i) k x+(if k=k then a else c k)*g k x)
   rw[if_pos rfl,ef (g':=g) (c':=c) λi hi=>by rw[if_neg ∅]]
   rwa[show f x-(cm g c k x+a*g k x)=f x-a*g k x-cm g c k x by lia]
  ·rintro⟨c,h⟩;refine⟨c k,sp_cm.mpr ⟨c,λx hx=>?_⟩⟩;have:=h x hx
   rwa[show f x-cm g c (k+1) x=f x-c k*g k x-cm g c k x by show f x-(cm g c k x+c k*g k x)=_;lia]at this
theorem sq1(j:P=2∨P=3)(h:¬(P:Int) ∣ c):(P:Int) ∣ c*c-1:=by
 have h0:=Jk c (show(P:Int)≠0 by lia)
 have h1:=IX c (show(0:Int)<P by lia)
 have hw:c%P≠0:=λz=>h (OA z);have a:=oG (p:=P) ∅ (w:=c%P) ∅ h1
 have b:(P:Int) ∣ (c-c%P)*(c+c%P):=J2 bb;have:=JH b a
 rwa[show(c-c%P)*(c+c%P)+(c%P*(c%P)-1)=c*c-1 by grind]at this
theorem vh{P n m:Nat}(z:P=2∨P=3){g:Nat->Nat->Int}(hi:∀k,k<m->¬Sp P n ((HV k).map g) (g k)){c:Nat->Int}:∀{k:Nat},k<=m->(∀x,x<n->(P:Int) ∣ cm g c k x)->∀i,i<k->(P:Int) ∣ c i
 |0,_,_,i,h=>absurd h ∅
 |k+1,F,h,i,B=>by
  by_cases j:(P:Int) ∣ c k
  ·have ih:=vh z hi (k:=k) ∅ fun x hx=>by
    have a:=h x hx;have b:(P:Int) ∣ c k*g k x:=J2 j;have:=Kc a b
    rwa[show cm g c (k+1) x-c k*g k x=cm g c k x by show cm g c k x+c k*g k x-c k*g k x=_;lia]at this
   by_cases e:i=k
   ·rw[e];exact j
   ·exact ih i ∅
  ·exfalso
   apply hi k ∅
   refine sp_cm.mpr ⟨λi=>-(c k)*c i,λx hx=>?_⟩;rw[qE];have a:(P:Int) ∣ c k*cm g c (k+1) x:=IK (h x hx);have b:(P:Int) ∣ (c k*c k-1)*g k x:=J2 (sq1 z j);have:=Kc a b
   rwa[show c k*cm g c (k+1) x-(c k*c k-1)*g k x=g k x - -(c k)*cm g c k x by show c k*(cm g c k x+c k*g k x)-_=_;grind]at this
theorem Sp.less{p:Int}{n N:Nat}(h:n<=N):∀{bs:List (Nat->Int)} {f:Nat->Int},Sp p N bs f->Sp p n bs f
 |[],f,s=>λx hx=>s x ∅
 |b::bs,f,⟨c,s⟩=>⟨c,s.less h⟩
theorem Dy{n:Nat}(hP:P=2∨P=3){g mk:Nat->Nat->Int}(hi:∀k,k<m->¬Sp P n ((HV k).map g) (g k))(h1:∀i x,i<m->x<n->mk i x=g i x)(h2:∀i j,i<m->j<m->mk i (n+j)=if j=i then 1 else 0)(z:Bs P (n+m) ((HV m).map mk) base)(hf:∀e∈base,∀x,x<e.1->gf e.2 x=0){t t0:List Int}(ht:Vr P (n+m) t0)(e1:∀x,x<n->gf t0 x=gf t x)(L:∀j,j<m->gf t0 (n+j)=0)(hs:Sp P n ((HV m).map g) (gf t)):
 ∀x,x<n->(P:Int) ∣ gf t x-cm g (λi=>(-(gf (wo P base t0) (n+i)))%P) m x:=by
 have B:0<P:=∅
 have cmg:∀(c:Nat->Int) x,x<n->cm mk c m x=cm g c m x:=λc x hx=>ef λi hi=>by rw[h1 i x hi hx]
 have cmm:∀(c:Nat->Int) j,j<m->cm mk c m (n+j)=c j:=by
  intro c j O;have:∀k,k<=m->cm mk c k (n+j)=if j<k then c j else 0:=by
   intro k
   induction k with
   |zero=>intro _;simp[cm]
   |succ k ih=>
    intro hk;show cm mk c k (n+j)+c k*mk k (n+j)=_;rw[ih ∅,h2 k j ∅ O]
    by_cases e:j=k
    ·subst e;rw[if_neg ∅,if_pos rfl,if_pos ∅];lia
    ·by_cases L:j<k
     ·rw[if_pos L,if_neg e,if_pos ∅];lia
     ·rw[if_neg L,if_neg e,if_neg ∅];lia
  rw[this m (HW _),if_pos O]
 have U:∀e∈base,e.1<n:=by
  intro e he;apply J4;intro F;have Y:Sp P (n+m) (base.map λe=>gf e.2) (gf e.2):=by
   obtain⟨l,r,rfl⟩:=Qr he;rw[HS,Ii,show(l.map λe=>gf e.2)++(gf e.2::r.map λe=>gf e.2)=((l.map λe=>gf e.2)++[gf e.2])++r.map λe=>gf e.2 by simp]
   exact Sp.last.moreL _
  obtain⟨c,J⟩:=sp_cm.mp ((z.sp _).mp Y);have F2:=vh hP hi (c:=c) (HW m) λx hx=>by
   have:=J x ∅
   rw[hf e he x ∅,cmg c x hx,Int.zero_sub]at this
   rwa[<-KJ]
  obtain⟨Gp,Gq⟩:=z.pl e he;have:=J e.1 Gp;obtain⟨j,O⟩:∃j,e.1=n+j:=⟨e.1-n,∅⟩
  rw[Gq,O,cmm c j ∅]at this
  have h9:=JH this (F2 j ∅)
  rw[show(1:Int)-c j+c j=1 by lia]at h9
  have:=Int.le_of_dvd (by decide) h9
  lia
 obtain⟨c,J⟩:=sp_cm.mp ((z.sp _).mp (mL B z.vr ht));obtain⟨d,hd⟩:=sp_cm.mp hs;have F2:=gR B z.vr z.pl z.tri ht;have Gr:=iF (P:=P) (f:=cm mk (λi=>d i-c i) m) z.pl z.tri (λe he=>by
  have F:=U e he;have a:=J e.1 ∅
  have b:=hd e.1 F;rw[F2 e he,e1 _ F,cmg c _ F]at a;rw[cmg _ _ F,oQ];have:=Kc a b
  rwa[show gf t e.1-0-cm g c m e.1-(gf t e.1-cm g d m e.1)=cm g d m e.1-cm g c m e.1 by lia]at this) ((z.sp _).mpr (sp_cm.mpr ⟨λi=>d i-c i,λx _=>by rw[Int.sub_self];exact J7 _⟩))
 intro x hx;have Gs:∀i,i<m->(P:Int) ∣ d i-(-(gf (wo P base t0) (n+i)))%P:=by
  intro i hi;have a:=Gr (n+i) ∅
  rw[cmm _ i hi]at a;have b:=J (n+i) ∅
  rw[L i hi,cmm c i hi]at b;have e:=JH (Kc a b) (bb (p:=P) (a:=-(gf (wo P base t0) (n+i))))
  rwa[show d i-c i-(0-gf (wo P base t0) (n+i)-c i)+(-(gf (wo P base t0) (n+i)) - -(gf (wo P base t0) (n+i))%P)=d i - -(gf (wo P base t0) (n+i))%P by lia]at e
 have a:=hd x hx;have b:(P:Int) ∣ cm g (λi=>d i-(-(gf (wo P base t0) (n+i)))%P) m x:=by
  have:∀k,k<=m->(P:Int) ∣ cm g (λi=>d i-(-(gf (wo P base t0) (n+i)))%P) k x:=by
   intro k
   induction k with
   |zero=>intro _;exact J7 _
   |succ k ih=>intro hk;exact JH (ih ∅) (J2 (Gs k ∅))
  exact this m (HW _)
 rw[oQ]at b;have:=JH a b
 rwa[show gf t x-cm g d m x+(cm g d m x-cm g (λi=>-gf (wo P base t0) (n+i) % ↑P) m x)=gf t x-cm g (λi=>-gf (wo P base t0) (n+i) % ↑P) m x by lia]at this
end
section
namespace K46
noncomputable def ai(i:Nat):Stmt:=PySem.Challenge.pw_fewtimes_k46_least_counts_kept.main.body.getD i (.Pass ⟨0,0,0,0⟩)
noncomputable def b0:MSs:=
 (.cons (.asg (.name 2) (.bin .mul (.lst (.cons (.int 0) .nil)) (.var 0)))
 (.cons (.put (.var 2) (.var 1) (.int 1))
 (.cons (.ret (.var 2))
 .nil)))
noncomputable def d0:FD:=⟨"single_one",ai 1,["length","at","row"],2,b0⟩
noncomputable def b1:MSs:=
 (.cons (.asg (.name 2) (.lst (.cons (.tup .nil) .nil)))
 (.cons (.for (.name 3) (.rng1 (.var 0)) (.cons (.asg (.name 2) (.comp [Z,Z,(E 1)] ["row","x","p"] (.more (.seq (.var 2)) (.name 0) .nil (.last (.rng1 (.var 2)) (.name 1) .nil (.bin .add (.var 0) (.tup (.cons (.var 1) .nil)))))))
 .nil))
 (.cons (.ret (.var 2))
 .nil)))
noncomputable def d1:FD:=⟨"rows_over",ai 3,["length","p","rows","turn"],2,b1⟩
noncomputable def b2:MSs:=
 (.cons (.asg (.name 1) (.comp [Z] ["x"] (.last (.seq (.var 0)) (.name 0) (.cons (.cmp .ne (.var 0) (.int 0)) .nil) (.var 0))))
 (.cons (.ret (.and (.cons (.cmp .gt (.blt .len (.cons (.var 1) .nil)) (.int 0)) (.cons (.cmp .eq (.ix (.var 1) (.int 0)) (.int 1)) .nil))))
 .nil))
noncomputable def d2:FD:=⟨"begins_with_one",ai 4,["row","some"],1,b2⟩
noncomputable def b3:MSs:=
 (.cons (.asg (.name 3) (.comp [Z] ["row"] (.last (.seq (.call 1 (.cons (.var 1) (.cons (.var 2) .nil)))) (.name 0) (.cons (.tru (.call 2 (.cons (.var 0) .nil))) .nil) (.var 0))))
 (.cons (.ret (.comp [Z,Z,(E 3)] ["l","r","rights"] (.more (.seq (.call 1 (.cons (.var 0) (.cons (.var 2) .nil)))) (.name 0) (.cons (.tru (.call 2 (.cons (.var 0) .nil))) .nil) (.last (.seq (.var 2)) (.name 1) .nil (.tup (.cons (.var 0) (.cons (.var 1) .nil)))))))
 .nil))
noncomputable def d3:FD:=⟨"pairs_over",ai 5,["left","right","p","rights"],3,b3⟩
noncomputable def b4:MSs:=
 (.cons (.asg (.tup (.cons (.name 2) (.cons (.name 3) .nil))) (.var 0))
 (.cons (.ret (.blt .tuple (.cons (.comp [Z,Z,(E 1),(E 3)] ["x","y","p","r"] (.more (.seq (.var 2)) (.name 0) .nil (.last (.seq (.var 3)) (.name 1) .nil (.bin .mod (.bin .mul (.var 0) (.var 1)) (.var 2))))) .nil)))
 .nil))
noncomputable def d4:FD:=⟨"pair_table",ai 6,["pair","p","l","r"],2,b4⟩
noncomputable def b5:MSs:=
 (.cons (.asg (.tup (.cons (.name 2) (.cons (.name 3) (.cons (.name 4) (.cons (.name 5) .nil))))) (.var 0))
 (.cons (.asg (.name 6) (.comp [Z,(E 2),(E 3)] ["k","left","right"] (.last (.rng1 (.var 4)) (.name 0) .nil (.bin .mul (.lst (.cons (.int 0) .nil)) (.bin .mul (.var 1) (.var 2))))))
 (.cons (.for (.tup (.cons (.name 7) (.cons (.name 8) (.cons (.name 9) (.cons (.name 10) .nil))))) (.seq (.var 5)) (.cons (.put (.ix (.var 6) (.var 7)) (.bin .add (.bin .mul (.var 8) (.var 3)) (.var 9)) (.bin .mod (.var 10) (.var 1)))
 .nil))
 (.cons (.ret (.comp [Z] ["table"] (.last (.seq (.var 6)) (.name 0) .nil (.blt .tuple (.cons (.var 0) .nil)))))
 .nil))))
noncomputable def d5:FD:=⟨"tables_over",ai 7,["task","p","left","right","many","terms","tables","k","i","j","c"],2,b5⟩
noncomputable def b6:MSs:=
 (.cons (.for (.tup (.cons (.name 3) (.cons (.name 4) .nil))) (.seq (.var 1)) (.cons (.asg (.name 5) (.ix (.var 0) (.var 3)))
 (.cons (.ite (.cmp .ne (.var 5) (.int 0)) (.cons (.asg (.name 0) (.blt .tuple (.cons (.comp [Z,Z,(E 5),(E 2)] ["x","y","c","p"] (.last (.zip (.var 0) (.var 4)) (.tup (.cons (.name 0) (.cons (.name 1) .nil))) .nil (.bin .mod (.bin .sub (.var 0) (.bin .mul (.var 2) (.var 1))) (.var 3)))) .nil)))
 .nil) .nil)
 .nil)))
 (.cons (.ret (.var 0))
 .nil))
noncomputable def d6:FD:=⟨"without",ai 8,["row","base","p","place","other","c"],3,b6⟩
noncomputable def b7:MSs:=
 (.cons (.ret (.not (.blt .any (.cons (.call 6 (.cons (.var 0) (.cons (.var 1) (.cons (.var 2) .nil)))) .nil))))
 .nil)
noncomputable def d7:FD:=⟨"is_sum",ai 9,["row","base","p"],3,b7⟩
noncomputable def b8:MSs:=
 (.cons (.ret (.ix (.comp [Z,Z] ["at","x"] (.last (.enum (.var 0)) (.tup (.cons (.name 0) (.cons (.name 1) .nil))) (.cons (.cmp .ne (.var 1) (.int 0)) .nil) (.var 0))) (.int 0)))
 .nil)
noncomputable def d8:FD:=⟨"first_filled",ai 10,["row"],1,b8⟩
noncomputable def b9:MSs:=
 (.cons (.asg (.name 3) (.blt .list (.cons (.var 0) .nil)))
 (.cons (.for (.name 4) (.seq (.var 1)) (.cons (.asg (.name 5) (.call 6 (.cons (.var 4) (.cons (.var 3) (.cons (.var 2) .nil)))))
 (.cons (.ite (.tru (.blt .any (.cons (.var 5) .nil))) (.cons (.asg (.name 6) (.call 8 (.cons (.var 5) .nil)))
 (.cons (.drop (.meth .append (.var 3) (.tup (.cons (.var 6) (.cons (.blt .tuple (.cons (.comp [Z,(E 5),(E 6),(E 2)] ["x","rest","place","p"] (.last (.seq (.var 5)) (.name 0) .nil (.bin .mod (.bin .mul (.ix (.var 1) (.var 2)) (.var 0)) (.var 3)))) .nil)) .nil)))))
 .nil)) .nil)
 .nil)))
 (.cons (.ret (.var 3))
 .nil)))
noncomputable def d9:FD:=⟨"grown",ai 11,["base","rows","p","made","row","rest","place"],3,b9⟩
noncomputable def b10:MSs:=
 (.cons (.asg (.name 2) (.int 1))
 (.cons (.for (.name 3) (.rng1 (.blt .min2 (.cons (.var 1) (.cons (.bin .sub (.var 0) (.var 1)) .nil)))) (.cons (.asg (.name 2) (.bin .fdiv (.bin .mul (.var 2) (.bin .sub (.var 0) (.var 3))) (.bin .add (.var 3) (.int 1))))
 .nil))
 (.cons (.ret (.var 2))
 .nil)))
noncomputable def d10:FD:=⟨"many_sets",ai 14,["many","e","count","at"],2,b10⟩
noncomputable def b11:MSs:=
 (.cons (.asg (.name 2) (.lst (.cons (.tup .nil) .nil)))
 (.cons (.for (.name 3) (.rng1 (.var 1)) (.cons (.asg (.name 2) (.comp [Z,Z,(E 0),(E 1),(E 3)] ["chosen","x","many","e","at"] (.more (.seq (.var 2)) (.name 0) .nil (.last (.rng2 (.ite (.tru (.var 0)) (.bin .add (.ix (.var 0) (.neg (.int 1))) (.int 1)) (.int 0)) (.bin .add (.bin .add (.bin .sub (.var 2) (.var 3)) (.var 4)) (.int 1))) (.name 1) .nil (.bin .add (.var 0) (.tup (.cons (.var 1) .nil)))))))
 .nil))
 (.cons (.ret (.var 2))
 .nil)))
noncomputable def d11:FD:=⟨"sets_of",ai 15,["many","e","sets","at"],2,b11⟩
noncomputable def b12:MSs:=
 (.cons (.par 3 4 (.lst .nil) (.lst .nil))
 (.cons (.for (.tup (.cons (.name 5) (.cons (.name 6) .nil))) (.enum (.var 1)) (.cons (.ite (.and (.cons (.tru (.call 7 (.cons (.var 6) (.cons (.var 0) (.cons (.var 2) .nil))))) (.cons (.not (.tru (.call 7 (.cons (.var 6) (.cons (.var 4) (.cons (.var 2) .nil)))))) .nil))) (.cons (.drop (.meth .append (.var 3) (.var 5)))
 (.cons (.asg (.name 4) (.call 9 (.cons (.var 4) (.cons (.lst (.cons (.var 6) .nil)) (.cons (.var 2) .nil)))))
 .nil)) .nil)
 .nil))
 (.cons (.ret (.tup (.cons (.var 3) (.cons (.var 4) .nil))))
 .nil)))
noncomputable def d12:FD:=⟨"pairs_within",ai 16,["space","tables","p","chosen","base","at","table"],3,b12⟩
noncomputable def b13:MSs:=
 (.cons (.asg (.tup (.cons (.name 3) (.cons (.name 4) .nil))) (.tup (.cons (.blt .len (.cons (.var 1) .nil)) (.cons (.blt .len (.cons (.ix (.var 0) (.int 0)) .nil)) .nil))))
 (.cons (.asg (.name 5) (.comp [Z,Z,(E 3)] ["at","table","many"] (.last (.enum (.var 1)) (.tup (.cons (.name 0) (.cons (.name 1) .nil))) .nil (.bin .add (.var 1) (.blt .tuple (.cons (.call 0 (.cons (.var 2) (.cons (.var 0) .nil))) .nil))))))
 (.cons (.asg (.name 6) (.call 9 (.cons (.lst .nil) (.cons (.var 5) (.cons (.var 2) .nil)))))
 (.cons (.ret (.comp [Z,(E 3),(E 6),(E 2),(E 4)] ["table","many","base","p","length"] (.last (.seq (.var 0)) (.name 0) .nil (.comp [Z,(E 3)] ["x","p"] (.last (.seq (.sl (.call 6 (.cons (.bin .add (.var 0) (.bin .mul (.tup (.cons (.int 0) .nil)) (.var 1))) (.cons (.var 2) (.cons (.var 3) .nil)))) (.some (.var 4)) .none)) (.name 0) .nil (.bin .mod (.neg (.var 0)) (.var 1)))))))
 .nil))))
noncomputable def d13:FD:=⟨"shares",ai 17,["tables","chosen","p","many","length","marked","base"],3,b13⟩
noncomputable def b14:MSs:=
 (.cons (.asg (.tup (.cons (.name 3) (.cons (.name 4) (.cons (.name 5) (.cons (.name 6) .nil))))) (.var 0))
 (.cons (.asg (.name 7) (.call 13 (.cons (.call 5 (.cons (.var 0) (.cons (.var 2) .nil))) (.cons (.comp [Z,(E 2)] ["pair","p"] (.last (.seq (.var 1)) (.name 0) .nil (.call 4 (.cons (.var 0) (.cons (.var 1) .nil))))) (.cons (.var 2) .nil)))))
 (.cons (.ret (.tup (.cons (.var 3) (.cons (.var 4) (.cons (.var 5) (.cons (.comp [Z,Z,Z,(E 7)] ["at","l","r","outs"] (.last (.enum (.var 1)) (.tup (.cons (.name 0) (.cons (.tup (.cons (.name 1) (.cons (.name 2) .nil))) .nil))) .nil (.tup (.cons (.var 1) (.cons (.var 2) (.cons (.blt .tuple (.cons (.comp [Z,(E 0)] ["row","at"] (.last (.seq (.var 3)) (.name 0) .nil (.ix (.var 0) (.var 1)))) .nil)) .nil)))))) .nil))))))
 .nil)))
noncomputable def d14:FD:=⟨"scheme_by",ai 18,["task","pairs","p","left","right","many","terms","outs"],3,b14⟩
noncomputable def b15:MSs:=
 (.cons (.asg (.name 2) (.call 3 (.cons (.ix (.var 0) (.int 0)) (.cons (.ix (.var 0) (.int 1)) (.cons (.var 1) .nil)))))
 (.cons (.ret (.tup (.cons (.var 2) (.cons (.comp [Z,(E 1)] ["pair","p"] (.last (.seq (.var 2)) (.name 0) .nil (.call 4 (.cons (.var 0) (.cons (.var 1) .nil))))) (.cons (.call 9 (.cons (.lst .nil) (.cons (.call 5 (.cons (.var 0) (.cons (.var 1) .nil))) (.cons (.var 1) .nil)))) .nil)))))
 .nil))
noncomputable def d15:FD:=⟨"looked_at",ai 19,["task","p","pairs"],2,b15⟩
noncomputable def b16:MSs:=
 (.cons (.asg (.tup (.cons (.name 2) (.cons (.name 3) (.cons (.name 4) .nil)))) (.call 15 (.cons (.var 0) (.cons (.var 1) .nil))))
 (.cons (.asg (.name 5) (.int 0))
 (.cons (.while (.cmp .le (.call 10 (.cons (.blt .len (.cons (.var 2) .nil)) (.cons (.var 5) .nil))) (.glob "MOST_SETS" (.int 3000))) (.cons (.for (.name 6) (.seq (.call 11 (.cons (.blt .len (.cons (.var 2) .nil)) (.cons (.var 5) .nil)))) (.cons (.asg (.name 7) (.call 9 (.cons (.var 4) (.cons (.comp [Z,(E 3)] ["at","tables"] (.last (.seq (.var 6)) (.name 0) .nil (.ix (.var 1) (.var 0)))) (.cons (.var 1) .nil)))))
 (.cons (.asg (.tup (.cons (.name 8) (.cons (.name 9) .nil))) (.call 12 (.cons (.var 7) (.cons (.var 3) (.cons (.var 1) .nil)))))
 (.cons (.ite (.cmp .eq (.blt .len (.cons (.var 9) .nil)) (.blt .len (.cons (.var 7) .nil))) (.cons (.ret (.tup (.cons (.str (IF "least")) (.cons (.bin .add (.blt .len (.cons (.var 4) .nil)) (.var 5)) (.cons (.call 14 (.cons (.var 0) (.cons (.comp [Z,(E 2)] ["at","pairs"] (.last (.seq (.var 8)) (.name 0) .nil (.ix (.var 1) (.var 0)))) (.cons (.var 1) .nil)))) .nil)))))
 .nil) .nil)
 .nil))))
 (.cons (.aug 5 .add (.int 1))
 .nil)))
 (.cons (.ret (.tup (.cons (.str (IF "open")) (.cons (.bin .add (.blt .len (.cons (.var 4) .nil)) (.var 5)) .nil))))
 .nil))))
noncomputable def d16:FD:=⟨"least_over",ai 20,["task","p","pairs","tables","own","e","chosen","space","numbers","base"],2,b16⟩
noncomputable def d17:FD:=jt (ai 22)
noncomputable def d18:FD:=kh (ai 23)
noncomputable def d19:FD:=sF (ai 24) 17 18
noncomputable def d20:FD:=oy (ai 25) 18
noncomputable def d21:FD:=oA (ai 26) 25
noncomputable def d22:FD:=iD (ai 27) 20 21
noncomputable def d23:FD:=kw (ai 28)
noncomputable def b24:MSs:=
 (.cons (.ret (.comp [Z,(E 0)] ["_law_place","_law_sums_here"] (.last (.seq (.blt .sorts (.cons (.var 0) .nil))) (.name 0) .nil (.bin .add (.var 0) (.tup (.cons (.ix (.var 1) (.var 0)) .nil))))))
 .nil)
noncomputable def d24:FD:=⟨"_law_terms",ai 29,["_law_sums_here"],1,b24⟩
noncomputable def b25:MSs:=
 (.cons (.ret (.ix (.lst (.cons (.int 0) (.cons (.int 0) (.cons (.int 1) (.cons (.int 1) (.cons (.int 1) (.cons (.neg (.int 1)) (.cons (.neg (.int 1)) (.cons (.int 2) (.cons (.int 0) .nil)))))))))) (.call 20 (.cons (.var 0) (.cons (.int 9) .nil)))))
 .nil)
noncomputable def d25:FD:=⟨"_law_number",ai 30,["_law_box_here"],1,b25⟩
noncomputable def b26:MSs:=
 (.cons (.asg (.name 2) (.lrng (.var 1)))
 (.cons (.ret (.comp [Z,(E 2),(E 0)] ["_law_k","_law_left","_law_box_here"] (.last (.rng1 (.var 1)) (.name 0) .nil (.meth .pop (.var 1) (.call 20 (.cons (.var 2) (.cons (.blt .len (.cons (.var 1) .nil)) .nil)))))))
 .nil))
noncomputable def d26:FD:=⟨"_law_places",ai 31,["_law_box_here","_law_many","_law_left"],2,b26⟩
noncomputable def b27:MSs:=
 (.cons (.asg (.name 2) (.dnew N2))
 (.cons (.for (.tup (.cons (.name 3) (.cons (.name 4) (.cons (.name 5) (.cons (.name 6) .nil))))) (.seq (.var 1)) (.cons (.put (.var 2) (.tup (.cons (.var 3) (.cons (.var 4) (.cons (.var 5) .nil)))) (.bin .add (.dget (.var 2) (.tup (.cons (.var 3) (.cons (.var 4) (.cons (.var 5) .nil)))) (.int 0)) (.var 6)))
 .nil))
 (.cons (.asg (.name 7) (.comp [Z,(E 2)] ["_law_place","_law_sums_here"] (.last (.seq (.blt .sorts (.cons (.var 2) .nil))) (.name 0) (.cons (.cmp .ne (.ix (.var 1) (.var 0)) (.int 0)) .nil) (.var 0))))
 (.cons (.ret (.bin .add (.blt .tuple (.cons (.var 0) .nil)) (.tup (.cons (.comp [Z,(E 2)] ["_law_place","_law_sums_here"] (.last (.seq (.var 7)) (.name 0) .nil (.bin .add (.var 0) (.tup (.cons (.ix (.var 1) (.var 0)) .nil))))) .nil))))
 .nil))))
noncomputable def d27:FD:=⟨"_law_put",ai 32,["_law_lengths","_law_terms_here","_law_sums_here","_law_k","_law_i","_law_j","_law_c","_law_rising"],2,b27⟩
noncomputable def b28:MSs:=
 (.cons (.asg (.tup (.cons (.name 3) (.cons (.name 4) (.cons (.name 5) (.cons (.name 6) .nil))))) (.var 1))
 (.cons (.asg (.name 7) (.call 26 (.cons (.var 0) (.cons (.var 3) .nil))))
 (.cons (.asg (.name 8) (.call 26 (.cons (.var 0) (.cons (.var 4) .nil))))
 (.cons (.asg (.name 9) (.call 26 (.cons (.var 0) (.cons (.var 5) .nil))))
 (.cons (.asg (.name 10) (.comp [Z,Z,Z,Z,(E 9),(E 7),(E 8)] ["_law_k","_law_i","_law_j","_law_c","_law_three","_law_one","_law_two"] (.last (.seq (.var 6)) (.tup (.cons (.name 0) (.cons (.name 1) (.cons (.name 2) (.cons (.name 3) .nil))))) .nil (.tup (.cons (.ix (.var 4) (.var 0)) (.cons (.ix (.var 5) (.var 1)) (.cons (.ix (.var 6) (.var 2)) (.cons (.var 3) .nil))))))))
 (.cons (.asg (.name 11) (.lst (.cons (.call 27 (.cons (.tup (.cons (.var 3) (.cons (.var 4) (.cons (.var 5) .nil)))) (.cons (.var 10) .nil))) .nil)))
 (.cons (.asg (.name 10) (.comp [Z,Z,Z,Z] ["_law_k","_law_i","_law_j","_law_c"] (.last (.seq (.var 6)) (.tup (.cons (.name 0) (.cons (.name 1) (.cons (.name 2) (.cons (.name 3) .nil))))) .nil (.tup (.cons (.var 0) (.cons (.var 2) (.cons (.var 1) (.cons (.var 3) .nil))))))))
 (.cons (.drop (.meth .append (.var 11) (.call 27 (.cons (.tup (.cons (.var 4) (.cons (.var 3) (.cons (.var 5) .nil)))) (.cons (.var 10) .nil)))))
 (.cons (.asg (.name 10) (.comp [Z,Z,Z,Z] ["_law_k","_law_i","_law_j","_law_c"] (.last (.seq (.var 6)) (.tup (.cons (.name 0) (.cons (.name 1) (.cons (.name 2) (.cons (.name 3) .nil))))) .nil (.tup (.cons (.var 1) (.cons (.var 2) (.cons (.var 0) (.cons (.var 3) .nil))))))))
 (.cons (.drop (.meth .append (.var 11) (.call 27 (.cons (.tup (.cons (.var 4) (.cons (.var 5) (.cons (.var 3) .nil)))) (.cons (.var 10) .nil)))))
 (.cons (.asg (.name 12) (.call 20 (.cons (.var 0) (.cons (.var 5) .nil))))
 (.cons (.asg (.name 13) (.comp [Z,Z,Z,Z,(E 5),(E 12)] ["_law_k","_law_i","_law_j","_law_c","_law_many","_law_again"] (.last (.seq (.var 6)) (.tup (.cons (.name 0) (.cons (.name 1) (.cons (.name 2) (.cons (.name 3) .nil))))) (.cons (.cmp .eq (.var 0) (.var 5)) .nil) (.tup (.cons (.var 4) (.cons (.var 1) (.cons (.var 2) (.cons (.var 3) .nil))))))))
 (.cons (.drop (.meth .append (.var 11) (.call 27 (.cons (.tup (.cons (.var 3) (.cons (.var 4) (.cons (.bin .add (.var 5) (.int 1)) .nil)))) (.cons (.bin .add (.var 6) (.var 13)) .nil)))))
 (.cons (.asg (.name 14) (.ix (.lst (.cons (.int 1) (.cons (.neg (.int 1)) .nil))) (.call 20 (.cons (.var 0) (.cons (.int 2) .nil)))))
 (.cons (.asg (.name 10) (.comp [Z,Z,Z,Z,(E 14)] ["_law_k","_law_i","_law_j","_law_c","_law_sign"] (.last (.seq (.var 6)) (.tup (.cons (.name 0) (.cons (.name 1) (.cons (.name 2) (.cons (.name 3) .nil))))) .nil (.tup (.cons (.var 0) (.cons (.var 1) (.cons (.var 2) (.cons (.bin .mul (.var 3) (.var 4)) .nil))))))))
 (.cons (.for (.name 15) (.rng1 (.int 3)) (.cons (.asg (.name 16) (.call 20 (.cons (.var 0) (.cons (.var 5) .nil))))
 (.cons (.drop (.meth .append (.var 10) (.tup (.cons (.var 16) (.cons (.call 20 (.cons (.var 0) (.cons (.var 3) .nil))) (.cons (.call 20 (.cons (.var 0) (.cons (.var 4) .nil))) (.cons (.var 2) .nil)))))))
 .nil)))
 (.cons (.drop (.meth .append (.var 11) (.call 27 (.cons (.tup (.cons (.var 3) (.cons (.var 4) (.cons (.var 5) .nil)))) (.cons (.var 10) .nil)))))
 (.cons (.asg (.tup (.cons (.name 17) (.cons (.name 18) .nil))) (.tup (.cons (.call 20 (.cons (.var 0) (.cons (.var 3) .nil))) (.cons (.call 20 (.cons (.var 0) (.cons (.var 3) .nil))) .nil))))
 (.cons (.asg (.name 10) (.blt .list (.cons (.var 6) .nil)))
 (.cons (.ite (.cmp .ne (.var 17) (.var 18)) (.cons (.drop (.meth .extend (.var 10) (.comp [Z,Z,Z,Z,(E 18),(E 17)] ["_law_k","_law_i","_law_j","_law_c","_law_there","_law_here"] (.last (.seq (.var 6)) (.tup (.cons (.name 0) (.cons (.name 1) (.cons (.name 2) (.cons (.name 3) .nil))))) (.cons (.cmp .eq (.var 1) (.var 5)) .nil) (.tup (.cons (.var 0) (.cons (.var 4) (.cons (.var 2) (.cons (.var 3) .nil)))))))))
 .nil) .nil)
 (.cons (.drop (.meth .append (.var 11) (.call 27 (.cons (.tup (.cons (.var 3) (.cons (.var 4) (.cons (.var 5) .nil)))) (.cons (.var 10) .nil)))))
 (.cons (.ret (.var 11))
 .nil))))))))))))))))))))))
noncomputable def d28:FD:=⟨"_law_others",ai 33,["_law_box_here","_law_task","_law_p","_law_left","_law_right","_law_many","_law_terms_here","_law_one","_law_two","_law_three","_law_moved","_law_some","_law_again","_law_twice","_law_sign","_law_turn","_law_k","_law_here","_law_there"],3,b28⟩
noncomputable def b29:MSs:=
 (.cons (.for (.name 1) (.rng1 (.blt .max2 (.cons (.int 1) (.cons (.blt .min2 (.cons (.blt .len (.cons (.var 0) .nil)) (.cons (.int 2) .nil))) .nil)))) (.cons (.asg (.name 2) (.call 19 (.cons (.var 0) (.cons (.var 1) .nil))))
 (.cons (.asg (.name 3) (.bin .add (.int 2) (.call 20 (.cons (.var 2) (.cons (.int 2) .nil)))))
 (.cons (.asg (.name 4) (.ix (.lst (.cons (.lst (.cons (.tup (.cons (.int 2) (.cons (.int 2) .nil))) (.cons (.tup (.cons (.int 2) (.cons (.int 3) .nil))) (.cons (.tup (.cons (.int 1) (.cons (.int 3) .nil))) (.cons (.tup (.cons (.int 3) (.cons (.int 2) .nil))) (.cons (.tup (.cons (.int 3) (.cons (.int 1) .nil))) .nil)))))) (.cons (.lst (.cons (.tup (.cons (.int 2) (.cons (.int 2) .nil))) (.cons (.tup (.cons (.int 1) (.cons (.int 3) .nil))) (.cons (.tup (.cons (.int 2) (.cons (.int 1) .nil))) (.cons (.tup (.cons (.int 2) (.cons (.int 2) .nil))) (.cons (.tup (.cons (.int 1) (.cons (.int 2) .nil))) .nil)))))) .nil))) (.bin .sub (.var 3) (.int 2))))
 (.cons (.asg (.tup (.cons (.name 5) (.cons (.name 6) .nil))) (.ix (.var 4) (.call 20 (.cons (.var 2) (.cons (.int 5) .nil)))))
 (.cons (.asg (.name 7) (.bin .add (.int 1) (.call 20 (.cons (.var 2) (.cons (.bin .add (.ix (.lst (.cons (.int 2) (.cons (.int 1) .nil))) (.blt .int (.cons (.cmp .eq (.bin .add (.var 5) (.var 6)) (.int 5)) .nil))) (.blt .int (.cons (.cmp .eq (.bin .mul (.var 5) (.var 6)) (.int 4)) .nil))) .nil)))))
 (.cons (.asg (.name 8) (.call 22 (.cons (.var 2) (.cons (.lst (.cons (.var 5) (.cons (.var 6) (.cons (.var 7) .nil)))) (.cons (.call 20 (.cons (.var 2) (.cons (.int 4) .nil))) .nil)))))
 (.cons (.asg (.name 9) (.tup (.cons (.var 5) (.cons (.var 6) (.cons (.var 7) (.cons (.call 24 (.cons (.call 23 (.cons (.var 8) .nil)) .nil)) .nil))))))
 (.cons (.asg (.name 10) (.sl (.call 16 (.cons (.var 9) (.cons (.var 3) .nil))) .none (.some (.int 2))))
 (.cons (.for (.name 11) (.seq (.call 28 (.cons (.var 2) (.cons (.var 9) (.cons (.var 3) .nil))))) (.cons (.ite (.cmp .ne (.sl (.call 16 (.cons (.var 11) (.cons (.var 3) .nil))) .none (.some (.int 2))) (.var 10)) (.cons (.ret (.bl R9))
 .nil) .nil)
 .nil))
 (.cons (.ite (.cmp .ne (.sl (.call 16 (.cons (.tup (.cons (.var 5) (.cons (.var 6) (.cons (.var 7) (.cons (.lst .nil) .nil))))) (.cons (.var 3) .nil))) .none (.some (.int 2))) (.tup (.cons (.str (IF "least")) (.cons (.int 0) .nil)))) (.cons (.ret (.bl R9))
 .nil) .nil)
 (.cons (.asg (.tup (.cons (.name 12) (.cons (.name 13) .nil))) (.tup (.cons (.call 21 (.cons (.var 2) (.cons (.var 5) .nil))) (.cons (.call 21 (.cons (.var 2) (.cons (.var 6) .nil))) .nil))))
 (.cons (.asg (.name 14) (.call 20 (.cons (.var 2) (.cons (.var 7) .nil))))
 (.cons (.asg (.name 15) (.lst .nil))
 (.cons (.for (.name 16) (.rng1 (.var 5)) (.cons (.drop (.meth .extend (.var 15) (.comp [Z,(E 14),(E 16),(E 12),(E 13)] ["_law_j","_law_place","_law_i","_law_l","_law_r"] (.last (.rng1 (.var 6)) (.name 0) .nil (.tup (.cons (.var 1) (.cons (.var 2) (.cons (.var 0) (.cons (.bin .mul (.ix (.var 3) (.var 2)) (.ix (.var 4) (.var 0))) .nil)))))))))
 .nil))
 (.cons (.asg (.name 17) (.sl (.call 16 (.cons (.call 27 (.cons (.tup (.cons (.var 5) (.cons (.var 6) (.cons (.var 7) .nil)))) (.cons (.bin .add (.ix (.var 9) (.int 3)) (.var 15)) .nil))) (.cons (.var 3) .nil))) .none (.some (.int 2))))
 (.cons (.ite (.and (.cons (.cmp .eq (.ix (.var 17) (.int 0)) (.str (IF "least"))) (.cons (.cmp .eq (.ix (.var 10) (.int 0)) (.str (IF "least"))) (.cons (.cmp .gt (.blt .abs (.cons (.bin .sub (.ix (.var 17) (.int 1)) (.ix (.var 10) (.int 1))) .nil)) (.int 1)) .nil)))) (.cons (.ret (.bl R9))
 .nil) .nil)
 .nil)))))))))))))))))
 (.cons (.ret (.bl N2))
 .nil))
noncomputable def d29:FD:=⟨"law",ai 34,["_law_script","_law_k","_law_box_here","_law_p","_law_some","_law_left","_law_right","_law_many","_law_scheme_here","_law_task","_law_due","_law_other","_law_l","_law_r","_law_place","_law_terms_here","_law_i","_law_more"],1,b29⟩
noncomputable def tab:List FD:=[d0,d1,d2,d3,d4,d5,d6,d7,d8,d9,d10,d11,d12,d13,d14,d15,d16,d17,d18,d19,d20,d21,d22,d23,d24,d25,d26,d27,d28,d29]
noncomputable def oR:List (Str×D):=[("MOST_SETS",(.int 3000))]
end K46
end
section
namespace K46
theorem BZ:∀d∈tab,sC (tab.map (·.name)) oR d=N2:=by decide +kernel
noncomputable abbrev PA(K:Frag)(x:Str)(f:SS):Prop:=MA K Jv x=E (E (.ref f))
noncomputable abbrev PL(K:Frag)(f:SS)(x:Str)(s:Stmt)(oc:q7)(od:Option SS)(kV dc pm:q7)(an:Option SS)(cd ct:q7)(sl:Array (Option q7)):Prop:=K.lookup f=E ⟨oc,od,.func (Ls x x (dH s) (ci s) (aA s) .none kV dc pm an cd ct),sl⟩
noncomputable abbrev PC(K:Frag)(c:q7)(x:Str):Prop:=NL K c x=N2
noncomputable abbrev PK(K:Frag)(f:SS):Prop:=KO K (.ref f)=N2
theorem all_mk{l:OV}{w:IY}{K:Frag}{h:Heap}{mg:Str->Option q7}{fa:SS}(X:K.In h)(G:h.Ns Jv mg)(hfa:mg "law"=E (.ref fa))(z:∀x∈bltNames,MA K Jv x=E Z)(a0:PA K "single_one" f0)(l0:PL K f0 "single_one" (ai 1) oc0 od0 kV0 dc0 pm0 an0 cd0 ct0 sl0)(c0:PC K cd0 "single_one")(k0:PK K f0)(a1:PA K "rows_over" f1)(l1:PL K f1 "rows_over" (ai 3) oc1 od1 kV1 dc1 pm1 an1 cd1 ct1 sl1)(c1:PC K cd1 "rows_over")(k1:PK K f1)(a2:PA K "begins_with_one" f2)(l2:PL K f2 "begins_with_one" (ai 4) oc2 od2 kV2 dc2 pm2 an2 cd2 ct2 sl2)(c2:PC K cd2 "begins_with_one")(k2:PK K f2)(a3:PA K "pairs_over" f3)(l3:PL K f3 "pairs_over" (ai 5) oc3 od3 kV3 dc3 pm3 an3 cd3 ct3 sl3)(c3:PC K cd3 "pairs_over")(k3:PK K f3)(a4:PA K "pair_table" f4)(l4:PL K f4 "pair_table" (ai 6) oc4 od4 kV4 dc4 pm4 an4 cd4 ct4 sl4)(c4:PC K cd4 "pair_table")(k4:PK K f4)(a5:PA K "tables_over" f5)(l5:PL K f5 "tables_over" (ai 7) oc5 od5 kV5 dc5 pm5 an5 cd5 ct5 sl5)(c5:PC K cd5 "tables_over")(k5:PK K f5)(a6:PA K "without" f6)(l6:PL K f6 "without" (ai 8) oc6 od6 kV6 dc6 pm6 an6 cd6 ct6 sl6)(c6:PC K cd6 "without")(k6:PK K f6)(a7:PA K "is_sum" f7)(l7:PL K f7 "is_sum" (ai 9) oc7 od7 kV7 dc7 pm7 an7 cd7 ct7 sl7)(c7:PC K cd7 "is_sum")(k7:PK K f7)(a8:PA K "first_filled" f8)(l8:PL K f8 "first_filled" (ai 10) oc8 od8 kV8 dc8 pm8 an8 cd8 ct8 sl8)(c8:PC K cd8 "first_filled")(k8:PK K f8)(a9:PA K "grown" f9)(l9:PL K f9 "grown" (ai 11) oc9 od9 kV9 dc9 pm9 an9 cd9 ct9 sl9)(c9:PC K cd9 "grown")(k9:PK K f9)(a10:PA K "many_sets" f10)(l10:PL K f10 "many_sets" (ai 14) oc10 od10 kV10 dc10 pm10 an10 cd10 ct10 sl10)(c10:PC K cd10 "many_sets")(k10:PK K f10)(a11:PA K "sets_of" f11)(l11:PL K f11 "sets_of" (ai 15) oc11 od11 kV11 dc11 pm11 an11 cd11 ct11 sl11)(c11:PC K cd11 "sets_of")(k11:PK K f11)(a12:PA K "pairs_within" f12)(l12:PL K f12 "pairs_within" (ai 16) oc12 od12 kV12 dc12 pm12 an12 cd12 ct12 sl12)(c12:PC K cd12 "pairs_within")(k12:PK K f12)(a13:PA K "shares" f13)(l13:PL K f13 "shares" (ai 17) oc13 od13 kV13 dc13 pm13 an13 cd13 ct13 sl13)(c13:PC K cd13 "shares")(k13:PK K f13)(a14:PA K "scheme_by" f14)(l14:PL K f14 "scheme_by" (ai 18) oc14 od14 kV14 dc14 pm14 an14 cd14 ct14 sl14)(c14:PC K cd14 "scheme_by")(k14:PK K f14)(a15:PA K "looked_at" f15)(l15:PL K f15 "looked_at" (ai 19) oc15 od15 kV15 dc15 pm15 an15 cd15 ct15 sl15)(c15:PC K cd15 "looked_at")(k15:PK K f15)(a16:PA K "least_over" f16)(l16:PL K f16 "least_over" (ai 20) oc16 od16 kV16 dc16 pm16 an16 cd16 ct16 sl16)(c16:PC K cd16 "least_over")(k16:PK K f16)(a17:PA K "_law_cell_at" f17)(l17:PL K f17 "_law_cell_at" (ai 22) oc17 od17 kV17 dc17 pm17 an17 cd17 ct17 sl17)(c17:PC K cd17 "_law_cell_at")(k17:PK K f17)(a18:PA K "_law_mixed" f18)(l18:PL K f18 "_law_mixed" (ai 23) oc18 od18 kV18 dc18 pm18 an18 cd18 ct18 sl18)(c18:PC K cd18 "_law_mixed")(k18:PK K f18)(a19:PA K "_law_box" f19)(l19:PL K f19 "_law_box" (ai 24) oc19 od19 kV19 dc19 pm19 an19 cd19 ct19 sl19)(c19:PC K cd19 "_law_box")(k19:PK K f19)(a20:PA K "_law_take" f20)(l20:PL K f20 "_law_take" (ai 25) oc20 od20 kV20 dc20 pm20 an20 cd20 ct20 sl20)(c20:PC K cd20 "_law_take")(k20:PK K f20)(a21:PA K "_law_part" f21)(l21:PL K f21 "_law_part" (ai 26) oc21 od21 kV21 dc21 pm21 an21 cd21 ct21 sl21)(c21:PC K cd21 "_law_part")(k21:PK K f21)(a22:PA K "_law_scheme" f22)(l22:PL K f22 "_law_scheme" (ai 27) oc22 od22 kV22 dc22 pm22 an22 cd22 ct22 sl22)(c22:PC K cd22 "_law_scheme")(k22:PK K f22)(a23:PA K "_law_sums" f23)(l23:PL K f23 "_law_sums" (ai 28) oc23 od23 kV23 dc23 pm23 an23 cd23 ct23 sl23)(c23:PC K cd23 "_law_sums")(k23:PK K f23)(a24:PA K "_law_terms" f24)(l24:PL K f24 "_law_terms" (ai 29) oc24 od24 kV24 dc24 pm24 an24 cd24 ct24 sl24)(c24:PC K cd24 "_law_terms")(k24:PK K f24)(a25:PA K "_law_number" f25)(l25:PL K f25 "_law_number" (ai 30) oc25 od25 kV25 dc25 pm25 an25 cd25 ct25 sl25)(c25:PC K cd25 "_law_number")(k25:PK K f25)(a26:PA K "_law_places" f26)(l26:PL K f26 "_law_places" (ai 31) oc26 od26 kV26 dc26 pm26 an26 cd26 ct26 sl26)(c26:PC K cd26 "_law_places")(k26:PK K f26)(a27:PA K "_law_put" f27)(l27:PL K f27 "_law_put" (ai 32) oc27 od27 kV27 dc27 pm27 an27 cd27 ct27 sl27)(c27:PC K cd27 "_law_put")(k27:PK K f27)(a28:PA K "_law_others" f28)(l28:PL K f28 "_law_others" (ai 33) oc28 od28 kV28 dc28 pm28 an28 cd28 ct28 sl28)(c28:PC K cd28 "_law_others")(k28:PK K f28)(a29:PA K "law" f29)(l29:PL K f29 "law" (ai 34) oc29 od29 kV29 dc29 pm29 an29 cd29 ct29 sl29)(c29:PC K cd29 "law")(k29:PK K f29)(gcst0:MA K Jv "MOST_SETS"=E (E (.int 3000 ut0)))
 : ∃fd:LA,(∀(s:D1) (v:q7),PF s fd ⟨[v],[]⟩ [("_law_script",v)])/\∀base:Heap,K.In base->base.Ns Jv mg->dh l.prog w K mg base CX0 40 fa fd ["_law_script"] (lSp K (phi tab 40 29)):=by
 have e:=hfa.symm.trans (Iu X G a29)
 cases e
 have O:yp K mg tab oR:=by
  refine⟨λx hx=>PySem.W.mg_none_of X G (z x hx),?_,BZ,?_⟩
  ·intro i d hd
   match i,hd with
   |0,hd=>cases hd;exact⟨_,_,ag l0 c0 k0,Iu X G a0,a0,(ag l0 c0 k0).binds λ_ _ _ _ _ _ us hl=>by obtain⟨u0,u1,rfl⟩:=bH us hl;rfl⟩
   |1,hd=>cases hd;exact⟨_,_,ag l1 c1 k1,Iu X G a1,a1,(ag l1 c1 k1).binds λ_ _ _ _ _ _ us hl=>by obtain⟨u0,u1,rfl⟩:=bH us hl;rfl⟩
   |2,hd=>cases hd;exact⟨_,_,ag l2 c2 k2,Iu X G a2,a2,(ag l2 c2 k2).binds λ_ _ _ _ _ _ us hl=>by obtain⟨u0,rfl⟩:=fE us hl;rfl⟩
   |3,hd=>cases hd;exact⟨_,_,ag l3 c3 k3,Iu X G a3,a3,(ag l3 c3 k3).binds λ_ _ _ _ _ _ us hl=>by obtain⟨u0,u1,u2,rfl⟩:=dB us hl;rfl⟩
   |4,hd=>cases hd;exact⟨_,_,ag l4 c4 k4,Iu X G a4,a4,(ag l4 c4 k4).binds λ_ _ _ _ _ _ us hl=>by obtain⟨u0,u1,rfl⟩:=bH us hl;rfl⟩
   |5,hd=>cases hd;exact⟨_,_,ag l5 c5 k5,Iu X G a5,a5,(ag l5 c5 k5).binds λ_ _ _ _ _ _ us hl=>by obtain⟨u0,u1,rfl⟩:=bH us hl;rfl⟩
   |6,hd=>cases hd;exact⟨_,_,ag l6 c6 k6,Iu X G a6,a6,(ag l6 c6 k6).binds λ_ _ _ _ _ _ us hl=>by obtain⟨u0,u1,u2,rfl⟩:=dB us hl;rfl⟩
   |7,hd=>cases hd;exact⟨_,_,ag l7 c7 k7,Iu X G a7,a7,(ag l7 c7 k7).binds λ_ _ _ _ _ _ us hl=>by obtain⟨u0,u1,u2,rfl⟩:=dB us hl;rfl⟩
   |8,hd=>cases hd;exact⟨_,_,ag l8 c8 k8,Iu X G a8,a8,(ag l8 c8 k8).binds λ_ _ _ _ _ _ us hl=>by obtain⟨u0,rfl⟩:=fE us hl;rfl⟩
   |9,hd=>cases hd;exact⟨_,_,ag l9 c9 k9,Iu X G a9,a9,(ag l9 c9 k9).binds λ_ _ _ _ _ _ us hl=>by obtain⟨u0,u1,u2,rfl⟩:=dB us hl;rfl⟩
   |10,hd=>cases hd;exact⟨_,_,ag l10 c10 k10,Iu X G a10,a10,(ag l10 c10 k10).binds λ_ _ _ _ _ _ us hl=>by obtain⟨u0,u1,rfl⟩:=bH us hl;rfl⟩
   |11,hd=>cases hd;exact⟨_,_,ag l11 c11 k11,Iu X G a11,a11,(ag l11 c11 k11).binds λ_ _ _ _ _ _ us hl=>by obtain⟨u0,u1,rfl⟩:=bH us hl;rfl⟩
   |12,hd=>cases hd;exact⟨_,_,ag l12 c12 k12,Iu X G a12,a12,(ag l12 c12 k12).binds λ_ _ _ _ _ _ us hl=>by obtain⟨u0,u1,u2,rfl⟩:=dB us hl;rfl⟩
   |13,hd=>cases hd;exact⟨_,_,ag l13 c13 k13,Iu X G a13,a13,(ag l13 c13 k13).binds λ_ _ _ _ _ _ us hl=>by obtain⟨u0,u1,u2,rfl⟩:=dB us hl;rfl⟩
   |14,hd=>cases hd;exact⟨_,_,ag l14 c14 k14,Iu X G a14,a14,(ag l14 c14 k14).binds λ_ _ _ _ _ _ us hl=>by obtain⟨u0,u1,u2,rfl⟩:=dB us hl;rfl⟩
   |15,hd=>cases hd;exact⟨_,_,ag l15 c15 k15,Iu X G a15,a15,(ag l15 c15 k15).binds λ_ _ _ _ _ _ us hl=>by obtain⟨u0,u1,rfl⟩:=bH us hl;rfl⟩
   |16,hd=>cases hd;exact⟨_,_,ag l16 c16 k16,Iu X G a16,a16,(ag l16 c16 k16).binds λ_ _ _ _ _ _ us hl=>by obtain⟨u0,u1,rfl⟩:=bH us hl;rfl⟩
   |17,hd=>cases hd;exact⟨_,_,ag l17 c17 k17,Iu X G a17,a17,(ag l17 c17 k17).binds λ_ _ _ _ _ _ us hl=>by obtain⟨u0,u1,rfl⟩:=bH us hl;rfl⟩
   |18,hd=>cases hd;exact⟨_,_,ag l18 c18 k18,Iu X G a18,a18,(ag l18 c18 k18).binds λ_ _ _ _ _ _ us hl=>by obtain⟨u0,u1,rfl⟩:=bH us hl;rfl⟩
   |19,hd=>cases hd;exact⟨_,_,ag l19 c19 k19,Iu X G a19,a19,(ag l19 c19 k19).binds λ_ _ _ _ _ _ us hl=>by obtain⟨u0,u1,rfl⟩:=bH us hl;rfl⟩
   |20,hd=>cases hd;exact⟨_,_,ag l20 c20 k20,Iu X G a20,a20,(ag l20 c20 k20).binds λ_ _ _ _ _ _ us hl=>by obtain⟨u0,u1,rfl⟩:=bH us hl;rfl⟩
   |21,hd=>cases hd;exact⟨_,_,ag l21 c21 k21,Iu X G a21,a21,(ag l21 c21 k21).binds λ_ _ _ _ _ _ us hl=>by obtain⟨u0,u1,rfl⟩:=bH us hl;rfl⟩
   |22,hd=>cases hd;exact⟨_,_,ag l22 c22 k22,Iu X G a22,a22,(ag l22 c22 k22).binds λ_ _ _ _ _ _ us hl=>by obtain⟨u0,u1,u2,rfl⟩:=dB us hl;rfl⟩
   |23,hd=>cases hd;exact⟨_,_,ag l23 c23 k23,Iu X G a23,a23,(ag l23 c23 k23).binds λ_ _ _ _ _ _ us hl=>by obtain⟨u0,rfl⟩:=fE us hl;rfl⟩
   |24,hd=>cases hd;exact⟨_,_,ag l24 c24 k24,Iu X G a24,a24,(ag l24 c24 k24).binds λ_ _ _ _ _ _ us hl=>by obtain⟨u0,rfl⟩:=fE us hl;rfl⟩
   |25,hd=>cases hd;exact⟨_,_,ag l25 c25 k25,Iu X G a25,a25,(ag l25 c25 k25).binds λ_ _ _ _ _ _ us hl=>by obtain⟨u0,rfl⟩:=fE us hl;rfl⟩
   |26,hd=>cases hd;exact⟨_,_,ag l26 c26 k26,Iu X G a26,a26,(ag l26 c26 k26).binds λ_ _ _ _ _ _ us hl=>by obtain⟨u0,u1,rfl⟩:=bH us hl;rfl⟩
   |27,hd=>cases hd;exact⟨_,_,ag l27 c27 k27,Iu X G a27,a27,(ag l27 c27 k27).binds λ_ _ _ _ _ _ us hl=>by obtain⟨u0,u1,rfl⟩:=bH us hl;rfl⟩
   |28,hd=>cases hd;exact⟨_,_,ag l28 c28 k28,Iu X G a28,a28,(ag l28 c28 k28).binds λ_ _ _ _ _ _ us hl=>by obtain⟨u0,u1,u2,rfl⟩:=dB us hl;rfl⟩
   |29,hd=>cases hd;exact⟨_,_,ag l29 c29 k29,Iu X G a29,a29,(ag l29 c29 k29).binds λ_ _ _ _ _ _ us hl=>by obtain⟨u0,rfl⟩:=fE us hl;rfl⟩
   |i+30,hd=>simp[tab]at hd
  ·intro x i hx;simp only[oR,Ij,Ja,or_false,Na]at hx
   rcases hx with⟨rfl,rfl⟩
   ·exact⟨_,Iu X G gcst0,GV.ints⟩
 refine⟨Ls "law" "law" (dH (ai 34)) (ci (ai 34)) (aA (ai 34)) .none kV29 dc29 pm29 an29 cd29 ct29,λs v=>.of_eq rfl,λbase _ _=>?_⟩;exact uP O 40 29 d29 _ _ rfl (ag l29 c29 k29)
theorem walk {l:OV}{q:Iy}{loose:List Str}{XP:(Str->Option q7)->Heap->Prop}{YP:IY->Heap->Prop}{d:DefRec}{K:Params->Frag}(hn:l.most=E 63)(hdf:d.params.defaults=[])(hlaw:∀ns:List Int,ns.length<=63->phi tab 40 29 [.con (ns.map D.int)] (fun _=>Z) fun d _=>d=.bl N2)(hY:∀(w:IY) (h:Heap),YP w h->(K w.params).In h)(F:∀(w:IY) (mg:Str->Option q7) (fa:SS) (h:Heap),(K w.params).In h->h.Ns Jv mg->mg d.name=E (.ref fa)->
   ∃fd:LA,(∀(s:D1) (u:q7),PF s fd ⟨[u],[]⟩ [("_law_script",u)])/\∀base:Heap,(K w.params).In base->base.Ns Jv mg->dh l.prog w (K w.params) mg base CX0 40 fa fd ["_law_script"] (lSp (K w.params) (phi tab 40 29))):
 PySem.W.WalkO q loose XP YP l.row.toRowW d [] (λf vs=>RV f vs):=
 L2.walk_of (n:=63) (k:=40) (x:="_law_script") (CX:=λ_=>CX0) (sp:=λw=>lSp (K w.params) (phi tab 40 29)) hn (by decide) hdf ⟨rfl,by decide,by decide⟩ hY F (λw H a ns hl hO hS=>BP hO hS (hlaw ns hl)) λ_ _ _ _ _ z=>z
end K46
end
section
namespace K46
open L2.Srt
theorem qF{n:Nat}(j:1<=n):sH tab n 18:=uZ (x:="_law_number_here") (s:=ai 23) rfl j
theorem aP{n:Nat}(j:2<=n):uT tab n 20:=λz h1 h2 q=>zZ (s:=ai 25) (fm:=18) rfl (qF ∅) j z h1 h2 q
theorem sM{n:Nat}(Y:3<=n):oz tab n 25:=by
 intro b M Q B q;refine ao ∅ rfl rfl (ρ:=[E _]) rfl ?_
 unfold d25 b25;nofun;refine⟨by rw[z4];lia,λp F=>?_⟩
 have g:=Ge.new (o:=.lst ([0,0,1,1,1,-1,-1,2,0].map D.int)) F;have e:=aa (M:=M) (a:=p) (o:=.lst ([0,0,1,1,1,-1,-1,2,0].map D.int));have j:p≠b:=λz=>by obtain⟨_,_,_,h⟩:=B;rw[<-z,F]at h;cases h
 have x0:=Bx.of B g;change phi _ _ _ _ (ad M p (.lst ([0,0,1,1,1,-1,-1,2,0].map D.int))) _;generalize ad M p (.lst ([0,0,1,1,1,-1,-1,2,0].map D.int))=M1 at e x0⊢;refine aP ∅ x0.box (by decide) (by decide) λv M2 v0 v1 J=>?_
 have e:=J.keep p _ j e;obtain⟨v,rfl⟩:=IS v0;have U:v<([0,0,1,1,1,-1,-1,2,0]:List Int).length:=by simp;lia
 have L:([0,0,1,1,1,-1,-1,2,0]:List Int)[v]?=E ([0,0,1,1,1,-1,-1,2,0]:List Int)[v]:=r4 U;have hm:=Ib L;have O:-1000<=([0,0,1,1,1,-1,-1,2,0]:List Int)[v]/\([0,0,1,1,1,-1,-1,2,0]:List Int)[v]<=1000:=by simp only[Ij,Ja,or_false]at hm;lia
 exact av e (bv (by rw[I8,L];rfl)) (q _ _ O.1 O.2 (x0.trans J))
theorem iH{n:Nat}(B:4<=n):uX tab n 21:=λj z q=>A0 (s:=ai 26) (fn:=25) rfl (sM ∅) ∅ j z q
variable{M M':Mem}
theorem bo{p:SS}(g:Ge M M')(h:M' p=Z):M p=Z:=by
 cases hz:M p with
 |none=>rfl
 |some o=>rw[g _ _ hz]at h;cases h
noncomputable abbrev rD(v:List Int):D:=.tup (v.map .int)
noncomputable def rwN(P:Nat)(rows:List (List Int)):List (List Int):=rows.flatMap λr=>(HV P).map λx=>r++[((x:Nat):Int)]
noncomputable def rws(P:Nat):Nat->List (List Int)
 |0=>[[]]
 |k+1=>rwN P (rws P k)
theorem gW{P:Nat}:∀{rows:List (List Int)},(rwN P rows).length=rows.length*P
 |[]=>by simp[rwN]
 |r::rows=>by have ih:=gW (P:=P) (rows:=rows);unfold rwN at ih⊢;rw[Jb,hQ,ih,Iv,J1];simp;lia
theorem eU{P:Nat}(j:P<=3):∀k,k<=6->(rws P k).length<=3^k
 |0,_=>by simp[rws]
 |k+1,h=>by show(rwN P (rws P k)).length<=_;rw[gW,QM];exact JI (eU j k ∅) j
theorem mM{k:Nat}(h:k<=6):3^k<=729:=IW (Nat.pow_le_pow_right (by decide) h) (by decide)
theorem fI{P:Nat}:∀k,∀r∈rws P k,r.length=k
 |0,r,h=>by simp[rws]at h;simp[h]
 |k+1,r,h=>by obtain⟨u,j,h⟩:=IE.mp h;obtain⟨x,_,rfl⟩:=HQ.mp h;rw[hQ,fI k u j];rfl
noncomputable def nzl(v:List Int):List Int:=v.filter λx=>!(x==0)
noncomputable def fo(v:List Int):Bool:=decide (0<(nzl v).length)&&decide (gz (nzl v) 0=1)
variable{v:List Int}{Q:QD}
theorem lK{k:Nat}(O:1<=k)(U:v.length<=1000)(q:∀M',Ge M M'->Q (.bl (fo v)) M'):phi tab k 2 [rD v] M Q:=by
 refine ao ∅ rfl rfl (ρ:=[E _,Z]) rfl ?_
 unfold d2 b2;nofun;refine ah (f:=D.int) (ys:=v) (I:=λl ρ M' acc=>(∃o0,ρ=[o0])/\M'=M/\acc=(nzl l).map .int) rfl ⟨⟨_,rfl⟩,rfl,rfl⟩ (λ_ _ _ _ _=>by first|rfl|trivial) ?_ ?_
 ·rintro l x r ρ z acc e ⟨⟨o0,rfl⟩,rfl,rfl⟩;refine⟨_,rfl,λN B=>?_⟩;have F:=af e;have J:=II (λx:Int=>!(x==0)) l;ac_nf
  by_cases hx:x=0
  ·subst hx;simp;exact B _ _ _ ⟨⟨_,rfl⟩,rfl,by simp[nzl]⟩
  ·rw[if_pos (by simpa using hx)]
   exact⟨by rw[hG,z4];unfold nzl;lia,B _ _ _ ⟨⟨_,rfl⟩,rfl,by simp[nzl,hx]⟩⟩
 ·rintro ρ z acc ⟨⟨o0,rfl⟩,rfl,rfl⟩ p hp;have g1:=Ge.new (o:=.lst ((nzl v).map .int)) hp;have j:=aa (M:=z) (a:=p) (o:=.lst ((nzl v).map .int));generalize ad z p (.lst ((nzl v).map .int))=M2 at g1 j⊢;nofun;refine⟨_,_,rfl,bR (ab j),?_⟩;ac_nf;rw[hG]
  cases hz:nzl v with
  |nil=>
   rw[if_neg (by simp)]
   have:=q _ g1;unfold fo at this;rw[hz]at this;simpa using this
  |cons x r=>
   rw[if_pos (by simp)]
   rw[hz]at j;refine av j (d:=.int x) (bv (k:=0) rfl) ?_;ac_nf;have:=q _ g1;unfold fo at this;rw[hz]at this;have L:(x==1)=decide (x=1):=rfl;rw[L];simpa[gz]using this
variable{P L:Nat}
theorem qG{k:Nat}(hk:1<=k)(hP:P<=3)(hL:L<=6)(q:∀p M',Ge M M'->M p=Z->M' p=E (.lst ((rws P L).map rD))->Q (.ref p) M'):phi tab k 1 [.int L,.int P] M Q:=by
 refine ao ∅ rfl rfl (ρ:=[E _,E _,Z,Z]) rfl ?_
 unfold d1 b1;nofun;refine⟨by rw[z4];lia,by rw[z4];lia,λO z=>?_⟩
 have g0:=Ge.new (o:=.lst [rD []]) z;have e0:=aa (M:=M) (a:=O) (o:=.lst [rD []]);change wSs _ _ _ _ (ad M O (.lst [rD []]));generalize ad M O (.lst [rD []])=M0 at g0 e0⊢;nofun;refine⟨∅,∅,?_⟩
 rw[Il];refine aI (f:=λi=>D.int (i:Nat)) (ys:=HV L) (I:=λl ρ M'=>∃pr U,ρ=[E (.int L),E (.int P),E (.ref pr),U]/\Ge M M'/\M pr=Z/\M' pr=E (.lst ((rws P l.length).map rD))) aK ⟨O,_,rfl,g0,z,e0⟩ (λ_ _ _ _=>trivial) ?_ ?_
 ·rintro l i r ρ M1 e ⟨pr,U,rfl,g1,n1,B⟩;refine⟨_,rfl,λF hF=>?_⟩;have Y:=af e;rw[Ic]at Y;have Gr:=IW (eU hP l.length ∅) (mM (show l.length<=6 by lia))
  nofun;refine⟨_,ab B,?_⟩;refine ah (f:=rD) (ys:=rws P l.length) (I:=λl2 ρ M' acc=>(∃o0 j,ρ=[o0,j,E (.int P)])/\M'=M1/\acc=(rwN P l2).map rD) rfl ⟨⟨_,_,rfl⟩,rfl,rfl⟩ (λ_ _ _ _ h=>by rw[h.2.1];exact ab B) ?_ ?_
  ·rintro l2 w r2 ρ M2 acc e2 ⟨⟨o0,j,rfl⟩,rfl,rfl⟩;refine⟨_,rfl,λN hN=>?_⟩;have Gq:=af e2;have Gs:=fI l.length w (by rw[e2];simp)
   ac_nf;refine⟨∅,∅,?_⟩
   rw[Il];refine ah (f:=λi=>D.int (i:Nat)) (ys:=HV P) (I:=λl3 ρ M' acc=>(∃j,ρ=[E (rD w),j,E (.int P)])/\M'=M2/\acc=(rwN P l2++l3.map λx=>w++[((x:Nat):Int)]).map rD) aK ⟨⟨_,rfl⟩,rfl,by simp⟩ (λ_ _ _ _ _=>trivial) ?_ ?_
   ·rintro l3 x r3 ρ M3 acc e3 ⟨⟨j,rfl⟩,rfl,rfl⟩;refine⟨_,rfl,λN2 F2=>?_⟩;have Gp:=af e3;rw[Ic]at Gp;have hm:l2.length*P<=729*3:=JI ∅ hP
    ac_nf;refine⟨by rw[z4];lia,.inr trivial,by rw[hG,z4];lia,by rw[hG,hQ,gW,hG,z4];lia,F2 _ _ _ ⟨⟨_,rfl⟩,rfl,by simp⟩⟩
   ·rintro ρ M3 acc ⟨⟨j,rfl⟩,rfl,rfl⟩;exact hN _ _ _ ⟨⟨_,_,rfl⟩,rfl,by simp[rwN,KG]⟩
  ·rintro ρ M2 acc ⟨⟨o0,j,rfl⟩,rfl,rfl⟩ pn J;refine hF _ _ ⟨pn,_,rfl,g1.trans (Ge.new J),bo g1 J,?_⟩;rw[aa,hQ];rfl
 ·rintro ρ M1 ⟨pr,U,rfl,g1,n1,B⟩;dsimp only;nofun;rw[Ic]at B;exact q pr M1 g1 n1 B
noncomputable abbrev p2D(x:List Int×List Int):D:=.tup [rD x.1,rD x.2]
noncomputable def prs(P L R:Nat):List (List Int×List Int):=((rws P L).filter fo).flatMap λl=>((rws P R).filter fo).map λr=>(l,r)
noncomputable def prL(P R:Nat)(ls:List (List Int)):List (List Int×List Int):=ls.flatMap λl=>((rws P R).filter fo).map λr=>(l,r)
theorem kz{P R:Nat}:∀{ls:List (List Int)},(prL P R ls).length=ls.length*((rws P R).filter fo).length
 |[]=>by simp[prL]
 |l::ls=>by have ih:=kz (P:=P) (R:=R) (ls:=ls);unfold prL at ih⊢;rw[Jb,hQ,ih,Iv,J1];simp;lia
variable{R:Nat}
theorem oS(z:P<=3)(j:R<=6):((rws P R).filter fo).length<=729:=IW (II _ _) (IW (eU z R j) (mM j))
theorem xP{k:Nat}(hk:2<=k)(B:P<=3)(F2:L<=6)(Y:R<=6)(q:∀p M',Ge M M'->M p=Z->M' p=E (.lst ((prs P L R).map p2D))->Q (.ref p) M'):phi tab k 3 [.int L,.int R,.int P] M Q:=by
 refine ao ∅ rfl rfl (ρ:=[E _,E _,E _,Z]) rfl ?_
 unfold d3 b3;nofun;refine qG ∅ B Y λp0 M0 g0 n0 e0=>⟨_,ab e0,?_⟩
 have Gv:=IW (eU B R Y) (mM Y);have Gw:=IW (eU B L F2) (mM F2);refine ah (f:=rD) (ys:=rws P R) (I:=λl ρ M' acc=>(∃o0,ρ=[o0])/\Ge M0 M'/\acc=(l.filter fo).map rD) rfl ⟨⟨_,rfl⟩,Ge.refl,rfl⟩ (λ_ _ _ _ h=>ab (h.2.1 _ _ e0)) ?_ ?_
 ·rintro l w r ρ M1 acc e ⟨⟨o0,rfl⟩,g1,rfl⟩;refine⟨_,rfl,λN F=>?_⟩;have Gp:=af e;have Gq:=fI R w (by rw[e];simp)
  have Gr:=II fo l;ac_nf;refine lK ∅ ∅ λM2 g2=>⟨_,rfl,?_⟩
  cases ho:fo w with
  |true=>
   rw[if_pos rfl];refine⟨by rw[hG,z4];lia,F _ _ _ ⟨⟨_,rfl⟩,g1.trans g2,?_⟩⟩
   rw[IP,ID ho];simp
  |false=>
   rw[if_neg (by simp)]
   refine F _ _ _ ⟨⟨_,rfl⟩,g1.trans g2,?_⟩;rw[IP,IQ (by rw[ho];simp)];simp
 ·rintro ρ M1 acc ⟨⟨o0,rfl⟩,g1,rfl⟩ pr hpr;have gr:=g0.trans (g1.trans (Ge.new (o:=.lst (((rws P R).filter fo).map rD)) hpr));have er:=aa (M:=M1) (a:=pr) (o:=.lst (((rws P R).filter fo).map rD));generalize ad M1 pr _=M2 at gr er⊢;clear g0 n0 e0 g1 hpr;nofun;refine qG ∅ B F2 λp3 M3 g3 n3 e3=>⟨_,ab e3,?_⟩
  have er:=g3 _ _ er;refine ah (f:=rD) (ys:=rws P L) (I:=λl ρ M' acc=>(∃o0 j,ρ=[o0,j,E (.ref pr)])/\Ge M3 M'/\acc=(prL P R (l.filter fo)).map p2D) rfl ⟨⟨_,_,rfl⟩,Ge.refl,rfl⟩ (λ_ _ _ _ h=>ab (h.2.1 _ _ e3)) ?_ ?_
  ·rintro l w r ρ M4 acc e ⟨⟨o0,j,rfl⟩,J,rfl⟩;refine⟨_,rfl,λN F=>?_⟩;have Gp:=af e;have Gq:=fI L w (by rw[e];simp)
   have Gr:=II fo l;have Gs:=oS B Y;ac_nf;refine lK ∅ ∅ λM5 z=>⟨_,rfl,?_⟩
   cases ho:fo w with
   |true=>
    rw[if_pos rfl];have O:=(J.trans z) _ _ er;refine⟨_,ab O,?_⟩;refine ah (f:=rD) (ys:=(rws P R).filter fo) (I:=λl2 ρ M' acc=>(∃j,ρ=[E (rD w),j,E (.ref pr)])/\M'=M5/\acc=(prL P R (l.filter fo)++l2.map λr=>(w,r)).map p2D) rfl ⟨⟨_,rfl⟩,rfl,by simp⟩ (λ_ _ _ _ h=>by rw[h.2.1];exact ab O) ?_ ?_
    ·rintro l2 x r2 ρ M6 acc e2 ⟨⟨j,rfl⟩,rfl,rfl⟩;refine⟨_,rfl,λN2 Gu=>?_⟩;have Gx:=af e2;have hm:(l.filter fo).length*((rws P R).filter fo).length<=729*729:=JI ∅ Gs
     ac_nf;refine⟨by rw[z4];lia,by rw[hG,hQ,kz,hG,z4];lia,Gu _ _ _ ⟨⟨_,rfl⟩,rfl,by simp⟩⟩
    ·rintro ρ M6 acc ⟨⟨j,rfl⟩,rfl,rfl⟩;refine F _ _ _ ⟨⟨_,_,rfl⟩,J.trans z,?_⟩;rw[IP,ID ho];simp[prL,KG]
   |false=>
    rw[if_neg (by simp)]
    refine F _ _ _ ⟨⟨_,_,rfl⟩,J.trans z,?_⟩;rw[IP,IQ (by rw[ho];simp)];simp
  ·rintro ρ M4 acc ⟨⟨o0,j,rfl⟩,J,rfl⟩ pn U;have z:=gr.trans (g3.trans J);exact q pn _ (z.trans (Ge.new U)) (bo z U) aa
noncomputable def tst(P R:Nat)(tabs:List (List Int))(t:Tm):List (List Int):=tabs.set t.1.1.toNat (((tabs[t.1.1.toNat]?).getD []).set (t.1.2.1*R+t.1.2.2).toNat (t.2%P))
noncomputable def tbs(P n R many:Nat)(ts:List Tm):List (List Int):=ts.foldl (tst P R) (HN many (HN n 0))
variable{many:Nat}{ts:List Tm}
theorem oT{n:Nat}{t:Tm}:tbs P n R many (ts++[t])=tst P R (tbs P n R many ts) t:=by unfold tbs;rw[KA];rfl
structure TI'(L R many:Nat)(t:Tm):Prop where
 k:0<=t.1.1/\t.1.1<many
 i:0<=t.1.2.1/\t.1.2.1<L
 j:0<=t.1.2.2/\t.1.2.2<R
variable{tabs:List (List Int)}
theorem C0(J:0<P){t:Tm}(B:TI' L R many t)(F:tabs.length=many)(j:∀v∈tabs,Vr P (L*R) v):(tst P R tabs t).length=many/\∀v∈tst P R tabs t,Vr P (L*R) v:=by
 refine⟨by unfold tst;rw[LB];exact F,λv hm=>?_⟩
 unfold tst at hm
 rcases NW hm with h|h
 ·exact j v h
 ·have z:t.1.1.toNat<tabs.length:=by have:=B.k;lia
  rw[r4 z,Lo]at h;have h0:=j _ (JO z);rw[h];refine⟨by rw[LB];exact h0.len,λx hx=>?_⟩
  rcases NW hx with hx|hx
  ·exact h0.inn x hx
  ·rw[hx];exact⟨Jk _ ∅,IX _ ∅⟩
theorem db(z:0<P)(j:∀t∈ts,TI' L R many t):(tbs P (L*R) R many ts).length=many/\∀v∈tbs P (L*R) R many ts,Vr P (L*R) v:=by
 have:∀(ts:List Tm) (tabs:List (List Int)),(∀t∈ts,TI' L R many t)->tabs.length=many->(∀v∈tabs,Vr P (L*R) v)->(ts.foldl (tst P R) tabs).length=many/\∀v∈ts.foldl (tst P R) tabs,Vr P (L*R) v:=by
  intro ts
  induction ts with
  |nil=>intro tabs _ h1 h2;exact⟨h1,h2⟩
  |cons t ts ih=>intro tabs j h1 h2;obtain⟨a,b⟩:=C0 z (j t I0) h1 h2;exact ih _ (λx hx=>j x (HR _ hx)) a b
 exact this ts _ j (by simp) λv B=>by rw[J9 B];exact gQ z
variable{i:Nat}
theorem yu(h:i<L):ixN L (i:Nat)=E i:=by unfold ixN;rw[if_pos ∅,if_pos ∅,Il]
variable{j:Nat}
theorem vj{l:List SS}(h:l.Nodup)(hi:i<l.length)(z:j<l.length)(e:l[i]=l[j]):i=j:=by
 have B:=NV.mp (Jn.mp h)
 rcases Nat.lt_trichotomy i j with k|k|k
 ·exact absurd e (B i j hi z k)
 ·exact k
 ·exact absurd e.symm (B j i z hi k)
structure TS(qs:List SS)(tabs:List (List Int))(M:Mem):Prop where
 len:qs.length=tabs.length
 nd:qs.Nodup
 at':∀(k:Nat) q v,qs[k]?=E q->tabs[k]?=E v->M q=E (.lst (v.map .int))
variable{qs:List SS}{w:List Int}
theorem TS.put(h:TS qs tabs M){k:Nat}{q:SS}(J:qs[k]?=E q)(L:tabs[k]?=E v):TS qs (tabs.set k w) (ad M q (.lst (w.map .int))) where
 len:=by rw[LB];exact h.len
 nd:=h.nd
 at':=λk' q' v' j B=>by
  by_cases e:k'=k
  ·subst e;rw[J]at j;cases j;rw[JM ((HU.mp L).1)]at B
   cases B
   exact aa
  ·rw[Ko (fun z=>e z.symm)]at B;have F:q'≠q:=fun z=>by
    subst z;obtain⟨h1,O⟩:=HU.mp J;obtain⟨h2,U⟩:=HU.mp j;exact e (vj h.nd h2 h1 (U.trans O.symm))
   rw[ax F];exact h.at' k' q' v' j B
variable{N:NC}
theorem A8(O:tabs.length<=1000)(J:∀v∈tabs,v.length<=1000)(h:TS qs tabs M){chk:Mem->Prop}(L:chk M){o0:Option D}(q:∀ρ,N ρ M (tabs.map rD)):
 aZ (bh 0) (bO (wAr fW (aH (br 0) bD))) chk N (qs.map .ref) [o0] M []:=by
 refine ah (f:=D.ref) (ys:=qs) (I:=λl ρ M' acc=>(∃o0,ρ=[o0])/\M'=M/\acc=(tabs.take l.length).map rD) rfl ⟨⟨_,rfl⟩,rfl,rfl⟩ (λ_ _ _ _ h=>by rw[h.2.1];exact L) ?_ ?_
 ·rintro l x r ρ M1 acc e ⟨⟨o0,rfl⟩,rfl,rfl⟩;refine⟨_,rfl,λN' z=>?_⟩;have B:=af e;have hx:qs[l.length]?=E x:=by rw[e];simp
  have j:l.length<tabs.length:=by rw[<-h.len];exact B
  have F:tabs[l.length]?=E tabs[l.length]:=r4 j;have ex:=h.at' _ _ _ hx F;have U:=h.len;ac_nf;refine⟨_,_,rfl,ab ex,by rw[hG,IJ,z4];lia,z _ _ _ ⟨⟨_,rfl⟩,rfl,?_⟩⟩
  rw[hQ,IA,JR,F,HS];rfl
 ·rintro ρ M1 acc ⟨⟨o0,rfl⟩,rfl,rfl⟩;rw[K2 (by rw[h.len];exact HW _)]
  exact q _
theorem A9{i j:Int}(hi:0<=i/\i<L)(z:0<=j/\j<R):0<=i*R+j/\i*R+j<((L*R:Nat):Int):=by
 have h1:=Int.mul_nonneg hi.1 (show(0:Int)<=R by lia)
 have h2:=Int.mul_le_mul_of_nonneg_right (show i<=L-1 by lia) (show(0:Int)<=R by lia)
 rw[Ry]at h2
 push_cast
 lia
theorem Ey{t:Tm}(ht:TI' L R many t)(h1:tabs.length=many)(h2:∀v∈tabs,Vr P (L*R) v)(Y:TS qs tabs M):
 ∃(q:SS) (v:List Int) (z:Nat),atI (qs.map D.ref) t.1.1=E (.ref q)/\q∈qs/\M q=E (.lst (v.map .int))/\ixN (v.map D.int).length (t.1.2.1*R+t.1.2.2)=E z/\TS qs (tst P R tabs t) (ad M q (.lst ((v.map D.int).set z (.int (t.2%P))))):=by
 obtain⟨F2,Gp,Gq⟩:=ht;have hlen:=Y.len;obtain⟨k,F⟩:=IS F2.1;have J:k<qs.length:=∅
 have O:k<tabs.length:=∅
 have j:=r4 J;have B:=r4 O;have ea:=Y.at' k _ _ j B;have Gr:=(h2 _ (JO O)).len;have U:=A9 Gp Gq;obtain⟨z,hz⟩:=IS U.1;have Gs:z<(tabs[k]).length:=by rw[Gr];lia
 refine⟨qs[k],tabs[k],z,by rw[F];exact bv (by rw[I8,j];rfl),JO J,ea,?_,?_⟩
 ·rw[hz];exact yu (by rw[hG];exact Gs)
 ·have:=Y.put (w:=(tabs[k]).set z (t.2%P)) j B;unfold tst;rw[F,hz,Il,Il,B,Lo,<-show((tabs[k]).set z (t.2%P)).map D.int=_ from List.map_set];exact this
theorem lL{k:Nat}(F2:1<=k)(hP:0<P/\P<=3)(hL:L<=6)(hR:R<=6)(hm:many<=10)(ht:∀t∈ts,TI' L R many t){p:SS}(hp:M p=E (.lst (ts.map tmD)))(q:∀pt M',Ge M M'->M pt=Z->M' pt=E (.lst ((tbs P (L*R) R many ts).map rD))->Q (.ref pt) M'):phi tab k 5 [.tup [.int L,.int R,.int many,.ref p],.int P] M Q:=by
 have hn:L*R<=6*6:=JI hL hR;refine ao ∅ rfl rfl (ρ:=[E _,E _,Z,Z,Z,Z,Z,Z,Z,Z,Z]) rfl ?_
 unfold d5 b5;nofun;nofun;refine⟨∅,∅,?_⟩
 rw[Il];refine ah (f:=λi=>D.int (i:Nat)) (ys:=HV many) (I:=λl ρ M' acc=>(∃o0,ρ=[o0,E (.int L),E (.int R)])/\Ge M M'/\∃qs:List SS,acc=qs.map .ref/\TS qs (HN l.length (HN (L*R) 0)) M'/\∀q∈qs,M q=Z) aK ⟨⟨_,rfl⟩,Ge.refl,[],rfl,⟨rfl,by simp,λk q v h=>by simp at h⟩,by simp⟩ (λ_ _ _ _ _=>trivial) ?_ ?_
 ·rintro l x r ρ M1 acc e ⟨⟨o0,rfl⟩,g1,qs,rfl,j,hq⟩;refine⟨_,rfl,λN hN=>?_⟩;have Gu:=af e;rw[Ic]at Gu;have Gp:=j.len;rw[KU]at Gp;ac_nf;refine⟨by rw[z4];lia,λp0 Gv=>⟨cB ∅,?_⟩⟩
  rw[<-OZ];refine⟨_,aa,∅,∅,by rw[z4];simp;lia,λp1 Gq=>?_⟩
  rw[Il,kj];have Gr:=Ge.new (o:=.lst [.int 0]) Gv;have g2:=Gr.trans (Ge.new (o:=.lst ((HN (L*R) (0:Int)).map D.int)) Gq);have e2:=aa (M:=ad M1 p0 (.lst [.int 0])) (a:=p1) (o:=.lst ((HN (L*R) (0:Int)).map D.int));generalize ad (ad M1 p0 (.lst [.int 0])) p1 _=M2 at g2 e2⊢;have n1:=bo Gr Gq;refine⟨by rw[hG,z4];lia,hN _ _ _ ⟨⟨_,rfl⟩,g1.trans g2,qs++[p1],by simp,⟨by simp[Gp],?_,?_⟩,?_⟩⟩
  ·rw[MQ];refine⟨j.nd,by simp,λa J b hb=>?_⟩
   rw[Im.mp hb];intro z;obtain⟨k,F2⟩:=JY J;have O:k<l.length:=by have:=(HU.mp F2).1;lia
   have:=j.at' k a (HN (L*R) 0) F2 (by rw[Jd,if_pos O])
   rw[z,n1]at this;cases this
  ·intro k q v h1 h2;rw[Jd]at h2
   split at h2
   ·cases h2
    by_cases hkl:k<qs.length
    ·rw[HX hkl]at h1;exact g2 _ _ (j.at' k q _ h1 (by rw[Jd,if_pos ∅]))
    ·rw[HP ∅]at h1
     have:k-qs.length=0:=by have:=(HU.mp h1).1;simp at this;lia
     rw[this]at h1;cases h1;exact e2
   ·cases h2
  ·intro a J
   rcases Ie.mp J with J|J
   ·exact hq a J
   ·rw[Im.mp J];exact bo g1 n1
 ·rintro ρ M1 acc ⟨⟨o0,rfl⟩,g1,qs,rfl,j,hq⟩ pt hpt;rw[Ic]at j;have Gw:pt∉qs:=fun h=>by
   obtain⟨k,F2⟩:=JY h;have O:k<(HN many (HN (L*R) (0:Int))).length:=by rw[<-j.len];exact(HU.mp F2).1
   have:=j.at' k pt _ F2 (r4 O);rw[hpt]at this;cases this
  have gt:=Ge.new (o:=.lst (qs.map D.ref)) hpt;have et:=aa (M:=M1) (a:=pt) (o:=.lst (qs.map D.ref));have j:TS qs (tbs P (L*R) R many []) (ad M1 pt (.lst (qs.map D.ref))):=⟨j.len,j.nd,λk q v h1 h2=>gt _ _ (j.at' k q v h1 h2)⟩;have g2:=g1.trans gt;have GB:=bo g1 hpt;generalize ad M1 pt _=M2 at g2 et j⊢;nofun;refine⟨_,ab (g2 _ _ hp),?_⟩;refine aI (f:=tmD) (ys:=ts) (I:=λl ρ M'=>(∃o7 o8 o9 U,ρ=[E _,E (.int P),E (.int L),E (.int R),E (.int many),E (.ref p),E (.ref pt),o7,o8,o9,U])/\Ge M M'/\M' pt=E (.lst (qs.map .ref))/\TS qs (tbs P (L*R) R many l) M') rfl ⟨⟨_,_,_,_,rfl⟩,g2,et,j⟩ (λ_ _ _ h=>ab (h.2.1 _ _ hp)) ?_ ?_
  ·rintro l t r ρ M3 e ⟨⟨o7,o8,o9,U,rfl⟩,g3,B,Y⟩;refine⟨_,rfl,λF hF=>?_⟩;obtain⟨Gx,Gy,Gz⟩:=ht t (by rw[e];simp)
   nofun;obtain⟨h1,h2⟩:=db hP.1 (ts:=l) (λt GA=>ht t (by rw[e];simp[GA]))
   obtain⟨a,v,z,c1,c2,c3,c4,c5⟩:=Ey (P:=P) ⟨Gx,Gy,Gz⟩ h1 h2 Y;refine⟨∅,av B c1 ⟨cB ∅,bE c3 c4 (hF _ _ ⟨⟨_,_,_,_,rfl⟩,g3.upd (hq a c2),?_,by rw[oT];exact c5⟩)⟩⟩
   rw[ax λz=>Gw (by rw[z];exact c2)];exact B
  ·rintro ρ M3 ⟨⟨o7,o8,o9,U,rfl⟩,g3,B,Y⟩;dsimp only;nofun;have hb:=db hP.1 ht;refine⟨_,ab B,A8 ∅ (λv hv=>by rw[(hb.2 v hv).len];lia) Y (ab B) λρ pn Gs=>q pn _ (g3.trans (Ge.new Gs)) (bo g3 Gs) aa⟩
theorem vk(a b:List Int):LV gH (a.map .int) (b.map .int)=(a.zip b).map λxy=>.tup [.int xy.1,.int xy.2]:=by rw[List.zipWith_map,PY,Rf];rfl
theorem C1{p t:Int}{u:List Int}:cb p t u v=(u.zip v).map λxy=>(xy.1+t*xy.2)%p:=by unfold cb;rw[PY,Rf]
theorem oU{P:Nat}{e:Nat×List Int}:∀{bs:List (Nat×List Int)} {r:List Int},wo P (bs++[e]) r=cb P (-(gf (wo P bs r) e.1)) (wo P bs r) e.2
 |[],r=>rfl
 |b::bs,r=>oU (bs:=bs)
theorem Ez{n:Nat}(B:0<P){u:List Int}(j:Vr P n u)(z:Vr P n v):cb P 0 u v=u:=by
 refine(eI ∅ j.len z.len).ext j λx hx=>?_
 have:=da (p:=P) (t:=0) j.len z.len hx;rw[<-KJ]at this
 rwa[show -(gf u x+0*gf v x-gf (cb P 0 u v) x)=gf (cb P 0 u v) x-gf u x by lia]at this
noncomputable abbrev eD(e:Nat×List Int):D:=.tup [.int e.1,rD e.2]
theorem C2(O:0<P){c:Int}{u:List Int}(U:u.length<=1000){chk:Mem->Prop}(F:chk M)(J:∀x∈v,0<=x/\x<3)(q:∀ρ,N ρ M ((cb P (-c) u v).map .int)):
 aZ (rJ (bX (bh 0) (bX (bh 1) fX))) (bO (wOp ie (wOp jQ (br 0) (wOp ff (br 2) (br 1))) (br 3))) chk N (LV gH (u.map .int) (v.map .int)) [Z,Z,E (.int c),E (.int P)] M []:=by
 refine ah (I:=λl' ρ M' acc=>(∃z B,ρ=[z,B,E (.int c),E (.int P)])/\M'=M/\acc=(l'.map λxy=>(xy.1 + -c*xy.2)%P).map .int) (ys:=u.zip v) (f:=λxy=>.tup [.int xy.1,.int xy.2]) (vk _ _) ⟨⟨_,_,rfl⟩,rfl,rfl⟩ (λ_ _ _ _ h=>by rw[h.2.1];exact F) ?_ ?_
 ·rintro l' xy r' ρ M5 acc e' ⟨⟨z,B,rfl⟩,rfl,rfl⟩;refine⟨_,rfl,fun N L=>?_⟩;ac_nf;have j:=af e';rw[List.length_zip]at j;have hs:xy.2∈v:=by
   have:xy∈u.zip v:=by rw[e'];simp
   exact(Nl this).2
  have hs:=J _ hs;refine⟨fF ∅,∅,by simp[z4];lia,L _ _ _ ⟨⟨_,_,rfl⟩,rfl,?_⟩⟩
  rw[HS,HS];simp only[Ii,JC];rw[show xy.1 + -c*xy.2=xy.1-c*xy.2 by rw[Rx];lia]
 ·rintro ρ M5 acc ⟨_,rfl,rfl⟩;have:=q ρ
  rwa[C1]at this
variable{base:List (Nat×List Int)}{a:SS}
theorem fJ{k:Nat}(hk:1<=k){n:Nat}(Y:0<P/\P<=3)(hn:n<=100)(F2:∀e∈base,Vr P n e.2)(hp:∀e∈base,e.1<n)(hv:Vr P n v)(ea:M a=E (.lst (base.map eD)))(q:∀M',Ge M M'->Q (rD (wo P base v)) M'):phi tab k 6 [rD v,.ref a,.int P] M Q:=by
 refine ao ∅ rfl rfl (ρ:=[E _,E _,E _,Z,Z,Z]) rfl ?_
 unfold d6 b6;nofun;refine⟨_,ab ea,?_⟩;refine aI (f:=eD) (ys:=base) (I:=λl ρ M'=>(∃B J L,ρ=[E (rD (wo P l v)),E (.ref a),E (.int P),B,J,L])/\Ge M M') rfl ⟨⟨_,_,_,rfl⟩,Ge.refl⟩ (λ_ _ _ h=>ab (h.2 _ _ ea)) ?_ ?_
 ·rintro l e r ρ M1 es ⟨⟨B,J,L,rfl⟩,g1⟩;refine⟨_,rfl,λF hF=>?_⟩;have z:Vr P n (wo P l v):=dE Y.1 (λx hx=>F2 x (by rw[es];simp[hx])) hv
  have he:=F2 e (by rw[es];simp)
  have j:=hp e (by rw[es];simp)
  have Gp:=z.at j;nofun;refine⟨_,bv (by rw[I8,au (by rw[z.len];exact j)];rfl),?_⟩
  nofun
  by_cases O:gf (wo P l v) e.1=0
  ·rw[O];simp;refine hF _ _ ⟨?_,g1⟩;rw[oU,O,Int.neg_zero,Ez Y.1 z he];exact⟨_,_,_,rfl⟩
  ·rw[if_pos (by simpa using O)]
   nofun;refine C2 ∅ (by have:=z.len;lia) trivial (c:=gf (wo P l v) e.1) (λx hx=>by have:=he.inn x hx;lia) λρ p U=>⟨_,_,rfl,ab aa,hF _ _ ⟨?_,g1.trans (Ge.new U)⟩⟩
   rw[oU];exact⟨_,_,_,rfl⟩
 ·rintro ρ M1 ⟨⟨B,J,L,rfl⟩,g1⟩;dsimp only;nofun;exact q _ g1
theorem xQ(ns:List Int):cH (ns.map .int)=ns.zipIdx.map λp=>.tup [.int (p.2:Nat),.int p.1]:=by
 unfold cH;apply K1;intro i;rw[L9,I8,I8,JZ]
 cases ns[i]?<;>simp
theorem iI:∀ns:List Int,aE rV (ns.map .int)=E (ns.map λx=>x != 0)
 |[]=>rfl
 |x::r=>by rw[Ii,aE,iI r];rfl
theorem oV{n:Nat}(j:Vr P n v):(v.map λx=>x != 0).any id=R9↔v=HN n 0:=by
 constructor
 ·intro h;rw[List.any_eq_false]at h;rw[MW];refine⟨j.len,λx hx=>?_⟩;have:=h (x != 0) (Iz hx);simpa using this
 ·rintro rfl;simp
theorem C3{n pl:Nat}(O:0<P)(U:w.length<=100)(j:pl<n)(hw:Vr P n w)(B:P<=3){chk:Mem->Prop}(F:chk M)(q:∀ρ,N ρ M ((w.map λx=>(gf w pl*x)%P).map .int)):
 aZ (bh 0) (bO (wOp ie (wOp ff (wOp wIx (br 1) (br 2)) (br 0)) (br 3))) chk N (w.map .int) [Z,E (rD w),E (.int pl),E (.int P)] M []:=by
 refine ah (f:=D.int) (ys:=w) (I:=λl ρ M' acc=>(∃o0,ρ=[o0,E (rD w),E (.int pl),E (.int P)])/\M'=M/\acc=(l.map λx=>(gf w pl*x)%P).map .int) rfl ⟨⟨_,rfl⟩,rfl,rfl⟩ (λ_ _ _ _ h=>by rw[h.2.1];exact F) ?_ ?_
 ·rintro l x r ρ M1 acc e ⟨⟨o0,rfl⟩,rfl,rfl⟩;refine⟨_,rfl,λN' z=>?_⟩;have J:=af e;have L:=hw.at j;ac_nf;refine⟨_,bv (by rw[I8,au (by rw[hw.len];exact j)];rfl),?_⟩
  ac_nf;refine⟨cB ∅,∅,by simp[z4];lia,z _ _ _ ⟨⟨_,rfl⟩,rfl,by simp⟩⟩
 ·rintro ρ M1 acc ⟨⟨o0,rfl⟩,rfl,rfl⟩;exact q _
noncomputable def kv(u:List Int):D×D:=(rD u,.bl N2)
theorem lM{l:List Int}(h:dC l):Big l:=λx hx=>by have:=h x hx;lia
theorem Aa(j:P<=3)(z:L<=6)(B:R<=6):(prs P L R).length<=729*729:=by show(prL P R ((rws P L).filter fo)).length<=_;rw[kz];exact JI (oS j z) (oS j B)
theorem xR{k:Nat}(hk:1<=k){n:Nat}(hn:n<=100)(F:Vr P n v)(L:v≠HN n 0)(q:∀(pl:Nat) M',pl<n->gf v pl≠0->(∀x,x<pl->gf v x=0)->Ge M M'->Q (.int pl) M'):phi tab k 8 [rD v] M Q:=by
 refine ao ∅ rfl rfl (ρ:=[E _]) rfl ?_
 unfold d8 b8;nofun;rw[xQ];refine ah (I:=λl ρ M' acc=>(∃O U,ρ=[O,U])/\M'=M/\acc=(l.filter λp=>p.1 != 0).map λx=>.int (x.2:Nat)) (ys:=v.zipIdx) (f:=λp=>.tup [.int (p.2:Nat),.int p.1]) rfl ⟨⟨_,_,rfl⟩,rfl,rfl⟩ (λ_ _ _ _ _=>trivial) ?_ ?_
 ·rintro l x r ρ M1 acc e ⟨⟨O,U,rfl⟩,rfl,rfl⟩;have J:=af e;rw[Kj,F.len]at J;refine⟨_,rfl,λN Y=>?_⟩;ac_nf;have Gp:=II (λp:Int×Nat=>p.1 != 0) l
  split
  ·next hx=>exact⟨by rw[hG,z4];lia,Y _ _ _ ⟨⟨_,_,rfl⟩,rfl,by rw[IP,HS,ID (p:=λp:Int×Nat=>p.1 != 0) (a:=x) hx];rfl⟩⟩
  ·next hx=>exact Y _ _ _ ⟨⟨_,_,rfl⟩,rfl,by rw[IP,IQ (p:=λp:Int×Nat=>p.1 != 0) (a:=x) hx];simp⟩
 ·rintro ρ M1 acc ⟨_,rfl,rfl⟩ p hp
  cases hf:v.zipIdx.filter (λp=>p.1 != 0)with
  |nil=>
   exfalso
   apply L;rw[MW];refine⟨F.len,λx hx=>?_⟩;obtain⟨i,hi⟩:=JY hx;have hm:(x,i)∈v.zipIdx:=LI.mpr hi;have:=Ly.mp hf _ hm;simpa using this
  |cons x r=>
   have hm:x∈v.zipIdx.filter (λp=>p.1 != 0):=by rw[hf];exact I0
   obtain⟨hm,hx⟩:=Iq.mp hm;have hi:=LI.mp hm;have F2:x.2<v.length:=(HU.mp hi).1;have j:=au F2;rw[hi]at j;have j:=Ir.inj j;have hb:∀y,y<x.2->gf v y=0:=by
    intro y hy;obtain⟨l₁,l₂,e,h1,_⟩:=List.filter_eq_cons_iff.mp hf;have B:v.zipIdx[l₁.length]?=E x:=by rw[e];simp
    rw[JZ]at B;obtain⟨z,L,B⟩:=Mz.mp B;have Gq:x.2=l₁.length:=by rw[<-B];simp
    have ey:v.zipIdx[y]?=E (gf v y,y):=by rw[JZ,au ∅];simp
    rw[e,HX ∅]at ey
    have:=h1 _ (Ib ey);simpa using this
   refine av aa (d:=.int x.2) (bv (k:=0) rfl) (q _ _ (by rw[<-F.len];exact F2) (by rw[<-j];simpa using hx) hb (Ge.new hp))
noncomputable def fi(w:List Int):Nat:=w.findIdx λx=>x != 0
theorem Dz{n pl:Nat}(J:w.length=n)(h:pl<n)(z:gf w pl≠0)(B:∀x,x<pl->gf w x=0):fi w=pl:=by
 unfold fi;rw[List.findIdx_eq ∅]
 have e:=au (v:=w) (x:=pl) ∅
 rw[r4 ∅]at e
 refine⟨by rw[Ir.inj e];simpa using z,λj F=>?_⟩
 have e:=au (v:=w) (x:=j) ∅
 rw[r4 ∅]at e
 rw[Ir.inj e,B j F];rfl
noncomputable def gst(P:Nat)(base:List (Nat×List Int))(t:List Int):List (Nat×List Int):=if((wo P base t).map λx=>x != 0).any id=N2 then base++[(fi (wo P base t),(wo P base t).map λx=>(gf (wo P base t) (fi (wo P base t))*x)%P)]else base
def Fs(base:List (Nat×List Int)):Prop:=∀e∈base,∀x,x<e.1->gf e.2 x=0
variable{A:List (Nat->Int)}{b:SS}
theorem fK{k:Nat}(hk:2<=k){n:Nat}(hP:P=2∨P=3)(hn:n<=100){j:List (Nat×List Int)}(Gq:Bs P n A j)(Gr:Fs j)(Gu:j.length<=100){ts:List (List Int)}(hl:ts.length<=100)(ht:∀t∈ts,Vr P n t)(ea:M a=E (.lst (j.map eD)))(eb:M b=E (.lst (ts.map rD)))(q:∀c (base:List (Nat×List Int)) M',Bs P n (chF P n A ts) base->base=ts.foldl (gst P) j->Fs base->M c=Z->M' c=E (.lst (base.map eD))->Ge M M'->Q (.ref c) M'):phi tab k 9 [.ref a,.ref b,.int P] M Q:=by
 have z:0<P:=∅
 refine ao ∅ rfl rfl (ρ:=[E _,E _,E _,Z,Z,Z,Z]) rfl ?_
 unfold d9 b9;nofun;refine⟨_,_,rfl,ab ea,λc hc=>?_⟩;have g1:=Ge.new (o:=.lst (j.map eD)) hc;have e1:=aa (M:=M) (a:=c) (o:=.lst (j.map eD));generalize ad M c (.lst (j.map eD))=M1 at g1 e1⊢;nofun;refine⟨_,ab (g1 _ _ eb),?_⟩;refine aI (f:=rD) (ys:=ts) (I:=λl ρ M'=>(∃o4 o5 o6,ρ=[E (.ref a),E (.ref b),E (.int P),E (.ref c),o4,o5,o6])/\Ge M M'/\∃base:List (Nat×List Int),M' c=E (.lst (base.map eD))/\Bs P n (chF P n A l) base/\base=l.foldl (gst P) j/\Fs base/\base.length<=j.length+l.length) rfl ⟨⟨_,_,_,rfl⟩,g1,j,e1,Gq,rfl,Gr,by simp⟩ (λ_ _ _ h=>ab (h.2.1 _ _ eb)) ?_ ?_
 ·rintro l t r ρ M2 es ⟨⟨o4,o5,o6,rfl⟩,g2,base,U,J,hg,hf,Gs⟩;refine⟨_,rfl,λF hF=>?_⟩;have B:=ht t (by rw[es];simp)
  have Gv:=af es;nofun;refine fJ ∅ ⟨z,∅⟩ hn J.vr (λe he=>(J.pl e he).1) B U λM3 g3=>?_
  have hw:=dE z J.vr B;nofun;refine⟨_,_,_,rfl,rfl,iI _,⟨_,rfl,?_⟩⟩
  cases hz:((wo P base t).map λx=>x != 0).any id with
  |false=>
   rw[if_neg (by simp)]
   have O:=(J.out z B).mp ((oV hw).mp hz);refine hF _ _ ⟨⟨_,_,_,rfl⟩,g2.trans g3,base,g3 _ _ U,?_,by rw[KA,<-hg];show base=gst P base t;unfold gst;rw[hz,if_neg (by simp)],hf,by rw[hQ];lia⟩
   rw[oH O];exact J
  |true=>
   rw[if_pos rfl];have Y:wo P base t≠HN n 0:=λh=>by rw[(oV hw).mpr h]at hz;cases hz
   have O:¬Sp P n (chF P n A l) (gf t):=λh=>Y ((J.out z B).mpr h);nofun;refine xR ∅ hn hw Y λpl M4 L F2 Gp g4=>?_
   have Gw:=hw.at L;nofun;refine⟨⟨_,g4 _ _ (g3 _ _ U)⟩,C3 z (by have:=hw.len;lia) L hw ∅ trivial λρ pn hpn=>⟨_,_,rfl,ab aa,?_⟩⟩
   have g5:=g4.trans (Ge.new (o:=.lst (((wo P base t).map λx=>(gf (wo P base t) pl*x)%P).map .int)) hpn);refine⟨by rw[z4];lia,c,_,_,rfl,rfl,g5 _ _ (g3 _ _ U),by rw[hG,z4];lia,?_⟩
   refine hF _ _ ⟨⟨_,_,_,rfl⟩,(g2.trans (g3.trans g5)).upd hc,base++[(pl,(wo P base t).map λx=>(gf (wo P base t) pl*x)%P)],?_,?_,by rw[KA,<-hg];show _=gst P base t;unfold gst;rw[hz,if_pos rfl,Dz hw.len L F2 Gp],?_,?_⟩
   ·rw[aa,HS];rfl
   ·rw[eT O];exact J.step hP B L F2
   ·intro e he x hx
    rcases Ie.mp he with he|he
    ·exact hf e he x hx
    ·rw[Im.mp he]at hx⊢;dsimp only at hx⊢;rw[jw (F:=λx=>(gf (wo P base t) pl*x)%P) (by rw[hw.len];lia),Gp x hx];simp
   ·rw[hQ,hQ];simp;lia
 ·rintro ρ M2 ⟨⟨o4,o5,o6,rfl⟩,g2,base,U,J,hg,hf,Gs⟩;dsimp only;nofun;exact q _ _ _ J hg hf hc U g2
theorem oW{k:Nat}(J:2<=k){n:Nat}(L:P=2∨P=3)(F:n<=100)(z:Bs P n A base)(B:Vr P n v)(ea:M a=E (.lst (base.map eD)))(q:∀c M',(c=N2↔Sp P n A (gf v))->Ge M M'->Q (.bl c) M'):phi tab k 7 [rD v,.ref a,.int P] M Q:=by
 have j:0<P:=∅
 refine ao ∅ rfl rfl (ρ:=[E _,E _,E _]) rfl ?_
 unfold d7 b7;nofun;refine fJ ∅ ⟨j,∅⟩ F z.vr (λe he=>(z.pl e he).1) B ea λO g3=>?_
 have hw:=dE j z.vr B;refine⟨_,_,_,rfl,rfl,iI _,?_⟩;refine⟨_,rfl,q _ _ ?_ g3⟩;rw[JE,oV hw,z.out j B]
def Bd(P n:Nat):Prop:=(P=2/\n<=12)∨(P=3/\n<=9)
theorem Bd.p{n:Nat}(h:Bd P n):P=2∨P=3:=by rcases h with⟨h,_⟩|⟨h,_⟩<;>simp[h]
theorem Bd.n{n:Nat}(h:Bd P n):n<=12:=by rcases h with⟨_,h⟩|⟨_,h⟩<;>lia
theorem In.n{n:Nat}(B:P=2∨P=3)(h:In P n A):A.length<=n:=by
 obtain⟨keys,h⟩:=h;have F:∀v,Vr P n v->v∈rws P n:=by
  intro v j;have:∀(k:Nat),k<=n->v.take k∈rws P k:=by
   intro k
   induction k with
   |zero=>intro _;simp[rws]
   |succ k ih=>
    intro J;have z:k<v.length:=by rw[j.len];lia
    have hx:=j.inn _ (JO z);show _∈rwN P (rws P k);refine IE.mpr ⟨_,ih ∅,HQ.mpr ⟨(v[k]).toNat,Io.mpr ∅,?_⟩⟩
    rw[JR,r4 z,Ma hx.1];rfl
  have:=this n (HW _)
  rwa[K2 (by rw[j.len];exact HW _)]at this
 have z:∀k,(rws P k).length=P^k:=by
  intro k
  induction k with
  |zero=>rfl
  |succ k ih=>show(rwN P (rws P k)).length=_;rw[gW,ih,QM]
 have:=fH h.nd λv j=>F v ((h.mem v).mp j).1;rw[h.len,z]at this;exact yt B this
noncomputable abbrev ixD(ix:List Nat):D:=.tup (ix.map λi:Nat=>D.int ((i:Nat):Int))
noncomputable def tat(T:List (List Int))(i:Nat):List Int:=T.getD i []
variable{T:List (List Int)}
theorem bL(h:i<T.length):T[i]?=E (tat T i):=by unfold tat;rw[HY,r4 h];rfl
theorem de{n:Nat}(j:∀t∈T,Vr P n t)(h:i<T.length):Vr P n (tat T i):=j _ (Ib (bL h))
noncomputable def chS(P n:Nat)(S:List (Nat->Int))(ts:List (List Int)):List (Nat->Int):=ts.foldl (λA t=>@ite _ (Sp P n S (gf t)/\¬Sp P n A (gf t)) (Jo _) (A++[gf t]) A) []
variable{S:List (Nat->Int)}
theorem gp{n:Nat}{ts:List (List Int)}{t:List Int}(h:¬(Sp P n S (gf t)/\¬Sp P n (chS P n S ts) (gf t))):chS P n S (ts++[t])=chS P n S ts:=by unfold chS at h⊢;rw[KA,JL,PD,if_neg h]
theorem kA{n:Nat}{ts:List (List Int)}{t:List Int}(h:Sp P n S (gf t))(h2:¬Sp P n (chS P n S ts) (gf t)):chS P n S (ts++[t])=chS P n S ts++[gf t]:=by unfold chS at h2⊢;rw[KA,JL,PD,if_pos ⟨h,h2⟩]
theorem df{n:Nat}(j:Vr P n v):v∈rws P n:=by
 have:∀(k:Nat),k<=n->v.take k∈rws P k:=by
  intro k
  induction k with
  |zero=>intro _;simp[rws]
  |succ k ih=>
   intro B;have z:k<v.length:=by rw[j.len];lia
   have hx:=j.inn _ (JO z);show _∈rwN P (rws P k);refine IE.mpr ⟨_,ih ∅,HQ.mpr ⟨(v[k]).toNat,Io.mpr ∅,?_⟩⟩
   rw[JR,r4 z,Ma hx.1];rfl
 have:=this n (HW _)
 rwa[K2 (by rw[j.len];exact HW _)]at this
theorem gu{P:Nat}:∀{k:Nat} {v:List Int},v∈rws P k->Vr P k v
 |0,v,h=>by
  have:v=[]:=by simpa[rws]using h
  subst this;exact⟨rfl,by simp⟩
 |k+1,v,h=>by
  obtain⟨u,z,h⟩:=IE.mp (show v∈rwN P (rws P k)from h);obtain⟨x,hx,rfl⟩:=HQ.mp h;have ih:=gu z;refine⟨by rw[hQ,ih.len];rfl,λy j=>?_⟩
  rcases Ie.mp j with j|j
  ·exact ih.inn y j
  ·rw[Im.mp j];have:=Io.mp hx;lia
noncomputable def tbl(P:Nat)(x:List Int×List Int):List Int:=x.1.flatMap λa=>x.2.map λb=>a*b%P
theorem jy{x:List Int×List Int}(h:x∈prs P L R):Vr P L x.1/\Vr P R x.2:=by obtain⟨l,j,h⟩:=IE.mp h;obtain⟨r,z,rfl⟩:=HQ.mp h;exact⟨gu (Iq.mp j).1,gu (Iq.mp z).1⟩
theorem vm{P:Nat}{r:List Int}:∀{l:List Int} {i j:Nat},i<l.length->j<r.length->(tbl P (l,r))[i*r.length+j]?=E (gf l i*gf r j%P)
 |a::l,0,j,_,z=>by
  unfold tbl;rw[Jb,Nat.zero_mul,NG,HX (by rw[hG];exact z),I8,au z]
  rfl
 |a::l,i+1,j,hi,z=>by
  have ih:=vm (P:=P) (r:=r) (l:=l) (i:=i) (j:=j) (by rw[Iv]at hi;lia) z
  unfold tbl at ih⊢;rw[Jb,HP (by rw[hG,J1];lia),hG,show(i+1)*r.length+j-r.length=i*r.length+j by rw[J1];lia,ih]
  rfl
theorem kB{P:Nat}{r:List Int}:∀{l:List Int},(tbl P (l,r)).length=l.length*r.length
 |[]=>by simp[tbl]
 |a::l=>by have ih:=kB (P:=P) (r:=r) (l:=l);unfold tbl at ih⊢;rw[Jb,hQ,ih,Iv,J1,hG,Qw]
theorem oX(z:0<P){x:List Int×List Int}(h1:x.1.length=L)(h2:x.2.length=R):Vr P (L*R) (tbl P x):=by
 refine⟨by rw[<-h1,<-h2];exact kB,λy j=>?_⟩
 obtain⟨a,_,j⟩:=IE.mp j;obtain⟨b,_,rfl⟩:=HQ.mp j;exact⟨Jk _ ∅,IX _ ∅⟩
theorem eV{x:List Int×List Int}(h1:x.1.length=L)(h2:x.2.length=R)(hi:i<L)(B:j<R):gf (tbl P x) (i*R+j)=gf x.1 i*gf x.2 j%P:=by
 have e:=vm (P:=P) (l:=x.1) (r:=x.2) (i:=i) (j:=j) ∅ ∅
 have z:=(HU.mp e).1;rw[au z,h2]at e;exact Ir.inj e
noncomputable def ul(L i:Nat):List Int:=HN i 0++1::HN (L-i-1) 0
theorem dg(h:i<L):(ul L i).length=L:=by unfold ul;simp;lia
theorem jz(j:P=2∨P=3)(h:i<L):Vr P L (ul L i):=by
 refine⟨dg h,λx hx=>?_⟩;unfold ul at hx
 rcases Ie.mp hx with hx|hx
 ·rw[J9 hx];lia
 ·rcases Ij.mp hx with rfl|hx
  ·lia
  ·rw[J9 hx];lia
theorem mN:fo (ul L i)=N2:=by
 have e:nzl (ul L i)=[1]:=by
  unfold nzl ul;rw[IP,ID (by decide),Ly.mpr,Ly.mpr]
  ·rfl
  ·intro a j;rw[J9 j];decide
  ·intro a j;rw[J9 j];decide
 unfold fo;rw[e];decide
variable{x:Nat}
theorem jA(h:i<L)(hx:x<L):gf (ul L i) x=if x=i then 1 else 0:=by
 have e:=au (v:=ul L i) (x:=x) (by rw[dg h];exact hx)
 unfold ul at e⊢
 by_cases h1:x<i
 ·rw[HX (by simpa using h1),Jd,if_pos h1]at e
  rw[if_neg ∅];exact(Ir.inj e).symm
 ·rw[HP (by simpa using h1),KU]at e
  by_cases h2:x=i
  ·rw[h2,MD]at e;rw[if_pos h2,h2];exact(Ir.inj e).symm
  ·rw[show x-i=(x-i-1)+1 by lia,Kz,Jd,if_pos ∅]at e
   rw[if_neg h2];exact(Ir.inj e).symm
noncomputable def al(P L R:Nat):List (List Int):=(prs P L R).map (tbl P)
theorem cS(j:0<P):∀t∈al P L R,Vr P (L*R) t:=by intro t z;obtain⟨x,hx,rfl⟩:=HQ.mp z;obtain⟨h1,h2⟩:=jy hx;exact oX j h1.len h2.len
theorem oY(F:P=2∨P=3)(U:1<=R)(f:Nat->Int):Sp P (L*R) (chF P (L*R) A (al P L R)) f:=by
 refine Sp.units (λk J=>?_) f;have hi:k / R<L:=(JB ∅).mpr J
 have B:k%R<R:=Mj _ ∅
 have hm:tbl P (ul L (k / R),ul R (k%R))∈al P L R:=by refine HQ.mpr ⟨_,IE.mpr ⟨ul L (k / R),Iq.mpr ⟨df (jz F hi),mN⟩,HQ.mpr ⟨ul R (k%R),Iq.mpr ⟨df (jz F B),mN⟩,rfl⟩⟩,rfl⟩
 refine(bw hm).congr λx hx=>?_;have j:x / R<L:=(JB ∅).mpr hx
 have z:x%R<R:=Mj _ ∅
 have ex:x=x / R*R+x%R:=by rw[LU];exact(P0 x R).symm
 have e:=eV (P:=P) (x:=(ul L (k / R),ul R (k%R))) (dg hi) (dg B) j z;rw[<-ex,jA hi j,jA B z]at e;rw[e];unfold dl;have h1:(1:Int)%P=1:=Og (by decide) ∅
 by_cases hxk:x=k
 ·subst hxk;rw[if_pos rfl,if_pos rfl,if_pos rfl,La,h1];simp
 ·rw[if_neg hxk]
  by_cases h2:x / R=k / R
  ·rw[if_neg (show ¬x%R=k%R fromλO=>hxk (by rw[ex,h2,O,LU];exact P0 k R))];simp
  ·rw[if_neg h2];simp
theorem lN{k:Nat}(F2:1<=k)(hP:P=2∨P=3)(hL:L<=6)(hR:R<=6){x:List Int×List Int}(h1:Vr P L x.1)(h2:Vr P R x.2)(q:∀M',Ge M M'->Q (rD (tbl P x)) M'):phi tab k 4 [p2D x,.int P] M Q:=by
 have F:=h1.len;have J:=h2.len;refine ao ∅ rfl rfl (ρ:=[E _,E _,Z,Z]) rfl ?_
 unfold d4 b4;nofun;nofun;refine ah (f:=D.int) (ys:=x.1) (I:=λl ρ M' acc=>(∃o0 j,ρ=[o0,j,E (.int P),E (rD x.2)])/\M'=M/\acc=(tbl P (l,x.2)).map .int) rfl ⟨⟨_,_,rfl⟩,rfl,rfl⟩ (λ_ _ _ _ _=>by first|rfl|trivial) ?_ ?_
 ·rintro l a r ρ M1 acc e ⟨⟨o0,j,rfl⟩,rfl,rfl⟩;refine⟨_,rfl,λN O=>?_⟩;have U:=af e;have ha:=h1.inn a (by rw[e];simp)
  have hm:l.length*x.2.length<=6*6:=JI ∅ ∅
  ac_nf;refine ah (f:=D.int) (ys:=x.2) (I:=λl2 ρ M' acc=>(∃j,ρ=[E (.int a),j,E (.int P),E (rD x.2)])/\M'=M1/\acc=(tbl P (l,x.2)++l2.map λb=>a*b%P).map .int) rfl ⟨⟨_,rfl⟩,rfl,by simp⟩ (λ_ _ _ _ _=>by first|rfl|trivial) ?_ ?_
  ·rintro l2 b r2 ρ M2 acc e2 ⟨⟨j,rfl⟩,rfl,rfl⟩;refine⟨_,rfl,λN2 z=>?_⟩;have B:=af e2;ac_nf;refine⟨cB ∅,∅,by rw[hG,hQ,kB,hG,z4];lia,z _ _ _ ⟨⟨_,rfl⟩,rfl,by simp⟩⟩
  ·rintro ρ M2 acc ⟨⟨j,rfl⟩,rfl,rfl⟩;exact O _ _ _ ⟨⟨_,_,rfl⟩,rfl,by simp[tbl,KG]⟩
 ·rintro ρ M1 acc ⟨⟨o0,j,rfl⟩,rfl,rfl⟩ p Y;exact⟨_,_,rfl,ab aa,q _ (Ge.new Y)⟩
variable{m e:Nat}
theorem Ab{k:Nat}(L:1<=k)(he:e<=m)(hm:m<=1000000)(q:Q (.int (bn m e:Nat)) M):phi tab k 10 [.int m,.int e] M Q:=by
 refine ao ∅ rfl rfl (ρ:=[E _,E _,Z,Z]) rfl ?_
 unfold d10 b10;nofun;nofun;have ex:(if(m:Int)-e<e then(m:Int)-e else(e:Int))=((min e (m-e):Nat):Int):=by split<;>lia
 rw[ex];refine⟨∅,∅,?_⟩
 rw[Il];refine aI (f:=λi=>D.int (i:Nat)) (ys:=HV (min e (m-e))) (I:=λl ρ M'=>M'=M/\∃z,ρ=[E (.int m),E (.int e),E (.int (cnt m l.length:Nat)),z]) aK ⟨rfl,_,rfl⟩ (λ_ _ _ _=>by first|rfl|trivial) ?_ ?_
 ·rintro l i r ρ M1 es ⟨rfl,z,rfl⟩;refine⟨_,rfl,fun F J=>?_⟩;have j:=af es;rw[Ic]at j;have hi:i=l.length:=by
   have B:(HV (min e (m-e)))[l.length]?=E i:=by rw[es];simp
   rw[K8 j]at B;exact(Ir.inj B).symm
  nofun;refine⟨fF ∅,∅,by have B:(1000001:Int)<2^256:=(by decide);lia,J _ _ ⟨rfl,E (.int (i:Nat)),?_⟩⟩
  rw[hQ,IA];show _=[_,_,E (D.int ((cnt m l.length*(m-l.length) / (l.length+1):Nat):Int)),_];rw[Int.natCast_ediv,OZ,Int.natCast_sub ∅,hi]
  rfl
 ·rintro ρ M1 ⟨rfl,z,rfl⟩;dsimp only;nofun;rw[Ic,A6 he];exact q
theorem kC{k:Nat}{a b:List (List Nat)}:stp m e k (a++b)=stp m e k a++stp m e k b:=KG
theorem qH{k:Nat}{c:List Nat}:stp m e k [c]=exs m e k c:=by simp[stp]
theorem Ac{k:Nat}(hk:1<=k)(he:e<=m)(hm:m<=1000000)(Gu:e<=100)(hb:bn m e<=3000)(q:∀p M',Ge M M'->M p=Z->M' p=E (.lst ((sts m e e).map ixD))->Q (.ref p) M'):phi tab k 11 [.int m,.int e] M Q:=by
 refine ao ∅ rfl rfl (ρ:=[E _,E _,Z,Z]) rfl ?_
 unfold d11 b11;nofun;refine⟨by rw[z4];lia,by rw[z4];lia,λY B=>?_⟩
 have g0:=Ge.new (o:=.lst [ixD []]) B;have e0:=aa (M:=M) (a:=Y) (o:=.lst [ixD []]);change wSs _ _ _ _ (ad M Y (.lst [ixD []]));generalize ad M Y (.lst [ixD []])=M0 at g0 e0⊢;nofun;refine⟨∅,∅,?_⟩
 rw[Il];refine aI (f:=λi=>D.int (i:Nat)) (ys:=HV e) (I:=λl ρ M'=>∃pr F2,ρ=[E (.int m),E (.int e),E (.ref pr),F2]/\Ge M M'/\M pr=Z/\M' pr=E (.lst ((sts m e l.length).map ixD))) aK ⟨Y,_,rfl,g0,B,e0⟩ (λ_ _ _ _=>trivial) ?_ ?_
 ·rintro l i r ρ M1 es ⟨pr,F2,rfl,g1,n1,J⟩;refine⟨_,rfl,fun F hF=>?_⟩;have L:=af es;rw[Ic]at L;have hi:i=l.length:=by
   have O:(HV e)[l.length]?=E i:=by rw[es];simp
   rw[K8 L]at O;exact(Ir.inj O).symm
  subst hi;have Gp:=IW (A7 he (k:=l.length+1) ∅) hb
  nofun;refine⟨_,ab J,?_⟩;refine ah (f:=ixD) (ys:=sts m e l.length) (I:=λl2 ρ M' acc=>(∃o0 z,ρ=[o0,z,E (.int m),E (.int e),E (.int (l.length:Nat))])/\M'=M1/\acc=(stp m e l.length l2).map ixD) rfl ⟨⟨_,_,rfl⟩,rfl,rfl⟩ (λ_ _ _ _ h=>by rw[h.2.1];exact ab J) ?_ ?_
  ·rintro l2 c r2 ρ M2 acc e2 ⟨⟨o0,z,rfl⟩,rfl,rfl⟩;refine⟨_,rfl,λN hN=>?_⟩;have hc:=(dS c).mp (show c∈sts m e l.length by rw[e2];simp)
   have hsz:(stp m e l.length l2).length+(exs m e l.length c).length<=3000:=by
    have O:sts m e (l.length+1)=stp m e l.length l2++(exs m e l.length c++stp m e l.length r2):=by show stp m e l.length (sts m e l.length)=_;rw[e2,kC,show c::r2=[c]++r2 from rfl,kC,qH]
    rw[O,hQ,hQ]at Gp;lia
   have fin:∀(j:Int),j=(m:Int)-e+(l.length:Nat)+1->aZ (bh 1) (bO (wOp dX (br 0) (wAr ng (aH (br 1) bD)))) (λx=>True) N (ce (fsx c:Nat) (j-(fsx c:Nat)).toNat) [E (ixD c),z,E (D.int m),E (D.int e),E (D.int (l.length:Nat))] M2 (K7 ixD (stp m e l.length l2)):=by
    intro j hj;have hj:(j-(fsx c:Nat)).toNat=m-e+l.length+1-fsx c:=∅
    rw[hj];refine ah (f:=λi:Nat=>D.int ((fsx c:Nat)+(i:Nat))) (ys:=HV (m-e+l.length+1-fsx c)) (I:=λl3 ρ M' acc=>(∃z,ρ=[E (ixD c),z,E (.int m),E (.int e),E (.int (l.length:Nat))])/\M'=M2/\acc=(stp m e l.length l2++l3.map λi=>c++[fsx c+i]).map ixD) rfl ⟨⟨_,rfl⟩,rfl,by simp⟩ (λ_ _ _ _ _=>trivial) ?_ ?_
    ·rintro l3 i r3 ρ M3 acc e3 ⟨⟨z,rfl⟩,rfl,rfl⟩;refine⟨_,rfl,λN2 Gq=>?_⟩;have Gr:=af e3;rw[Ic]at Gr;have Gv:(exs m e l.length c).length=m-e+l.length+1-fsx c:=by unfold exs;simp
     have Gw:=hc.1;ac_nf;refine⟨by rw[z4];lia,.inr trivial,by rw[hG,z4];lia,by rw[hG,hQ,hG,z4];lia,Gq _ _ _ ⟨⟨_,rfl⟩,rfl,?_⟩⟩
     simp
    ·rintro ρ M3 acc ⟨⟨z,rfl⟩,rfl,rfl⟩;refine hN _ _ _ ⟨⟨_,_,rfl⟩,rfl,?_⟩;rw[kC,qH];rfl
   have Gs:fsx c<=m:=by
    rcases JA c with rfl|⟨u,x,rfl⟩
    ·exact JG _
    ·rw[Jm]at *
     rw[cR];have:=hc.2.2 u.length x (by simp)
     have O:u.length+1=l.length:=by simpa using hc.1
     lia
   ac_nf
   rcases JA c with rfl|⟨u,x,rfl⟩
   ·refine⟨R9,rfl,?_⟩;rw[if_neg (by decide)]
    exact⟨0,_,⟨rfl,rfl⟩,∅,fin _ rfl⟩
   ·rw[Jm]at *
    refine⟨N2,by simp[rC],?_⟩
    rw[if_pos rfl];refine⟨.int x,by rw[HS];exact w5 _ _,?_⟩
    ac_nf;rw[cR]at fin Gs;exact⟨_,_,⟨rfl,rfl⟩,∅,fin _ rfl⟩
  ·rintro ρ M2 acc ⟨⟨o0,z,rfl⟩,rfl,rfl⟩ pn U;refine hF _ _ ⟨pn,_,rfl,g1.trans (Ge.new U),bo g1 U,?_⟩;rw[aa,hQ];rfl
 ·rintro ρ M1 ⟨pr,F2,rfl,g1,n1,J⟩;dsimp only;nofun;rw[Ic]at J;exact q pr M1 g1 n1 J
theorem lP(T:List (List Int)):cH (T.map rD)=T.zipIdx.map λp=>.tup [.int (p.2:Nat),rD p.1]:=by
 unfold cH;apply K1;intro i;rw[L9,I8,I8,JZ]
 cases T[i]?<;>simp
theorem qI{P n:Nat}{S:List (Nat->Int)}{l r:List (List Int×Nat)}{x:List Int×Nat}(e:T.zipIdx=l++x::r):x.2=l.length/\T[l.length]?=E x.1/\l.map (·.1)++[x.1]=(l++[x]).map (·.1):=by
 have j:T.zipIdx[l.length]?=E x:=by rw[e];simp
 rw[JZ]at j;obtain⟨z,B,j⟩:=Mz.mp j;refine⟨by rw[<-j];simp,by rw[B,<-j],by simp⟩
def Ip(P n:Nat)(T:List (List Int))(ix:List Nat):Prop:=∀(k i:Nat),ix[k]?=E i->¬Sp P n ((ix.take k).map λi=>gf (tat T i)) (gf (tat T i))
variable{ix:List Nat}
theorem Ip.snoc{n:Nat}(h:Ip P n T ix)(z:¬Sp P n (ix.map λi=>gf (tat T i)) (gf (tat T i))):Ip P n T (ix++[i]):=by
 intro k j e
 by_cases B:k<ix.length
 ·rw[HX B]at e;rw[Nh ∅]
  exact h k j e
 ·rw[HP ∅]at e
  have F:k-ix.length=0:=by have:=(HU.mp e).1;simp at this;lia
  rw[F]at e;have:i=j:=by simpa using e
  subst this;rw[show k=ix.length by lia,List.take_left]
  exact z
noncomputable def wix(P n:Nat)(S:List (Nat->Int))(T:List (List Int)):Nat->List Nat
 |0=>[]
 |k+1=>@ite _ (Sp P n S (gf (tat T k))/\¬Sp P n (chS P n S (T.take k)) (gf (tat T k))) (Jo _) (wix P n S T k++[k]) (wix P n S T k)
theorem gX{n k:Nat}(h:¬(Sp P n S (gf (tat T k))/\¬Sp P n (chS P n S (T.take k)) (gf (tat T k)))):wix P n S T (k+1)=wix P n S T k:=by rw[wix,if_neg h]
theorem kD{n k:Nat}(h:Sp P n S (gf (tat T k))/\¬Sp P n (chS P n S (T.take k)) (gf (tat T k))):wix P n S T (k+1)=wix P n S T k++[k]:=by rw[wix,if_pos h]
theorem sN{k:Nat}(hk:3<=k){n:Nat}(hB:Bd P n){space:List (Nat×List Int)}(hS:Bs P n S space)(hT:∀t∈T,Vr P n t)(GH:T.length<=1000000){ps pt:SS}(es:M ps=E (.lst (space.map eD)))(et:M pt=E (.lst (T.map rD)))(q:∀pc pb (ix:List Nat) (base:List (Nat×List Int)) M',chS P n S T=ix.map (λi=>gf (tat T i))->(∀i∈ix,i<T.length)->ix=wix P n S T T.length->Ip P n T ix->Bs P n (chS P n S T) base->M' pc=E (.lst (ix.map λi:Nat=>D.int ((i:Nat):Int)))->M' pb=E (.lst (base.map eD))->Ge M M'->Q (.tup [.ref pc,.ref pb]) M'):phi tab k 12 [.ref ps,.ref pt,.int P] M Q:=by
 have hP:=hB.p;have GI:=hB.n;have GJ:0<P:=∅
 refine ao ∅ rfl rfl (ρ:=[E _,E _,E _,Z,Z,Z,Z]) rfl ?_
 unfold d12 b12;nofun;refine⟨by rw[z4];lia,λpc Gw=>⟨by rw[z4];lia,λpb F2=>?_⟩⟩
 have g1:=Ge.new (o:=.lst []) Gw;have e1:=aa (M:=M) (a:=pc) (o:=.lst []);generalize ad M pc (.lst [])=M1 at g1 e1 F2⊢;have Y:pb≠pc:=λz=>by rw[z,e1]at F2;cases F2
 have g2:=Ge.new (o:=.lst []) F2;have f1:=aa (M:=M1) (a:=pb) (o:=.lst []);have e1:=g2 _ _ e1;have GG:=bo g1 F2;generalize ad M1 pb (.lst [])=M2 at g2 e1 f1⊢;have g2:=g1.trans g2;nofun;refine⟨_,ab (g2 _ _ et),?_⟩;rw[lP];refine aI (f:=λp:List Int×Nat=>.tup [.int (p.2:Nat),rD p.1]) (ys:=T.zipIdx) (I:=λl ρ M'=>Ge M M'/\∃(pb:SS) (ix:List Nat) (base:List (Nat×List Int)),(∃o5 o6,ρ=[E (.ref ps),E (.ref pt),E (.int P),E (.ref pc),E (.ref pb),o5,o6])/\pb≠pc/\M' pc=E (.lst (ix.map λi:Nat=>D.int ((i:Nat):Int)))/\M' pb=E (.lst (base.map eD))/\chS P n S (l.map (·.1))=ix.map (λi=>gf (tat T i))/\(∀i∈ix,i<T.length)/\ix=wix P n S T l.length/\Ip P n T ix/\Bs P n (chS P n S (l.map (·.1))) base/\Fs base/\ix.length<=l.length) rfl ⟨g2,pb,[],[],⟨_,_,rfl⟩,Y,e1,f1,rfl,by simp,rfl,(λk i h=>by simp at h),Bs.init,(λe he=>by cases he),HW _⟩ (λ_ _ _ h=>ab (h.1 _ _ et)) ?_ ?_
 ·rintro l x r ρ M3 Gs ⟨g3,pb,ix,base,⟨o5,o6,rfl⟩,Y,e3,f3,O,Gp,Gq,Gr,hb,hf,GA⟩;refine⟨_,rfl,fun F hF=>?_⟩;have GB:=af Gs;rw[Kj]at GB;obtain⟨Gu,Gx,B⟩:=qI (P:=P) (n:=n) (S:=S) Gs;have Gy:T.take l.length=l.map (·.1):=by
   have h9:T=T.zipIdx.map (·.1):=by simp
   rw[h9,Gs,HS,List.take_left' (by simp)]
  have Gv:=hT _ (Ib Gx);have J:tat T l.length=x.1:=by unfold tat;rw[HY,Gx];rfl
  have GK:base.length<=12:=by have:=hb.le;rw[hb.len];lia
  nofun;refine oW ∅ hP ∅ hS Gv (g3 _ _ es) λc1 M4 L g4=>?_
  refine⟨_,rfl,?_⟩
  cases c1 with
  |false=>
   rw[if_neg (by decide)]
   refine hF _ _ ⟨g3.trans g4,pb,ix,base,⟨_,_,rfl⟩,Y,g4 _ _ e3,g4 _ _ f3,?_,Gp,by rw[hQ,IA,Gq,gX (λz=>by have:=L.mpr (by rw[<-J];exact z.1);cases this)],Gr,?_,hf,by rw[hQ];lia⟩
   ·rw[<-B,gp (λh=>by have:=L.mpr h.1;cases this)];exact O
   ·rw[<-B,gp (λh=>by have:=L.mpr h.1;cases this)];exact hb
  |true=>
   have L:=L.mp rfl;rw[if_pos rfl];refine oW ∅ hP ∅ hb Gv (g4 _ _ f3) λc2 M5 j g5=>?_
   have U:=g4.trans g5;refine⟨_,rfl,?_⟩
   cases c2 with
   |true=>
    have j:=j.mp rfl;rw[if_neg (by decide)]
    refine hF _ _ ⟨g3.trans U,pb,ix,base,⟨_,_,rfl⟩,Y,U _ _ e3,U _ _ f3,?_,Gp,by rw[hQ,IA,Gq,gX (λz=>z.2 (by rw[Gy,J];exact j))],Gr,?_,hf,by rw[hQ];lia⟩
    ·rw[<-B,gp (λh=>h.2 j)];exact O
    ·rw[<-B,gp (λh=>h.2 j)];exact hb
   |false=>
    have j:¬Sp P n (chS P n S (l.map (·.1))) (gf x.1):=λh=>by have:=j.mpr h;cases this
    rw[if_pos (by decide)]
    nofun;refine⟨⟨_,U _ _ e3⟩,pc,_,_,rfl,rfl,U _ _ e3,by rw[hG,z4];lia,?_⟩
    have g6:=(g3.trans U).upd (o:=.lst ((ix.map λi:Nat=>D.int ((i:Nat):Int))++[.int (x.2:Nat)])) Gw;have e6:=aa (M:=M5) (a:=pc) (o:=.lst ((ix.map λi:Nat=>D.int ((i:Nat):Int))++[.int (x.2:Nat)]));have f6:=(ax (M:=M5) (o:=.lst ((ix.map λi:Nat=>D.int ((i:Nat):Int))++[.int (x.2:Nat)])) Y).trans (U _ _ f3);generalize ad M5 pc (.lst ((ix.map λi:Nat=>D.int ((i:Nat):Int))++[.int (x.2:Nat)]))=M6 at g6 e6 f6⊢;nofun;refine⟨by rw[z4];lia,λp7 GC=>?_⟩
    have g7:=Ge.new (o:=.lst [rD x.1]) GC;have e7:=aa (M:=M6) (a:=p7) (o:=.lst [rD x.1]);generalize ad M6 p7 (.lst [rD x.1])=M7 at g7 e7⊢;refine fK ∅ hP ∅ hb hf ∅ (ts:=[x.1]) (by simp) (by simpa using Gv) (g7 _ _ f6) e7 λc base' M8 Gz _ GD nc e8 g8=>?_
    have GE:c≠pc:=λz=>by rw[z,g7 _ _ e6]at nc;cases nc
    have e6:=g8 _ _ (g7 _ _ e6);have GF:chF P n (chS P n S (l.map (·.1))) [x.1]=chS P n S ((l++[x]).map (·.1)):=by rw[aO j,eS,<-B,kA L j]
    rw[GF]at Gz;refine hF _ _ ⟨g6.trans (g7.trans g8),c,ix++[x.2],base',⟨_,_,rfl⟩,GE,by rw[e6,HS];rfl,e8,?_,?_,by rw[hQ,IA,Gq,Gu,kD ⟨by rw[J];exact L,by rw[Gy,J];exact j⟩],Gr.snoc (by rw[<-O,Gu,J];exact j),Gz,GD,by rw[hQ,hQ];simp;lia⟩
    ·rw[<-B,kA L j,O,HS,Ii,JC,Gu,J]
    ·intro i hi
     rcases Ie.mp hi with hi|hi
     ·exact Gp i hi
     ·rw[Im.mp hi];lia
 ·rintro ρ M3 ⟨g3,pb,ix,base,⟨o5,o6,rfl⟩,Y,e3,f3,O,Gp,Gq,Gr,hb,hf,GA⟩;dsimp only;nofun;have hm:T.zipIdx.map (·.1)=T:=by simp
  rw[hm]at O hb;exact⟨by rw[z4];lia,q _ _ _ _ _ O Gp (by rw[Gq,Kj]) Gr hb e3 f3 g3⟩
theorem C4(h:i<L):(HN L (0:Int)).set i 1=ul L i:=by
 unfold ul;rw[List.set_eq_take_append_cons_drop,if_pos (by simpa using h)]
 simp;lia
theorem vp{n:Nat}(F2:1<=n)(hL:L<=100)(hi:i<L)(q:∀p M',Ge M M'->M p=Z->M' p=E (.lst ((ul L i).map .int))->Q (.ref p) M'):phi tab n 0 [.int L,.int i] M Q:=by
 refine ao ∅ rfl rfl (ρ:=[E _,E _,Z]) rfl ?_
 unfold d0 b0;nofun;refine⟨by rw[z4];lia,λJ B=>?_⟩
 refine⟨_,aa,∅,∅,by rw[z4];simp;lia,λF z=>?_⟩
 rw[Il,kj];have O:=Ge.new (o:=.lst [.int 0]) B;have g1:=O.trans (Ge.new (o:=.lst ((HN L (0:Int)).map D.int)) z);have U:=aa (M:=ad M J (.lst [.int 0])) (a:=F) (o:=.lst ((HN L (0:Int)).map D.int));have Y:=bo O z;generalize ad (ad M J (.lst [.int 0])) F _=M1 at g1 U⊢;nofun;refine bE U (j:=i) (by rw[hG,KU];exact yu hi) ?_
 nofun;refine q F _ (g1.upd Y) Y ?_;rw[aa,<-C4 hi,List.map_set]
noncomputable def mkd(cs:List (List Int))(m i:Nat):List Int:=tat cs i++ul m i
variable{cs:List (List Int)}
theorem C5{n:Nat}(j:P=2∨P=3)(z:∀t∈cs,Vr P n t)(hi:i<cs.length)(hm:i<m):Vr P (n+m) (mkd cs m i):=by
 have h1:=de z hi;have h2:=jz (P:=P) j hm;refine⟨by unfold mkd;rw[hQ,h1.len,h2.len],λx hx=>?_⟩
 rcases Ie.mp hx with hx|hx
 ·exact h1.inn x hx
 ·exact h2.inn x hx
theorem qJ{a b:List Int}(h:x<a.length):gf (a++b) x=gf a x:=by
 have e:=au (v:=a++b) (x:=x) (by rw[hQ];lia)
 rw[HX h,au h]at e;exact(Ir.inj e).symm
theorem qK{a b:List Int}(h:x<b.length):gf (a++b) (a.length+x)=gf b x:=by
 have e:=au (v:=a++b) (x:=a.length+x) (by rw[hQ];lia)
 rw[HP ∅,show a.length+x-a.length=x by lia,au h]at e
 exact(Ir.inj e).symm
theorem Ad{a:List Int}{n:Nat}(h:n+x<a.length):gf (a.drop n) x=gf a (n+x):=by
 have e:=au (v:=a.drop n) (x:=x) (by rw[JN];lia)
 rw[KS,au h]at e;exact(Ir.inj e).symm
structure RS(qs:List SS)(rows:List (List Int))(M:Mem):Prop where
 len:qs.length=rows.length
 at':∀(k:Nat) q v,qs[k]?=E q->rows[k]?=E v->M q=E (.lst (v.map .int))
variable{rows:List (List Int)}
theorem RS.ge(h:RS qs rows M)(g:Ge M M'):RS qs rows M':=⟨h.len,λk q v a b=>g _ _ (h.at' k q v a b)⟩
theorem RS.snoc(h:RS qs rows M){q:SS}(e:M q=E (.lst (v.map .int))):RS (qs++[q]) (rows++[v]) M:=by
 refine⟨by rw[hQ,hQ,h.len];rfl,λk q' v' a b=>?_⟩
 by_cases hk:k<qs.length
 ·rw[HX hk]at a;rw[HX (by rw[<-h.len];exact hk)]at b
  exact h.at' k q' v' a b
 ·rw[HP ∅]at a
  rw[HP (by rw[<-h.len];lia)]at b
  have j:k-qs.length=0:=by have:=(HU.mp a).1;simp at this;lia
  rw[j]at a;rw[<-h.len,j]at b
  cases a;cases b;exact e
variable{ds:List D}
theorem xS{n:Nat}(h:n<=ds.length)(q:Q (.tup (ds.drop n)) M):dY (.tup ds) (E (n:Int)) Z M Q:=by
 show Q (.tup (fj ds _ _)) M;unfold fj;rw[HT.sIx_none,HT.sIx_nat,LH h,K2 (by simp)]
 exact q
noncomputable def shr(P n:Nat)(base:List (Nat×List Int))(m:Nat)(t:List Int):List Int:=((wo P base (t++HN m 0)).drop n).map λx=>-x%P
theorem vq{k:Nat}(hk:3<=k){n:Nat}(hB:Bd P n){Ts:List (List Int)}(hT:∀t∈Ts,Vr P n t)(GA:1<=Ts.length/\Ts.length<=10)(hc:∀t∈cs,Vr P n t)(GB:cs.length<=12){pt pc:SS}(et:M pt=E (.lst (Ts.map rD)))(ec:M pc=E (.lst (cs.map rD)))(q:∀po qs base M',Bs P (n+cs.length) (chF P (n+cs.length) [] ((HV cs.length).map (mkd cs cs.length))) base->base=((HV cs.length).map (mkd cs cs.length)).foldl (gst P) []->Fs base->RS qs (Ts.map (shr P n base cs.length)) M'->M' po=E (.lst (qs.map .ref))->Ge M M'->Q (.ref po) M'):phi tab k 13 [.ref pt,.ref pc,.int P] M Q:=by
 have hP:=hB.p;have GC:=hB.n;have z:0<P:=∅
 refine ao ∅ rfl rfl (ρ:=[E _,E _,E _,Z,Z,Z,Z]) rfl ?_
 unfold d13 b13;nofun;refine⟨_,_,rfl,bR (ab ec),?_⟩;refine av et (d:=rD (tat Ts 0)) (bv (k:=0) (by rw[I8,bL ∅];rfl)) ?_
 have Gp:=(de hT (show 0<Ts.length by lia)).len
 refine⟨_,_,rfl,bR rfl,?_⟩;rw[hG,hG,Gp];refine⟨by rw[z4];lia,?_⟩
 nofun;refine⟨_,ab ec,?_⟩;rw[lP];refine ah (f:=λp:List Int×Nat=>.tup [.int (p.2:Nat),rD p.1]) (ys:=cs.zipIdx) (I:=λl ρ M' acc=>(∃o0 o1,ρ=[o0,o1,E (.int cs.length)])/\Ge M M'/\acc=((HV l.length).map (mkd cs cs.length)).map rD) rfl ⟨⟨_,_,rfl⟩,Ge.refl,rfl⟩ (λ_ _ _ _ h=>ab (h.2.1 _ _ ec)) ?_ ?_
 ·rintro l x r ρ M1 acc e ⟨⟨o0,o1,rfl⟩,g1,rfl⟩;refine⟨_,rfl,λN hN=>?_⟩;have j:=af e;rw[Kj]at j;obtain⟨Gq,B,_⟩:=qI (P:=P) (n:=n) (S:=[]) e;have Gr:=(hc _ (Ib B)).len;have F:tat cs l.length=x.1:=by unfold tat;rw[HY,B];rfl
  ac_nf;rw[Gq];refine vp ∅ ∅ j λp2 M2 g2 n2 O=>⟨_,_,rfl,ab O,?_⟩
  ac_nf;refine⟨.inr trivial,by rw[hG,hG,Gr,dg j,z4];lia,by rw[hG,hG,Ic,z4];lia,hN _ _ _ ⟨⟨_,_,rfl⟩,g1.trans g2,?_⟩⟩
  rw[hQ,IA,L6,HS,HS];show _=_++[rD (mkd cs cs.length l.length)];unfold mkd;rw[F,<-HS]
 ·rintro ρ M1 acc ⟨⟨o0,o1,rfl⟩,g1,rfl⟩ pm hpm;rw[Kj];have g2:=g1.trans (Ge.new (o:=.lst (((HV cs.length).map (mkd cs cs.length)).map rD)) hpm);have O:=aa (M:=M1) (a:=pm) (o:=.lst (((HV cs.length).map (mkd cs cs.length)).map rD));generalize ad M1 pm _=M2 at g2 O⊢;nofun;refine⟨by rw[z4];lia,λp3 Gs=>?_⟩
  have g3:=Ge.new (o:=.lst []) Gs;have e3:=aa (M:=M2) (a:=p3) (o:=.lst []);generalize ad M2 p3 (.lst [])=M3 at g3 e3⊢;refine fK ∅ hP (n:=n+cs.length) ∅ Bs.init (λe he=>by cases he) (by simp) (ts:=(HV cs.length).map (mkd cs cs.length)) (by simp;lia) (λt ht=>?_) e3 (g3 _ _ O) λpb base M4 U Gu hf nb e4 g4=>?_
  ·obtain⟨i,hi,rfl⟩:=HQ.mp ht;have hi:=Io.mp hi;exact C5 hP hc hi hi
  have gA:=g2.trans (g3.trans g4);have J:=gA _ _ et;nofun;refine⟨_,ab J,?_⟩;refine ah (f:=rD) (ys:=Ts) (I:=λl ρ M' acc=>(∃o0,ρ=[o0,E (.int cs.length),E (.ref pb),E (.int P),E (.int n)])/\Ge M4 M'/\∃qs,acc=qs.map .ref/\RS qs (l.map (shr P n base cs.length)) M') rfl ⟨⟨_,rfl⟩,Ge.refl,[],rfl,rfl,λk q v h=>by simp at h⟩ (λ_ _ _ _ h=>ab (h.2.1 _ _ J)) ?_ ?_
  ·rintro l t r ρ M5 acc e5 ⟨⟨o0,rfl⟩,Y,qs,rfl,F2⟩;refine⟨_,rfl,λN hN=>?_⟩;have j:=af e5;have L:=hT t (by rw[e5];simp)
   have Gv:=L.len;have h0:Vr P (n+cs.length) (t++HN cs.length 0):=⟨by simp[Gv],λx hx=>by
    rcases Ie.mp hx with hx|hx
    ·exact L.inn x hx
    ·rw[J9 hx];lia⟩
   have hw:=dE z U.vr h0;have Gw:=F2.len;rw[hG]at Gw;ac_nf;refine⟨by rw[z4];lia,∅,∅,by rw[z4];simp;lia,.inr trivial,?_⟩
   rw[Il,kj,<-HS];refine⟨by rw[hG,hG,KU,z4];lia,?_⟩
   refine fJ ∅ ⟨z,∅⟩ (n:=n+cs.length) ∅ U.vr (λe he=>(U.pl e he).1) h0 (Y _ _ e4) λM6 g6=>?_
   have Gx:=hw.len;refine xS (by rw[hG,Gx];lia) ?_
   rw[<-Qb];refine⟨_,rfl,?_⟩;refine ah (f:=D.int) (ys:=(wo P base (t++HN cs.length 0)).drop n) (I:=λl2 ρ M' acc=>(∃o0,ρ=[o0,E (.int P)])/\M'=M6/\acc=(l2.map λx:Int=>-x%(P:Int)).map .int) rfl ⟨⟨_,rfl⟩,rfl,rfl⟩ (λ_ _ _ _ _=>by first|rfl|trivial) ?_ ?_
   ·rintro l2 x r2 ρ M7 acc e7 ⟨⟨o0,rfl⟩,rfl,rfl⟩;refine⟨_,rfl,λN2 Gy=>?_⟩;have Gz:=af e7;rw[JN]at Gz;ac_nf;refine⟨∅,by rw[hG,hG,z4];lia,Gy _ _ _ ⟨⟨_,rfl⟩,rfl,by simp⟩⟩
   ·rintro ρ M7 acc ⟨⟨o0,rfl⟩,rfl,rfl⟩ p8 hp8;have g8:=Ge.new (o:=.lst ((((wo P base (t++HN cs.length 0)).drop n).map λx:Int=>-x%(P:Int)).map .int)) hp8;refine⟨by rw[hG,z4];lia,hN _ _ _ ⟨⟨_,rfl⟩,Y.trans (g6.trans g8),qs++[p8],by simp,?_⟩⟩
    rw[HS,Ii,JC];exact(F2.ge (g6.trans g8)).snoc aa
  ·rintro ρ M5 acc ⟨⟨o0,rfl⟩,Y,qs,rfl,F2⟩ po hpo;exact q po qs base _ U Gu hf (F2.ge (Ge.new hpo)) aa (gA.trans (Y.trans (Ge.new hpo)))
theorem gv{cs:List (List Int)}:∀{k:Nat},k<=cs.length->(HV k).map (λi=>gf (tat cs i))=(cs.take k).map gf
 |0,_=>by simp
 |k+1,h=>by rw[L6,HS,gv ∅,JR,bL ∅,HS];rfl
theorem C6{n:Nat}(hP:P=2∨P=3)(hc:∀t∈cs,Vr P n t)(hi:∀k,k<cs.length->¬Sp P n ((cs.take k).map gf) (gf (tat cs k)))(U:Bs P (n+cs.length) (chF P (n+cs.length) [] ((HV cs.length).map (mkd cs cs.length))) base)(hf:Fs base){t:List Int}(L:Vr P n t)(hs:Sp P n (cs.map gf) (gf t)):
 (shr P n base cs.length t).length=cs.length/\(∀x∈shr P n base cs.length t,0<=x/\x<P)/\∀x,x<n->(P:Int) ∣ gf t x-cm (λi=>gf (tat cs i)) (λi=>gf (shr P n base cs.length t) i) cs.length x:=by
 have Y:0<P:=∅
 have h0:Vr P (n+cs.length) (t++HN cs.length 0):=⟨by simp[L.len],λx hx=>by
  rcases Ie.mp hx with hx|hx
  ·exact L.inn x hx
  ·rw[J9 hx];lia⟩
 have hw:=(dE Y U.vr h0).len;have hl:(shr P n base cs.length t).length=cs.length:=by unfold shr;rw[hG,JN,hw];lia
 refine⟨hl,λx hx=>?_,?_⟩
 ·obtain⟨y,_,rfl⟩:=HQ.mp hx;exact⟨Jk _ ∅,IX _ ∅⟩
 have h1:∀i x,i<cs.length->x<n->gf (mkd cs cs.length i) x=gf (tat cs i) x:=λi x hi hx=>qJ (by rw[(de hc hi).len];exact hx)
 have h2:∀i j,i<cs.length->j<cs.length->gf (mkd cs cs.length i) (n+j)=if j=i then 1 else 0:=λi j hi O=>by
  have e:=qK (a:=tat cs i) (b:=ul cs.length i) (x:=j) (by rw[dg hi];exact O)
  rw[(de hc hi).len]at e;rw[<-jA hi O];exact e
 have B:∀k,k<cs.length->¬Sp P n ((HV k).map λi=>gf (tat cs i)) (gf (tat cs k)):=λk hk=>by rw[gv ∅];exact hi k hk
 have J:∀k,k<=cs.length->chF P (n+cs.length) [] ((HV k).map (mkd cs cs.length))=(HV k).map λi=>gf (mkd cs cs.length i):=by
  intro k
  induction k with
  |zero=>intro _;rfl
  |succ k ih=>
   intro hk;rw[L6,HS,Ii,JC,eT,ih ∅,HS]
   ·rfl
   ·rw[ih ∅]
    intro z;apply B k ∅
    obtain⟨c,F2⟩:=sp_cm.mp (z.less (show n<=n+cs.length by lia))
    refine sp_cm.mpr ⟨c,λx hx=>?_⟩;have:=F2 x hx
    rwa[h1 k x ∅ hx,ef (g':=λi=>gf (tat cs i)) (c':=c) λi Gp=>by rw[h1 i x ∅ hx]]at this
 rw[J cs.length (HW _)]at U;have Gq:Sp P n ((HV cs.length).map λi=>gf (tat cs i)) (gf t):=by rw[gv (HW _),Ln];exact hs
 intro x hx;have:=Dy (g:=λi=>gf (tat cs i)) (mk:=λi=>gf (mkd cs cs.length i)) hP B h1 h2 U hf (t:=t) h0 (λx hx=>qJ (by rw[L.len];exact hx)) (λj O=>by
  have e:=qK (a:=t) (b:=HN cs.length 0) (x:=j) (by simpa using O)
  rw[L.len,cq]at e;exact e) Gq x hx
 rwa[ef (g':=λi=>gf (tat cs i)) (c':=λi=>gf (shr P n base cs.length t) i) λi Gp=>by congr 1;unfold shr;rw[jw (F:=λx=>-x%(P:Int)) (by rw[JN,hw];lia),Ad (by rw[hw];lia)]]at this
variable{xs:List (List Int×List Int)}
theorem qL{k f:Nat}(hx:∀x∈xs,Vr P L x.1/\Vr P R x.2)(F:xs.length<=1000000)(hf:∀(x:List Int×List Int) (M:Mem) (Q:QD),Vr P L x.1->Vr P R x.2->(∀M',Ge M M'->Q (rD (tbl P x)) M')->phi tab k f [p2D x,.int P] M Q){chk:Mem->Prop}(z:∀M',Ge M M'->chk M')(q:∀ρ M',Ge M M'->N ρ M' ((xs.map (tbl P)).map rD)):
 aZ (bh 0) (bO (wAr (phi tab k f) (aH (br 0) (aH (br 1) bD)))) chk N (xs.map p2D) [Z,E (.int P)] M []:=by
 refine ah (f:=p2D) (ys:=xs) (I:=λl ρ M' acc=>(∃o0,ρ=[o0,E (.int P)])/\Ge M M'/\acc=(l.map (tbl P)).map rD) rfl ⟨⟨_,rfl⟩,Ge.refl,rfl⟩ (λ_ _ _ _ h=>z _ h.2.1) ?_ ?_
 ·rintro l x r ρ M1 acc e ⟨⟨o0,rfl⟩,g1,rfl⟩;refine⟨_,rfl,λN' j=>?_⟩;have B:=af e;obtain⟨h1,h2⟩:=hx x (by rw[e];simp)
  ac_nf;refine hf x _ _ h1 h2 λM2 g2=>⟨by rw[hG,hG,z4];lia,j _ _ _ ⟨⟨_,rfl⟩,g1.trans g2,by simp⟩⟩
 ·rintro ρ M1 acc ⟨⟨o0,rfl⟩,g1,rfl⟩;exact q _ _ g1
theorem vw(B:P=2∨P=3)(j:L<=6)(z:R<=6):(prs P L R).length<=1000000:=IW (Aa ∅ j z) (by decide)
theorem vx{k:Nat}(hk:4<=k)(F2:Bd P (L*R))(z:L<=6)(B:R<=6)(hm:many<=10)(ht:∀t∈ts,TI' L R many t){p:SS}(hp:M p=E (.lst (ts.map tmD)))(q:∀pp pt po own M',Bs P (L*R) (chF P (L*R) [] (tbs P (L*R) R many ts)) own->Fs own->M' pp=E (.lst ((prs P L R).map p2D))->M' pt=E (.lst ((al P L R).map rD))->M' po=E (.lst (own.map eD))->Ge M M'->Q (.tup [.ref pp,.ref pt,.ref po]) M'):phi tab k 15 [.tup [.int L,.int R,.int many,.ref p],.int P] M Q:=by
 have F:=F2.p;have Gp:=F2.n;refine ao ∅ rfl rfl (ρ:=[E _,E _,Z]) rfl ?_
 unfold d15 b15;nofun;refine⟨_,rfl,_,rfl,?_⟩;refine xP ∅ ∅ z B λpp M1 g1 n1 J=>?_
 nofun;refine⟨_,ab J,?_⟩;refine qL (L:=L) (R:=R) (λx hx=>jy hx) (vw F z B) (λx M Q h1 h2 q=>lN ∅ F z B h1 h2 q) (λM' g=>ab (g _ _ J)) λρ M2 g2 pt hpt=>?_
 have g3:=g2.trans (Ge.new (o:=.lst (((prs P L R).map (tbl P)).map rD)) hpt);have e3:=aa (M:=M2) (a:=pt) (o:=.lst (((prs P L R).map (tbl P)).map rD));have hb:=db (P:=P) ∅ ht
 generalize ad M2 pt (.lst (((prs P L R).map (tbl P)).map rD))=M3 at g3 e3⊢;have O:=g3 _ _ J;have g3:=g1.trans g3;refine⟨by rw[z4];lia,λpe U=>?_⟩
 have Y:=Ge.new (o:=.lst []) U;have e4:=aa (M:=M3) (a:=pe) (o:=.lst []);generalize ad M3 pe (.lst [])=M4 at Y e4⊢;refine lL ∅ ⟨∅,∅⟩ z B hm ht (Y _ _ (g3 _ _ hp)) λp5 M5 g5 n5 e5=>?_
 refine fK ∅ F ∅ Bs.init (λe he=>by cases he) (by simp) (by rw[hb.1];lia) hb.2 (g5 _ _ e4) e5 λpo own M6 ho _ hf no e6 g6=>?_
 have j:=Y.trans (g5.trans g6);exact⟨by rw[z4];lia,q _ _ _ _ _ ho hf (j _ _ O) (j _ _ e3) e6 (g3.trans j)⟩
theorem qM{n:Nat}(z:0<P)(B:∀e∈base,Vr P (n+m) e.2){t:List Int}(j:Vr P n t):(shr P n base m t).length=m:=by
 have h0:Vr P (n+m) (t++HN m 0):=⟨by simp[j.len],λx hx=>by
  rcases Ie.mp hx with hx|hx
  ·exact j.inn x hx
  ·rw[J9 hx];lia⟩
 unfold shr;rw[hG,JN,(dE z B h0).len];lia
theorem Ae(hm:i<m)(B:∀v∈rows,v.length=m)(U:rows.length<=1000)(h:RS qs rows M){chk:Mem->Prop}(O:chk M)(q:∀ρ,N ρ M ((rows.map λrow=>gf row i).map .int)):
 aZ (bh 0) (bO (wOp wIx (br 0) (br 1))) chk N (qs.map .ref) [Z,E (.int (i:Nat))] M []:=by
 refine ah (f:=D.ref) (ys:=qs) (I:=λl ρ M' acc=>(∃o0,ρ=[o0,E (.int (i:Nat))])/\M'=M/\acc=((rows.take l.length).map λrow=>gf row i).map .int) rfl ⟨⟨_,rfl⟩,rfl,rfl⟩ (λ_ _ _ _ h=>by rw[h.2.1];exact O) ?_ ?_
 ·rintro l x r ρ M1 acc e ⟨⟨o0,rfl⟩,rfl,rfl⟩;refine⟨_,rfl,λN' F=>?_⟩;have J:=af e;have hx:qs[l.length]?=E x:=by rw[e];simp
  have j:l.length<rows.length:=by rw[<-h.len];exact J
  have L:rows[l.length]?=E rows[l.length]:=r4 j;have ex:=h.at' _ _ _ hx L;have z:=B _ (JO j);ac_nf;refine av ex (d:=.int (gf rows[l.length] i)) (bv (by rw[I8,au (by rw[z];exact hm)];rfl)) ⟨by rw[hG,hG,IJ,z4];lia,F _ _ _ ⟨⟨_,rfl⟩,rfl,?_⟩⟩
  rw[hQ,IA,JR,L,HS,HS];rfl
 ·rintro ρ M1 acc ⟨⟨o0,rfl⟩,rfl,rfl⟩;rw[K2 (by rw[h.len];exact HW _)]
  exact q _
noncomputable def pat(xs:List (List Int×List Int))(i:Nat):List Int×List Int:=xs.getD i ([],[])
theorem cL(h:i<xs.length):xs[i]?=E (pat xs i):=by unfold pat;rw[HY,r4 h];rfl
noncomputable def mkP(xs:List (List Int×List Int))(rows:List (List Int))(i:Nat):Pr:=((pat xs i).1,(pat xs i).2,rows.map λrow=>gf row i)
noncomputable def fL(xs:List (List Int×List Int))(rows:List (List Int)):List Pr:=(HV xs.length).map (mkP xs rows)
theorem xT(xs:List (List Int×List Int)):cH (xs.map p2D)=xs.zipIdx.map λp=>.tup [.int (p.2:Nat),p2D p.1]:=by
 unfold cH;apply K1;intro i;rw[L9,I8,I8,JZ]
 cases xs[i]?<;>simp
theorem oZ{k:Nat}(hk:5<=k)(hB:Bd P (L*R))(hL:L<=6)(hR:R<=6)(hm:1<=many/\many<=10)(ht:∀t∈ts,TI' L R many t)(hx:∀x∈xs,Vr P L x.1/\Vr P R x.2)(Gs:xs.length<=12){p pp:SS}(hp:M p=E (.lst (ts.map tmD)))(Y:M pp=E (.lst (xs.map p2D)))(q:∀pr base M',Bs P (L*R+xs.length) (chF P (L*R+xs.length) [] ((HV xs.length).map (mkd (xs.map (tbl P)) xs.length))) base->base=((HV xs.length).map (mkd (xs.map (tbl P)) xs.length)).foldl (gst P) []->Fs base->M pr=Z->M' pr=E (.lst ((fL xs ((tbs P (L*R) R many ts).map (shr P (L*R) base xs.length))).map prD))->Ge M M'->Q (.tup [.int L,.int R,.int many,.ref pr]) M'):phi tab k 14 [.tup [.int L,.int R,.int many,.ref p],.ref pp,.int P] M Q:=by
 have hP:=hB.p;have Gz:=hB.n;have B:0<P:=∅
 refine ao ∅ rfl rfl (ρ:=[E _,E _,E _,Z,Z,Z,Z,Z]) rfl ?_
 unfold d14 b14;nofun;nofun;refine lL ∅ ⟨∅,∅⟩ hL hR hm.2 ht hp λp1 M1 g1 n1 e1=>?_
 have j:=g1 _ _ Y;refine⟨_,ab j,?_⟩;refine qL (L:=L) (R:=R) hx ∅ (λx M Q h1 h2 q=>lN ∅ hP hL hR h1 h2 q) (λM' g=>ab (g _ _ j)) λρ M2 g2 pt hpt=>?_
 have g3:=g2.trans (Ge.new (o:=.lst ((xs.map (tbl P)).map rD)) hpt);have e3:=aa (M:=M2) (a:=pt) (o:=.lst ((xs.map (tbl P)).map rD));generalize ad M2 pt (.lst ((xs.map (tbl P)).map rD))=M3 at g3 e3⊢;have F2:=db (P:=P) B ht;have Gp:(xs.map (tbl P)).length=xs.length:=by simp
 refine vq ∅ hB F2.2 (by rw[F2.1];exact hm) (λt h=>?_) (by rw[Gp];exact Gs) (g3 _ _ e1) e3 λpo qs base M4 F Gq Gu J e4 g4=>?_
 ·obtain⟨x,h',rfl⟩:=HQ.mp h;exact oX B (hx x h').1.len (hx x h').2.len
 rw[Gp]at F J Gq;have gA:=g1.trans (g3.trans g4);have Gv:=J.len;rw[hG,F2.1]at Gv;have z:=gA _ _ Y;nofun;refine⟨_,ab z,?_⟩;rw[xT];refine ah (f:=λp:(List Int×List Int)×Nat=>.tup [.int (p.2:Nat),p2D p.1]) (ys:=xs.zipIdx) (I:=λl ρ M' acc=>(∃o0 o1 o2,ρ=[o0,o1,o2,E (.ref po)])/\Ge M4 M'/\acc=((HV l.length).map (mkP xs ((tbs P (L*R) R many ts).map (shr P (L*R) base xs.length)))).map prD) rfl ⟨⟨_,_,_,rfl⟩,Ge.refl,rfl⟩ (λ_ _ _ _ h=>ab (h.2.1 _ _ z)) ?_ ?_
 ·rintro l x r ρ M5 acc e5 ⟨⟨o0,o1,o2,rfl⟩,O,rfl⟩;refine⟨_,rfl,λN hN=>?_⟩;have U:=af e5;rw[Kj]at U;have ex:xs.zipIdx[l.length]?=E x:=by rw[e5];simp
  rw[JZ,cL U]at ex;have ex:=Ir.inj ex;have Gw:x.2=l.length:=by rw[<-ex];simp
  have Gx:pat xs l.length=x.1:=by rw[<-ex]
  ac_nf;refine⟨_,ab (O _ _ e4),?_⟩;rw[Gw];refine Ae (m:=xs.length) U (λv hv=>?_) (by rw[hG,F2.1];lia) (J.ge O) (ab (O _ _ e4)) λρ p6 hp6=>⟨_,_,rfl,ab aa,?_⟩
  ·obtain⟨t,Gy,rfl⟩:=HQ.mp hv;exact qM B F.vr (F2.2 t Gy)
  refine⟨by rw[z4];lia,by rw[hG,hG,Ic,z4];lia,hN _ _ _ ⟨⟨_,_,_,rfl⟩,O.trans (Ge.new hp6),?_⟩⟩
  rw[hQ,IA,L6,HS,HS,Ii,JC,Ii,JC];unfold mkP prD;rw[Gx]
 ·rintro ρ M5 acc ⟨⟨o0,o1,o2,rfl⟩,O,rfl⟩ pr Gr;rw[Kj];exact⟨by rw[z4];lia,q pr base _ F Gq Gu (bo (gA.trans O) Gr) aa (gA.trans (O.trans (Ge.new Gr)))⟩
noncomputable def Sx(P n:Nat)(A:List (Nat->Int))(T:List (List Int))(ix:List Nat):List (Nat->Int):=chF P n A (ix.map (tat T))
def Cx'(P n:Nat)(A:List (Nat->Int))(T:List (List Int))(ix:List Nat):Prop:=(chS P n (Sx P n A T ix) T).length=(Sx P n A T ix).length
def Pre(P n:Nat)(A:List (Nat->Int))(T:List (List Int))(e:Nat):Prop:=∀e',e'<e->bn T.length e'<=3000/\∀ix∈sts T.length e' e',¬Cx' P n A T ix
theorem Af{n:Nat}:∀{T:List (List Int)},(∀t∈T,Sp P n S (gf t))->chS P n S T=chF P n [] T:=by
 intro T h;have:∀(T:List (List Int)) (A:List (Nat->Int)),(∀t∈T,Sp P n S (gf t))->T.foldl (λA t=>@ite _ (Sp P n S (gf t)/\¬Sp P n A (gf t)) (Jo _) (A++[gf t]) A) A=chF P n A T:=by
  intro T
  induction T with
  |nil=>intro A _;rfl
  |cons t T ih=>
   intro A h;have h1:=h t I0;rw[JL]
   by_cases e:Sp P n A (gf t)
   ·rw[if_neg (λz=>z.2 e),bK e];exact ih _ λx hx=>h x (HR _ hx)
   ·rw[if_pos ⟨h1,e⟩,aO e];exact ih _ λx hx=>h x (HR _ hx)
 exact this T [] h
theorem iJ{n:Nat}(z:P=2∨P=3)(B:∀t∈T,Vr P n t):In P n (chS P n S T)/\∀b∈chS P n S T,Sp P n S b:=by
 have:∀(T:List (List Int)) (A:List (Nat->Int)),(∀t∈T,Vr P n t)->In P n A->(∀b∈A,Sp P n S b)->In P n (T.foldl (λA t=>@ite _ (Sp P n S (gf t)/\¬Sp P n A (gf t)) (Jo _) (A++[gf t]) A) A)/\∀b∈(T.foldl (λA t=>@ite _ (Sp P n S (gf t)/\¬Sp P n A (gf t)) (Jo _) (A++[gf t]) A) A),Sp P n S b:=by
  intro T
  induction T with
  |nil=>intro A _ h1 h2;exact⟨h1,h2⟩
  |cons t T ih=>
   intro A h h1 h2;rw[JL]
   by_cases e:Sp P n S (gf t)/\¬Sp P n A (gf t)
   ·rw[if_pos e];refine ih _ (λx hx=>h x (HR _ hx)) (h1.step z (h t I0) e.2) λb j=>?_
    rcases Ie.mp j with j|j
    ·exact h2 b j
    ·rw[Im.mp j];exact e.1
   ·rw[if_neg e];exact ih _ (λx hx=>h x (HR _ hx)) h1 h2
 exact this T [] B (In.init z) (by simp)
theorem Sw{p:Int}{n:Nat}{S:List (Nat->Int)}:∀{bs:List (Nat->Int)} {f:Nat->Int},(∀b∈bs,Sp p n S b)->Sp p n bs f->Sp p n S f
 |[],f,_,h=>Ss h
 |b::bs,f,j,⟨c,h⟩=>by have ih:=Sw (λx hx=>j x (HR _ hx)) h;exact(ih.comb (k:=c) (j b I0)).congr λx _=>by rw[show f x-c*b x+c*b x-f x=0 by lia];exact J7 _
theorem vy(j:P=2∨P=3)(F:1<=R)(U:In P (L*R) A):∃ix,ix∈sts (al P L R).length ix.length ix.length/\Cx' P (L*R) A (al P L R) ix/\ix.length<=L*R/\ix.length<=(al P L R).length:=by
 have J:=cS (P:=P) (L:=L) (R:=R) ∅
 obtain⟨ix,h1,h2,O,Y⟩:=oJ (P:=P) (n:=L*R) (A:=A) (al P L R) _ (HW _);rw[Ln]at O Y;have hIn:=U.ch j J;have hle:=In.n j hIn;have B:ix.Nodup:=Jn.mpr (h1.imp λh=>IU h);refine⟨ix,ky rfl h1 h2,?_,∅,?_⟩
 ·have F2:Sx P (L*R) A (al P L R) ix=chF P (L*R) A (al P L R):=O;unfold Cx';rw[F2,Af λt ht=>bw ht];have z:=(In.init (P:=P) (n:=L*R) j).ch j J;exact Nt (In.le j z hIn λv _ _=>oY j F _) (In.le j hIn z λv _ _=>oY j F _)
 ·have:=fH (l₂:=HV (al P L R).length) B λx hx=>Io.mpr (h2 x hx);simpa using this
theorem Pre.le(j:P=2∨P=3)(z:1<=R)(B:In P (L*R) A)(h:Pre P (L*R) A (al P L R) e):e<=L*R/\e<=(al P L R).length:=by
 obtain⟨ix,h1,h2,F,J⟩:=vy j z B;have:e<=ix.length:=by
  rcases OR ix.length e with k|k
  ·exact absurd h2 ((h _ k).2 ix h1)
  ·exact k
 lia
theorem lQ{n:Nat}(he:e<=T.length)(h:Pre P n A T e)(hm:ix∈sts T.length e e)(j:Cx' P n A T ix):(Sx P n A T ix).length=A.length+e:=by
 obtain⟨h1,h2,z⟩:=oM he hm;have hle:=gT (P:=P) (n:=n) (ts:=ix.map (tat T)) (A:=A);rw[hG,h1]at hle
 rcases OR (Sx P n A T ix).length (A.length+e)with k|k
 ·exfalso
  obtain⟨i,hi,q⟩:=oI (P:=P) (n:=n) (ts:=ix.map (tat T)) (A:=A) (by rw[hG,h1];exact k)
  rw[hG,h1]at hi;have B:(ix.map (tat T)).eraseIdx i=(ix.eraseIdx i).map (tat T):=by rw[J6,J6,HS,Qc,Qb]
  rw[B]at q;have F:(ix.eraseIdx i).length=e-1:=by rw[List.length_eraseIdx_of_lt ∅,h1]
  refine(h (e-1) ∅).2 (ix.eraseIdx i) (ky F (h2.sublist (P7 _ _)) λx hx=>z x ((P7 _ _).subset hx)) ?_
  unfold Cx' Sx at j⊢;rw[q];exact j
 ·exact Nt hle k
structure Out(P n:Nat)(A:List (Nat->Int))(T:List (List Int))(e:Nat)(b:Bool):Prop where
 pre:Pre P n A T e
 op:b=R9->3000<bn T.length e
 ls:b=N2->bn T.length e<=3000/\∃ix∈sts T.length e e,Cx' P n A T ix
theorem vz(hP:0<P):∀{ts:List Tm},(∀t∈ts,TI' L R many t)->(ts.map (·.1)).Nodup->∀(k i j:Nat),k<many->i<L->j<R->gf (tat (tbs P (L*R) R many ts) k) (i*R+j)=cf ts ((k:Int),(i:Int),(j:Int))%P:=by
 intro ts
 induction h:ts.length generalizing ts with
 |zero=>intro _ _ k i j F2 hi hj;have:ts=[]:=Jf.mp h;subst this;unfold tbs tat;rw[PD,HY,Jd,if_pos F2,Lo,cq,bU];simp
 |succ N ih=>
  intro ht hn k i j F2 hi hj
  rcases JA ts with rfl|⟨us,t,rfl⟩
  ·simp at h
  rw[Jm]at *
  have hl:us.length=N:=by simpa using h
  have Y:∀t∈us,TI' L R many t:=λx hx=>ht x (by simp[hx])
  rw[HS,MQ]at hn;have ih:=ih hl Y hn.1 k i j F2 hi hj;obtain⟨b1,b2⟩:=db (P:=P) hP Y;obtain⟨Gp,Gq,Gr⟩:=ht t (by simp)
  have B:i*R+j<L*R:=by
   have:=Jp R (show i+1<=L by lia)
   rw[J1]at this;lia
  obtain⟨k',ek⟩:=IS Gp.1;obtain⟨i',ei⟩:=IS Gq.1;obtain⟨j',ej⟩:=IS Gr.1;have hz:(t.1.2.1*R+t.1.2.2).toNat=i'*R+j':=by rw[ei,ej];lia
  rw[oT,aQ,aB,bU,Lz];generalize tbs P (L*R) R many us=TT at *
  have F:k'<TT.length:=∅
  have Gs:=b2 _ (JO F);have Gw:i'*R+j'<L*R:=by
   have:=Jp R (show i'+1<=L by lia)
   rw[J1]at this;lia
  unfold tst tat;rw[hz,ek,Il,HY]
  by_cases e1:k'=k
  ·subst e1;rw[JM F,Lo,r4 F,Lo];unfold tat at ih;rw[HY,r4 F,Lo]at ih;have J:=Gs.len
   by_cases e2:i'*R+j'=i*R+j
   ·have Gu:i'=i/\j'=j:=by
     have a1:(i'*R+j') / R=i':=by rw[LU,RG ∅,Rg ∅];rfl
     have a2:(i*R+j) / R=i:=by rw[LU,RG ∅,Rg ∅];rfl
     have:i'=i:=by rw[<-a1,<-a2,e2]
     subst this;exact⟨rfl,∅⟩
    obtain⟨rfl,rfl⟩:=Gu;have ekey:t.1=((k':Int),(i':Int),(j':Int)):=Ou ek (Ou ei ej);have Gv:cf us ((k':Int),(i':Int),(j':Int))=0:=cQ λu Y eu=>hn.2.2 u.1 (Iz Y) t.1 (by simp) (eu.trans ekey.symm)
    rw[if_pos ekey,Gv,NF];have:=au (v:=(TT[k']).set (i'*R+j') (t.2%P)) (x:=i'*R+j') (by rw[LB,J];exact B)
    rw[JM (by rw[J];exact B)]at this
    exact(Ir.inj this).symm
   ·have O:t.1≠((k':Int),(i:Int),(j:Int)):=fun z=>by
     have U:t.1.2.1=(i:Int):=by rw[z]
     have z2:t.1.2.2=(j:Int):=by rw[z]
     rw[ei]at U;rw[ej]at z2;exact e2 (by rw[Ra.inj U,Ra.inj z2])
    rw[if_neg O,Lz,<-ih];have a:=au (v:=(TT[k']).set (i'*R+j') (t.2%P)) (x:=i*R+j) (by rw[LB,J];exact B)
    rw[Ko e2,au (by rw[J];exact B)]at a
    exact(Ir.inj a).symm
  ·have O:t.1≠((k:Int),(i:Int),(j:Int)):=fun z=>by
    have U:t.1.1=(k:Int):=by rw[z]
    rw[ek]at U;exact e1 (Ra.inj U)
   rw[Ko e1,if_neg O,Lz,<-ih];unfold tat;rw[HY]
theorem C7{a b:List Pr}{k i j:Int}:Tn (a++b) k i j=Tn a k i j+Tn b k i j:=by simp[Tn]
theorem p9{F:Nat->Pr}{k i j:Int}:∀m,Tn ((HV m).map F) k i j=cm (λx _=>gz (F x).1 i*gz (F x).2.1 j) (λx=>gz (F x).2.2 k) m 0
 |0=>by simp[Tn,cm]
 |m+1=>by rw[L6,HS,C7,p9 m];show _+Tn [F m] k i j=_+gz (F m).2.2 k*(gz (F m).1 i*gz (F m).2.1 j);rw[qz];simp only[Tn,JC,List.sum_nil,Lz];rw[MR (gz (F m).2.2 k)]
theorem vA{p:Int}{g g':Nat->Nat->Int}{c:Nat->Int}{x x':Nat}:∀{m:Nat},(∀i,i<m->p ∣ g i x-g' i x')->p ∣ cm g c m x-cm g' c m x'
 |0,_=>by simp[cm]
 |m+1,h=>by
  have ih:=vA (m:=m) (c:=c) λi hi=>h i ∅
  have a:p ∣ c m*(g m x-g' m x'):=IK (h m ∅)
  have:=JH ih a
  rwa[Oe,show cm g c m x-cm g' c m x'+(c m*g m x-c m*g' m x')=cm g c (m+1) x-cm g' c (m+1) x' by show _=cm g c m x+c m*g m x-(cm g' c m x'+c m*g' m x');lia]at this
theorem C8{f:List Int->Int}{k:Nat}(h:k<rows.length):gz (rows.map f) (k:Nat)=f (tat rows k):=by
 have e:=au (v:=rows.map f) (x:=k) (by rw[hG];exact h)
 rw[I8,bL h]at e;exact(Ir.inj e).symm
theorem gY{α:Type}{f:α->List Int}{l:List α}{a:α}(h:l[i]?=E a):tat (l.map f) i=f a:=by unfold tat;rw[HY,I8,h];rfl
theorem pS(hP:P=2∨P=3)(ht:∀t∈ts,TI' L R many t)(Gv:(ts.map (·.1)).Nodup){ixs:List Nat}(Gw:∀i∈ixs,i<(al P L R).length)(hW:chS P (L*R) S (al P L R)=ixs.map λi=>gf (tat (al P L R) i))(Gx:Ip P (L*R) (al P L R) ixs)(hlen:(chS P (L*R) S (al P L R)).length=S.length)(hS:In P (L*R) S)(Gy:∀t∈tbs P (L*R) R many ts,Sp P (L*R) S (gf t))(O:Bs P (L*R+(ixs.map (pat (prs P L R))).length) (chF P (L*R+(ixs.map (pat (prs P L R))).length) [] ((HV (ixs.map (pat (prs P L R))).length).map (mkd ((ixs.map (pat (prs P L R))).map (tbl P)) (ixs.map (pat (prs P L R))).length))) base)(Gz:Fs base)(k i j:Int):
 (P:Int) ∣ Tn (fL (ixs.map (pat (prs P L R))) ((tbs P (L*R) R many ts).map (shr P (L*R) base (ixs.map (pat (prs P L R))).length))) k i j-cf ts (k,i,j):=by
 have J:0<P:=∅
 have hv:=cS (P:=P) (L:=L) (R:=R) J;obtain⟨GA,Gp⟩:=db (P:=P) J ht;have Gq:∀x∈ixs,x<(prs P L R).length:=λx hx=>by have:=Gw x hx;unfold al at this;simpa using this
 have F:∀x∈ixs.map (pat (prs P L R)),Vr P L x.1/\Vr P R x.2:=λx hx=>by obtain⟨i,hi,rfl⟩:=HQ.mp hx;exact jy (Ib (cL (Gq i hi)))
 have U:(ixs.map (pat (prs P L R))).map (tbl P)=ixs.map (tat (al P L R)):=by rw[Jr];refine Jh λi hi=>?_;exact(gY (f:=tbl P) (cL (Gq i hi))).symm
 generalize GB:ixs.map (pat (prs P L R))=xs at O U F⊢;have GC:xs.length=ixs.length:=by rw[<-GB,hG]
 have Y:(xs.map (tbl P)).length=xs.length:=by simp
 have GD:∀t∈xs.map (tbl P),Vr P (L*R) t:=λt ht=>by obtain⟨x,hx,rfl⟩:=HQ.mp ht;exact oX J (F x hx).1.len (F x hx).2.len
 have GE:∀k,k<(xs.map (tbl P)).length->¬Sp P (L*R) (((xs.map (tbl P)).take k).map gf) (gf (tat (xs.map (tbl P)) k)):=by intro k F2;rw[Y,GC]at F2;have e:=r4 F2;have:=Gx k _ e;rw[U,<-Qc,Jr,gY e];exact this
 rw[<-Y]at O;have hz:∀t∈tbs P (L*R) R many ts,Sp P (L*R) ((xs.map (tbl P)).map gf) (gf t):=by intro t h;have h1:=Gy t h;obtain⟨hI,Gr⟩:=iJ hP (S:=S) hv;have h2:=In.all hP hI hS (λv _ hs=>Sw Gr hs) hlen (Gp t h) h1;rw[hW]at h2;rw[U,Jr];exact h2
 by_cases hr:(0<=k/\k<many)/\(0<=i/\i<L)/\(0<=j/\j<R)
 ·obtain⟨⟨k0,k1⟩,⟨i0,i1⟩,⟨j0,j1⟩⟩:=hr;obtain⟨k,rfl⟩:=IS k0;obtain⟨i,rfl⟩:=IS i0;obtain⟨j,rfl⟩:=IS j0;have F2:k<(tbs P (L*R) R many ts).length:=by lia
  have GF:i*R+j<L*R:=by
   have:=Jp R (show i+1<=L by lia)
   rw[J1]at this;lia
  have Gs:=Ib (bL F2);obtain⟨_,_,h3⟩:=C6 hP GD GE O Gz (Gp _ Gs) (hz _ Gs);have h3:=h3 (i*R+j) GF;rw[vz J ht Gv k i j ∅ ∅ ∅,Y]at h3
  unfold fL;rw[p9];have Gu:∀x,gz (mkP xs ((tbs P (L*R) R many ts).map (shr P (L*R) base xs.length)) x).2.2 (k:Nat)=gf (shr P (L*R) base xs.length (tat (tbs P (L*R) R many ts) k)) x:=λx=>by show gz (K7 (λrow=>gf row x) _) _=_;rw[C8 (by rw[hG];exact F2),gY (bL F2)]
  rw[show(λx=>gz (mkP xs ((tbs P (L*R) R many ts).map (shr P (L*R) base xs.length)) x).2.2 (k:Nat))=λx=>gf (shr P (L*R) base xs.length (tat (tbs P (L*R) R many ts) k)) x from funext Gu];have h4:=vA (p:=P) (g:=λx _=>gz (mkP xs ((tbs P (L*R) R many ts).map (shr P (L*R) base xs.length)) x).1 (i:Nat)*gz (mkP xs ((tbs P (L*R) R many ts).map (shr P (L*R) base xs.length)) x).2.1 (j:Nat)) (g':=λx=>gf (tat (xs.map (tbl P)) x)) (c:=λx=>gf (shr P (L*R) base xs.length (tat (tbs P (L*R) R many ts) k)) x) (x:=0) (x':=i*R+j) (m:=xs.length) λx hx=>by
   have hp:=F _ (Ib (cL hx));rw[gY (cL hx),eV hp.1.len hp.2.len ∅ ∅]
   exact bb
  have h5:=Kc (Kc h4 h3) (bb (p:=P) (a:=cf ts ((k:Int),(i:Int),(j:Int))));have h6:∀A B c d:Int,A-B-(d-B)-(c-d)=A-c:=by intros;lia
  rwa[h6]at h5
 ·have e1:cf ts (k,i,j)=0:=cQ fun t GG e=>hr (by
   obtain⟨a,b,c⟩:=ht t GG;rw[e]at a b c;exact⟨a,b,c⟩)
  have e2:Tn (fL xs ((tbs P (L*R) R many ts).map (shr P (L*R) base xs.length))) k i j=0:=by apply J4;intro z;refine hr (v9 (L0:=L) (L1:=R) (L2:=many) (λu hu=>?_) z);obtain⟨x,hx,rfl⟩:=HQ.mp hu;have hp:=F _ (Ib (cL (Io.mp hx)));exact⟨hp.1.len,hp.2.len,by show(K7 _ (K7 _ _)).length=_;rw[hG,hG,GA]⟩
  rw[e1,e2];simp
noncomputable abbrev sD(b:Bool):D:=.str (IF (if b then "least" else "open"))
structure SOk(P L R many:Nat)(ts:List Tm)(ps:List Pr):Prop where
 pr:∀p∈ps,p.1.length=L/\p.2.1.length=R/\p.2.2.length=many
 sm:∀p∈ps,(∀x∈p.1,0<=x/\x<P)/\(∀x∈p.2.1,0<=x/\x<P)/\(∀x∈p.2.2,0<=x/\x<P)
 dv:∀k i j,(P:Int) ∣ Tn ps k i j-cf ts (k,i,j)
theorem yv{α:Type}{f:α->D}{l:List α}{dflt:α}(j:∀i∈ix,i<l.length)(L:ix.length<=1000)(ea:M a=E (.lst (l.map f)))(z:ds=ix.map λi:Nat=>D.int ((i:Nat):Int)){chk:Mem->Prop}(F:chk M)(q:∀ρ,N ρ M ((ix.map λi=>l.getD i dflt).map f)):
 aZ (bh 0) (bO (wOp wIx (br 1) (br 0))) chk N ds [Z,E (.ref a)] M []:=by
 refine ah (f:=λi:Nat=>D.int ((i:Nat):Int)) (ys:=ix) (I:=λl' ρ M' acc=>(∃o0,ρ=[o0,E (.ref a)])/\M'=M/\acc=(l'.map λi=>l.getD i dflt).map f) z ⟨⟨_,rfl⟩,rfl,rfl⟩ (λ_ _ _ _ h=>by rw[h.2.1];exact F) ?_ ?_
 ·rintro l' i r ρ M1 acc e ⟨⟨o0,rfl⟩,rfl,rfl⟩;refine⟨_,rfl,λN' B=>?_⟩;have J:=af e;have hi:=j i (by rw[e];simp)
  ac_nf;refine av ea (d:=f (l.getD i dflt)) (bv (by rw[I8,HY,r4 hi];rfl)) ⟨by rw[hG,hG,z4];lia,B _ _ _ ⟨⟨_,rfl⟩,rfl,by simp⟩⟩
 ·rintro ρ M1 acc ⟨⟨o0,rfl⟩,rfl,rfl⟩;exact q _
theorem vB{c:TTd}{tb:TSd}{D:bB}{N:Nat}(I:Nat->am->Mem->Prop){ρ:am}(h:I 0 ρ M)(last:∀ρ M,¬I (N+1) ρ M)(step:∀j ρ M,I j ρ M->∀W:am->Mem->Prop,(∀ρ' M',I (j+1) ρ' M'->W ρ' M')->c ρ M λb z=>if b=N2 then tb {D with nx:=W,ct:=W,bk:=D.nx} ρ z else D.nx ρ z):∃n,aV c tb D n ρ M:=by
 have go:∀i j ρ M,j+i=N+1->I j ρ M->aV c tb D i ρ M:=by
  intro i
  induction i with
  |zero=>intro j ρ M e h;rw[show j=N+1 by lia]at h;exact absurd h (last _ _)
  |succ i ih=>intro j ρ M e h;exact step j ρ M h _ λρ' M' h'=>ih (j+1) ρ' M' ∅ h'
 exact⟨N+1,go (N+1) 0 ρ M ∅ h⟩
noncomputable def xsF(P L R:Nat)(A:List (Nat->Int))(ix:List Nat):List (List Int×List Int):=(wix P (L*R) (Sx P (L*R) A (al P L R) ix) (al P L R) (al P L R).length).map (pat (prs P L R))
noncomputable def psF(P L R many:Nat)(ts:List Tm)(A:List (Nat->Int))(ix:List Nat):List Pr:=fL (xsF P L R A ix) ((tbs P (L*R) R many ts).map (shr P (L*R) (((HV (xsF P L R A ix).length).map (mkd ((xsF P L R A ix).map (tbl P)) (xsF P L R A ix).length)).foldl (gst P) []) (xsF P L R A ix).length))
structure Fst(P n:Nat)(A:List (Nat->Int))(T:List (List Int))(e:Nat)(ix:List Nat):Prop where
 pre:Pre P n A T e
 bn:bn T.length e<=3000
 at':∃l r,sts T.length e e=l++ix::r/\∀i∈l,¬Cx' P n A T i
 cx:Cx' P n A T ix
theorem Fst.mem{n:Nat}(h:Fst P n A T e ix):ix∈sts T.length e e:=by obtain⟨l,r,e,_⟩:=h.at';rw[e];simp
theorem xU{k:Nat}(hk:7<=k)(hB:Bd P (L*R))(hL:1<=L/\L<=6)(hR:1<=R/\R<=6)(hm:1<=many/\many<=10)(ht:∀t∈ts,TI' L R many t)(GL:(ts.map (·.1)).Nodup){p:SS}(U:M p=E (.lst (ts.map tmD)))(q1:∀e M',Out P (L*R) (chF P (L*R) [] (tbs P (L*R) R many ts)) (al P L R) e R9->Ge M M'->Q (.tup [sD R9,.int (((chF P (L*R) [] (tbs P (L*R) R many ts)).length+e:Nat):Int)]) M')(q2:∀e ix pr M',Fst P (L*R) (chF P (L*R) [] (tbs P (L*R) R many ts)) (al P L R) e ix->SOk P L R many ts (psF P L R many ts (chF P (L*R) [] (tbs P (L*R) R many ts)) ix)->(psF P L R many ts (chF P (L*R) [] (tbs P (L*R) R many ts)) ix).length=(chF P (L*R) [] (tbs P (L*R) R many ts)).length+e->(chF P (L*R) [] (tbs P (L*R) R many ts)).length+e<=L*R->M pr=Z->M' pr=E (.lst ((psF P L R many ts (chF P (L*R) [] (tbs P (L*R) R many ts)) ix).map prD))->Ge M M'->Q (.tup [sD N2,.int (((chF P (L*R) [] (tbs P (L*R) R many ts)).length+e:Nat):Int),.tup [.int L,.int R,.int many,.ref pr]]) M'):phi tab k 16 [.tup [.int L,.int R,.int many,.ref p],.int P] M Q:=by
 have Y:=hB.p;have GX:=hB.n;have Gr:0<P:=∅
 have GY:1*1<=L*R:=JI hL.1 hR.1;have hb:=db (P:=P) Gr ht;have hT:=cS (P:=P) (L:=L) (R:=R) Gr;have J:(al P L R).length=(prs P L R).length:=by unfold al;rw[hG]
 have Gs:(al P L R).length<=1000000:=by rw[J];exact vw Y hL.2 hR.2
 have hA:=(In.init (P:=P) (n:=L*R) Y).ch Y hb.2;have Gz:∀t∈tbs P (L*R) R many ts,Sp P (L*R) (chF P (L*R) [] (tbs P (L*R) R many ts)) (gf t):=λt h=>bw h;refine ao ∅ rfl rfl (ρ:=[E _,E _,Z,Z,Z,Z,Z,Z,Z,Z]) rfl ?_
 unfold d16 b16;nofun;refine vx ∅ hB hL.2 hR.2 hm.2 ht U λpp pt po own M1 ho hf e1 e2 e3 g1=>?_
 generalize chF P (L*R) [] (tbs P (L*R) R many ts)=A at q1 q2 hA Gz ho;have GA:=ho.len;have GZ:=ho.le;refine⟨_,rfl,?_⟩;nofun;nofun;refine vB (N:=L*R) (λj ρ M'=>(∃o6 o7 o8 o9,ρ=[E (.tup [.int L,.int R,.int many,.ref p]),E (.int P),E (.ref pp),E (.ref pt),E (.ref po),E (.int (j:Nat)),o6,o7,o8,o9])/\Ge M1 M'/\Pre P (L*R) A (al P L R) j) ⟨⟨_,_,_,_,rfl⟩,Ge.refl,λe' h=>absurd h ∅⟩ (λρ M' h=>by have:=(h.2.2.le Y hR.1 hA).1;lia) ?_
 rintro e ρ M2 ⟨⟨o6,o7,o8,o9,rfl⟩,g2,B⟩ W hW;obtain⟨GW,F⟩:=B.le Y hR.1 hA;ac_nf;refine⟨_,_,rfl,bR (ab (g2 _ _ e1)),?_⟩;rw[hG,<-J];refine Ab ∅ F Gs ?_
 ac_nf
 by_cases Gu:bn (al P L R).length e<=3000
 ·rw[if_pos ∅]
  nofun;refine⟨_,_,rfl,bR (ab (g2 _ _ e1)),?_⟩;rw[hG,<-J];refine Ac ∅ F Gs ∅ Gu λps M3 g3 n3 e4=>?_
  refine⟨_,ab e4,?_⟩;refine aI (f:=ixD) (ys:=sts (al P L R).length e e) (I:=λl2 ρ M'=>(∃o6 o7 o8 o9,ρ=[E (.tup [.int L,.int R,.int many,.ref p]),E (.int P),E (.ref pp),E (.ref pt),E (.ref po),E (.int (e:Nat)),o6,o7,o8,o9])/\Ge M3 M'/\∀ix∈l2,¬Cx' P (L*R) A (al P L R) ix) rfl ⟨⟨_,_,_,_,rfl⟩,Ge.refl,by simp⟩ (λ_ _ _ h=>ab (h.2.1 _ _ e4)) ?_ ?_
  ·rintro l2 ix r2 ρ M4 GB ⟨⟨o6,o7,o8,o9,rfl⟩,g4,O⟩;refine⟨_,rfl,λF2 GM=>?_⟩;have F2:ix∈sts (al P L R).length e e:=by rw[GB];simp
   obtain⟨H0,_,Gv⟩:=oM F F2;have GC:=g2.trans (g3.trans g4);nofun;refine yv (f:=rD) (l:=al P L R) (dflt:=[]) Gv ∅ (GC _ _ e2) rfl (by first|rfl|trivial) λρ p5 hp5=>?_
   have g5:=Ge.new (o:=.lst ((ix.map λi=>(al P L R).getD i []).map rD)) hp5;have e5:=aa (M:=M4) (a:=p5) (o:=.lst ((ix.map λi=>(al P L R).getD i []).map rD));generalize ad M4 p5 (.lst ((ix.map λi=>(al P L R).getD i []).map rD))=M5 at g5 e5⊢;have GD:=GC.trans g5;refine fK ∅ Y ∅ ho hf ∅ (ts:=ix.map (tat (al P L R))) (by rw[hG];lia) (λt h=>?_) (GD _ _ e3) e5 λpsp space M6 hS _ H4 nS e6 g6=>?_
   ·obtain⟨i,hi,rfl⟩:=HQ.mp h;exact de hT (Gv i hi)
   have GE:=GD.trans g6;nofun;refine sN ∅ hB hS hT Gs e6 (GE _ _ e2) λpc pb ixs base M7 GF Gp GN GO GP e7 f7 g7=>?_
   have Gw:=GE.trans g7;refine⟨_,rfl,?_⟩;nofun;refine⟨_,_,rfl,bR (ab f7),_,_,rfl,bR (ab (g7 _ _ e6)),?_⟩;rw[hG,hG,GP.len,hS.len];dsimp only;ac_nf
   by_cases hC:(chS P (L*R) (chF P (L*R) A (ix.map (tat (al P L R)))) (al P L R)).length=(chF P (L*R) A (ix.map (tat (al P L R)))).length
   ·rw[if_pos (by rw[hC];simp)]
    have hlen:=lQ F B F2 hC;have H8:=hS.le;have GG:=hA.ch Y (ts:=ix.map (tat (al P L R))) λt h=>by obtain⟨i,hi,rfl⟩:=HQ.mp h;exact de hT (Gv i hi)
    have GH:ixs.length=A.length+e:=by have:=congrArg Pe GF;rw[hG,hC]at this;rw[<-this];exact hlen
    have Gq:∀i∈ixs,i<(prs P L R).length:=λi hi=>by rw[<-J];exact Gp i hi
    have Gx:∀x∈ixs.map (pat (prs P L R)),Vr P L x.1/\Vr P R x.2:=λx hx=>by obtain⟨i,hi,rfl⟩:=HQ.mp hx;exact jy (Ib (cL (Gq i hi)))
    have H9:(chF P (L*R) A (ix.map (tat (al P L R)))).length=A.length+e:=hlen;nofun;refine⟨_,_,rfl,bR (ab (Gw _ _ e3)),?_⟩;rw[hG,GA];ac_nf;refine⟨_,ab e7,?_⟩;refine yv (f:=p2D) (l:=prs P L R) (dflt:=([],[])) Gq ∅ (Gw _ _ e1) rfl (ab e7) λρ p8 hp8=>?_
    have g8:=Ge.new (o:=.lst ((ixs.map λi=>(prs P L R).getD i ([],[])).map p2D)) hp8;have e8:=aa (M:=M7) (a:=p8) (o:=.lst ((ixs.map λi=>(prs P L R).getD i ([],[])).map p2D));generalize ad M7 p8 (.lst ((ixs.map λi=>(prs P L R).getD i ([],[])).map p2D))=M8 at g8 e8⊢;have Gy:=g1.trans (Gw.trans g8);refine oZ ∅ hB hL.2 hR.2 hm ht (xs:=ixs.map (pat (prs P L R))) Gx (by rw[hG];lia) (Gy _ _ U) e8 λpr base' M9 GI GQ GR npr e9 g9=>?_
    refine⟨by rw[z4];lia,?_⟩
    rw[<-RH];have GS:fL (ixs.map (pat (prs P L R))) ((tbs P (L*R) R many ts).map (shr P (L*R) base' (ixs.map (pat (prs P L R))).length))=psF P L R many ts A ix:=by unfold psF xsF;rw[GQ,GN];rfl
    have hok:SOk P L R many ts (fL (ixs.map (pat (prs P L R))) ((tbs P (L*R) R many ts).map (shr P (L*R) base' (ixs.map (pat (prs P L R))).length))):=by
     refine⟨λu hu=>?_,λu hu=>?_,λk i j=>pS Y ht GL Gp GF GO hC GG (λt h=>jx (Gz t h)) GI GR k i j⟩
     ·obtain⟨x,hx,rfl⟩:=HQ.mp hu;have U:=Gx _ (Ib (cL (Io.mp hx)));exact⟨U.1.len,U.2.len,by show(K7 _ (K7 _ _)).length=_;rw[hG,hG,hb.1]⟩
     ·obtain⟨x,hx,rfl⟩:=HQ.mp hu;have hx:=Io.mp hx;have U:=Gx _ (Ib (cL hx));refine⟨λy hy=>U.1.inn y hy,λy hy=>U.2.inn y hy,λy hy=>?_⟩;obtain⟨row,GJ,rfl⟩:=HQ.mp (show y∈K7 _ _ from hy);obtain⟨t,GT,rfl⟩:=HQ.mp GJ;have hl:=qM Gr GI.vr (hb.2 t GT);have GU:=Ib (au (v:=shr P (L*R) base' (ixs.map (pat (prs P L R))).length t) (x:=x) (by rw[hl];exact hx))
      obtain⟨z,_,ez⟩:=HQ.mp (show _∈K7 _ _ from GU);rw[<-ez];exact⟨Jk _ ∅,IX _ ∅⟩
    have GK:(fL (ixs.map (pat (prs P L R))) ((tbs P (L*R) R many ts).map (shr P (L*R) base' (ixs.map (pat (prs P L R))).length))).length=A.length+e:=by unfold fL;simp[GH]
    rw[GS]at hok GK e9;exact q2 e ix pr _ ⟨B,Gu,⟨l2,r2,GB,O⟩,hC⟩ hok GK ∅ (bo Gy npr) e9 (Gy.trans g9)
   ·rw[if_neg (by simp only[beq_iff_eq];lia)]
    refine GM _ _ ⟨⟨_,_,_,_,rfl⟩,g4.trans (g5.trans (g6.trans g7)),λix' h'=>?_⟩
    rcases Ie.mp h' with h'|h'
    ·exact O ix' h'
    ·rw[Im.mp h'];exact hC
  ·rintro ρ M4 ⟨⟨o6,o7,o8,o9,rfl⟩,g4,O⟩;dsimp only;nofun;refine hW _ _ ⟨⟨_,_,_,_,rfl⟩,g2.trans (g3.trans g4),λe' Ha=>?_⟩
   by_cases z:e'=e
   ·rw[z];exact⟨Gu,O⟩
   ·exact B e' ∅
 ·rw[if_neg ∅]
  nofun;refine⟨_,_,rfl,bR (ab (g2 _ _ e3)),?_⟩;rw[hG,GA];ac_nf;refine⟨by rw[z4];lia,?_⟩
  rw[<-RH];exact q1 e _ ⟨B,λ_=>∅,λh=>by cases h⟩ (g1.trans g2)
theorem kE{P n:Nat}{T:List (List Int)}:∀{X:List Nat} {A:List (Nat->Int)},∃ix:List Nat,List.Sublist ix X/\chF P n A (ix.map (tat T))=chF P n A (X.map (tat T))/\(chF P n A (X.map (tat T))).length=A.length+ix.length
 |[],A=>⟨[],List.Sublist.refl _,rfl,rfl⟩
 |i::X,A=>by
  by_cases h:Sp P n A (gf (tat T i))
  ·obtain⟨ix,h1,h2,j⟩:=kE (P:=P) (n:=n) (T:=T) (X:=X) (A:=A);exact⟨ix,h1.cons _,by rw[Ii,bK h,h2],by rw[Ii,bK h,j]⟩
  ·obtain⟨ix,h1,h2,j⟩:=kE (P:=P) (n:=n) (T:=T) (X:=X) (A:=A++[gf (tat T i)]);exact⟨i::ix,h1.cons_cons _,by rw[Ii,Ii,aO h,aO h,h2],by rw[Ii,aO h,j,hQ,Iv];simp;lia⟩
theorem Ag{n:Nat}{t:List Int}(j:t∈T)(hs:Sp P n S (gf t)):Sp P n (chS P n S T) (gf t):=by
 have:∀(T:List (List Int)) (A:List (Nat->Int)),(Sp P n A (gf t)->Sp P n (T.foldl (λA t=>@ite _ (Sp P n S (gf t)/\¬Sp P n A (gf t)) (Jo _) (A++[gf t]) A) A) (gf t))/\(t∈T->Sp P n (T.foldl (λA t=>@ite _ (Sp P n S (gf t)/\¬Sp P n A (gf t)) (Jo _) (A++[gf t]) A) A) (gf t)):=by
  intro T
  induction T with
  |nil=>intro A;exact⟨λh=>h,λh=>by cases h⟩
  |cons u T ih=>
   intro A;rw[JL]
   by_cases e:Sp P n S (gf u)/\¬Sp P n A (gf u)
   ·rw[if_pos e];refine⟨λh=>(ih _).1 h.more,λh=>?_⟩
    rcases Ij.mp h with rfl|h
    ·exact(ih _).1 Sp.last
    ·exact(ih _).2 h
   ·rw[if_neg e];refine⟨(ih _).1,λh=>?_⟩
    rcases Ij.mp h with rfl|h
    ·exact(ih _).1 (J4 λz=>e ⟨hs,z⟩)
    ·exact(ih _).2 h
 exact(this T []).2 j
theorem jB{n:Nat}{ts:List (List Int)}(h:∀t∈ts,Sp P n S (gf t)):∀b∈chF P n [] ts,Sp P n S b:=by
 have:∀(ts:List (List Int)) (A:List (Nat->Int)),(∀t∈ts,Sp P n S (gf t))->(∀b∈A,Sp P n S b)->∀b∈chF P n A ts,Sp P n S b:=by
  intro ts
  induction ts with
  |nil=>intro A _ h b j;exact h b j
  |cons t ts ih=>
   intro A h1 h2
   by_cases e:Sp P n A (gf t)
   ·rw[bK e];exact ih A (λx hx=>h1 x (HR _ hx)) h2
   ·rw[aO e];refine ih _ (λx hx=>h1 x (HR _ hx)) λb j=>?_
    rcases Ie.mp j with j|j
    ·exact h2 b j
    ·rw[Im.mp j];exact h1 t I0
 exact this ts [] h (by simp)
variable{Ds:List (List Int)}
theorem vC{n:Nat}(z:P=2∨P=3)(hD:∀t∈Ds,Vr P n t)(hT:∀t∈T,Vr P n t)(F:Pre P n (chF P n [] Ds) T e){Y:List (List Int)}(hY:∀y∈Y,y∈T)(hc:∀t∈Ds,Sp P n (chF P n [] Y) (gf t)):(chF P n [] Ds).length+e<=Y.length:=by
 have U:∀y∈Y,Vr P n y:=λy J=>hT y (hY y J);have hA:=(In.init (P:=P) (n:=n) z).ch z hD;have Gu:=(In.init (P:=P) (n:=n) z).ch z U;have F2:=jB (S:=chF P n [] Y) hc;generalize chF P n [] Ds=A at F hA F2⊢
 let X:=(HV T.length).filter λi=>decide (tat T i∈Y)
 have Gv:∀i∈X,i<T.length:=λi hi=>Io.mp (Iq.mp hi).1;have Gw:X.Pairwise (· < ·):=List.Pairwise.sublist Nw List.pairwise_lt_range;have Gx:∀y∈Y,y∈X.map (tat T):=λy J=>by
  obtain⟨i,hi⟩:=JY (hY y J);have Gp:=(HU.mp hi).1;have O:tat T i=y:=by rw[bL Gp]at hi;exact Ir.inj hi
  exact HQ.mpr ⟨i,Iq.mpr ⟨Io.mpr Gp,by rw[O];simpa using J⟩,O⟩
 have Gq:∀t∈X.map (tat T),t∈Y:=λt O=>by obtain⟨i,hi,rfl⟩:=HQ.mp O;simpa using(Iq.mp hi).2
 obtain⟨ix,h1,h2,h3⟩:=kE (P:=P) (n:=n) (T:=T) (X:=X) (A:=A);have hS:Sx P n A T ix=chF P n A (X.map (tat T)):=h2;have L:=hA.ch z (ts:=X.map (tat T)) λt O=>U t (Gq t O);have Gr:∀f,Sp P n (chF P n A (X.map (tat T))) f->Sp P n (chF P n [] Y) f:=by
  intro f hf;refine Sw (λb j=>?_) hf;have:∀(ts:List (List Int)) (B:List (Nat->Int)),(∀t∈ts,t∈Y)->(∀b∈B,Sp P n (chF P n [] Y) b)->∀b∈chF P n B ts,Sp P n (chF P n [] Y) b:=by
   intro ts
   induction ts with
   |nil=>intro B _ h b j;exact h b j
   |cons t ts ih=>
    intro B h1 h2
    by_cases e:Sp P n B (gf t)
    ·rw[bK e];exact ih B (λx hx=>h1 x (HR _ hx)) h2
    ·rw[aO e];refine ih _ (λx hx=>h1 x (HR _ hx)) λb j=>?_
     rcases Ie.mp j with j|j
     ·exact h2 b j
     ·rw[Im.mp j];exact bw (h1 t I0)
  exact this _ A Gq F2 b j
 have hle:=In.le z L Gu λv _ hs=>Gr _ hs;have Gy:=gT (P:=P) (n:=n) (ts:=Y) (A:=[]);rw[Kb,NG]at Gy;have hC:Cx' P n A T ix:=by unfold Cx';rw[hS];obtain⟨Gs,Gz⟩:=iJ z (S:=chF P n A (X.map (tat T))) hT;refine Nt (In.le z Gs L λv _ hs=>Sw Gz hs) (In.le z L Gs λv _ hs=>?_);refine Sw (λb j=>?_) (Gr _ hs);exact jB (λy J=>Ag (hY y J) (bw (Gx y J))) b j
 have hm:ix∈sts T.length ix.length ix.length:=ky rfl (Gw.sublist h1) λx hx=>Gv x (h1.subset hx);have:e<=ix.length:=by
  rcases OR ix.length e with k|k
  ·exact absurd hC ((F _ k).2 ix hm)
  ·exact k
 lia
theorem qN{P n:Nat}{S:List (Nat->Int)}{T:List (List Int)}:∀k,(wix P n S T k).Pairwise (· < ·)/\∀i∈wix P n S T k,i<k
 |0=>⟨.nil,by simp[wix]⟩
 |k+1=>by
  obtain⟨h1,h2⟩:=qN (P:=P) (n:=n) (S:=S) (T:=T) k
  by_cases h:Sp P n S (gf (tat T k))/\¬Sp P n (chS P n S (T.take k)) (gf (tat T k))
  ·rw[kD h];refine⟨IH.mpr ⟨h1,by simp,λa j b z=>by rw[Im.mp z];exact h2 a j⟩,λi hi=>?_⟩
   rcases Ie.mp hi with hi|hi
   ·have:=h2 i hi;lia
   ·rw[Im.mp hi];lia
  ·rw[gX h];exact⟨h1,λi hi=>by have:=h2 i hi;lia⟩
theorem qO{P n:Nat}{S:List (Nat->Int)}{T:List (List Int)}:∀k,k<=T.length->chS P n S (T.take k)=(wix P n S T k).map λi=>gf (tat T i)
 |0,_=>rfl
 |k+1,j=>by
  have ih:=qO (P:=P) (n:=n) (S:=S) (T:=T) k ∅
  have e:T.take (k+1)=T.take k++[tat T k]:=by rw[JR,bL ∅];rfl
  by_cases h:Sp P n S (gf (tat T k))/\¬Sp P n (chS P n S (T.take k)) (gf (tat T k))
  ·rw[kD h,e,kA h.1 h.2,ih,HS];rfl
  ·rw[gX h,e,gp h,ih]
theorem C9{n:Nat}(z:P=2∨P=3)(U:∀t∈Ds,Vr P n t)(Y:∀t∈T,Vr P n t)(he:e<=T.length)(h:Fst P n (chF P n [] Ds) T e ix):∃X:List Nat,X.Pairwise (· < ·)/\(∀i∈X,i<T.length)/\X.length=(chF P n [] Ds).length+e/\∀t∈Ds,Sp P n (chF P n [] (X.map (tat T))) (gf t):=by
 have hA:=(In.init (P:=P) (n:=n) z).ch z U;have B:∀t∈Ds,Sp P n (chF P n [] Ds) (gf t):=λt j=>bw j;have hlen:=lQ he h.pre h.mem h.cx;have F:=(oM he h.mem).2.2;generalize chF P n [] Ds=A at *
 have J:=hA.ch z (ts:=ix.map (tat T)) λt j=>by obtain⟨i,hi,rfl⟩:=HQ.mp j;exact de Y (F i hi)
 obtain⟨L,O⟩:=iJ z (S:=Sx P n A T ix) Y;have hw:=qO (P:=P) (n:=n) (S:=Sx P n A T ix) (T:=T) T.length (HW _);rw[Ln]at hw;obtain⟨r1,r2⟩:=qN (P:=P) (n:=n) (S:=Sx P n A T ix) (T:=T) T.length;refine⟨_,r1,r2,?_,λt j=>?_⟩
 ·rw[<-hlen,<-h.cx,hw,hG]
 ·have h1:=In.all z L J (λv _ hs=>Sw O hs) h.cx (U t j) (jx (B t j));refine Sw (λb F2=>?_) h1;rw[hw]at F2;obtain⟨i,hi,rfl⟩:=HQ.mp F2;exact bw (Iz hi)
theorem qP{n c:Nat}(hP:P=2∨P=3)(O:∀t∈Ds,Vr P n t)(hT:∀t∈T,Vr P n t)(j:Pre P n (chF P n [] Ds) T e){F:List Int->List (List Int)}(h1:∀v,Vr P n v->∀y∈F v,y∈T)(h2:∀v,Vr P n v->∀B,(∀y∈F v,Sp P n B (gf y))->Sp P n B (gf v))(h3:∀v,(F v).length<=c):(chF P n [] Ds).length+e<=(chF P n [] Ds).length*c:=by
 obtain⟨ix,_,L,U,F2⟩:=oJ (P:=P) (n:=n) (A:=[]) Ds _ (HW _);rw[Ln,Kb,NG]at F2;rw[Ln]at U;have hv:∀i∈ix,Vr P n (tat Ds i):=λi hi=>de O (L i hi);have hlen:∀l:List Nat,(l.flatMap λi=>F (tat Ds i)).length<=l.length*c:=by
  intro l
  induction l with
  |nil=>simp
  |cons i l ih=>rw[Jb,hQ,Iv,J1];have:=h3 (tat Ds i);lia
 have:=vC hP O hT j (Y:=ix.flatMap λi=>F (tat Ds i)) (λy z=>by
  obtain⟨i,hi,z⟩:=IE.mp z;exact h1 _ (hv i hi) y z) (λt J=>by
  have J:=bw (P:=P) (n:=n) (A:=[]) J;rw[<-U]at J;refine Sw (jB λu hu=>?_) J;obtain⟨i,hi,rfl⟩:=HQ.mp hu;exact h2 _ (hv i hi) _ λy z=>bw (IE.mpr ⟨i,hi,z⟩))
 have h9:=hlen ix;rw[F2]at this⊢;lia
noncomputable def nrm(P:Nat)(r:List Int):List Int:=r.map λx=>(gf r (fi r)*x)%P
theorem qQ{n:Nat}{r:List Int}(F:Vr P n r)(J:r≠HN n 0):fi r<n/\gf r (fi r)≠0/\∀x,x<fi r->gf r x=0:=by
 have hex:∃x∈r,(x != 0)=N2:=by apply J4;intro h;apply J;rw[MW];refine⟨F.len,λx hx=>?_⟩;apply J4;intro B;exact h ⟨x,hx,by simpa using B⟩
 have j:fi r<r.length:=by unfold fi;obtain⟨x,hx,h⟩:=hex;exact List.findIdx_lt_length_of_exists ⟨x,hx,h⟩
 have L:(r[fi r] != 0)=N2:=List.findIdx_getElem (p:=λx:Int=>x != 0) (w:=j);refine⟨by rw[<-F.len];exact j,?_,λx hx=>?_⟩
 ·have e:=au j;rw[r4 j]at e;rw[<-Ir.inj e];simpa using L
 ·have z:x<r.length:=by lia
  have e:=au z;rw[r4 z]at e;rw[<-Ir.inj e];have:=List.not_of_lt_findIdx (p:=λx:Int=>x != 0) (xs:=r) (i:=x) hx;simpa using this
theorem cM{n:Nat}(z:0<P){r:List Int}(j:Vr P n r):Vr P n (nrm P r):=by
 refine⟨by unfold nrm;rw[hG];exact j.len,λx hx=>?_⟩
 obtain⟨y,_,rfl⟩:=HQ.mp hx;exact⟨Jk _ ∅,IX _ ∅⟩
theorem ph{n:Nat}{r:List Int}(j:Vr P n r)(hx:x<n):gf (nrm P r) x=(gf r (fi r)*gf r x)%P:=jw (F:=λx=>(gf r (fi r)*x)%P) (by rw[j.len];exact hx)
theorem DA{p:Nat}(z:p<v.length)(h1:gf v p=1)(h0:∀x,x<p->gf v x=0):fo v=N2:=by
 have e:v=v.take p++1::v.drop (p+1):=by have B:=au z;rw[r4 z,h1]at B;rw[<-Ir.inj B,List.getElem_cons_drop,JS]
 have ez:nzl (v.take p)=[]:=by
  unfold nzl;rw[Ly];intro a F;obtain⟨i,hi⟩:=JY F;have j:i<p:=by have:=(HU.mp hi).1;rw[IJ]at this;lia
  rw[Kk j,au ∅,h0 i j]at hi
  rw[<-Ir.inj hi];simp
 have en:nzl v=1::nzl (v.drop (p+1)):=by refine(congrArg nzl e).trans ?_;unfold nzl at ez⊢;rw[IP,ez,ID (by decide)];rfl
 unfold fo;rw[en];simp[gz]
theorem jC{n:Nat}(z:P=2∨P=3){r:List Int}(j:Vr P n r)(B:r≠HN n 0):fo (nrm P r)=N2:=by
 obtain⟨h1,h2,F⟩:=qQ j B;have J:=j.at h1;refine DA (p:=fi r) (by rw[(cM ∅ j).len];exact h1) ?_ λx hx=>?_
 ·rw[ph j h1];have L:gf r (fi r)=1∨(P=3/\gf r (fi r)=2):=by lia
  rcases L with h|⟨rfl,h⟩
  ·rw[h];rcases z with rfl|rfl<;>rfl
  ·rw[h];rfl
 ·rw[ph j ∅,F x hx];simp
theorem jD{n:Nat}(F:P=2∨P=3){r:List Int}(j:Vr P n r)(B:r≠HN n 0)(hx:x<n):(P:Int) ∣ gf r x-gf r (fi r)*gf (nrm P r) x:=by
 obtain⟨h1,h2,J⟩:=qQ j B;have z:=j.at h1;have a:=oG (p:=P) ∅ (w:=gf r (fi r)) ∅ z.2
 rw[ph j hx];have b:(P:Int) ∣ gf r (fi r)*(gf r (fi r)*gf r x-(gf r (fi r)*gf r x)%P):=IK bb;have c:(P:Int) ∣ (gf r (fi r)*gf r (fi r)-1)*gf r x:=J2 a;have:=Kc b c
 rwa[show gf r (fi r)*(gf r (fi r)*gf r x-gf r (fi r)*gf r x % ↑P)-(gf r (fi r)*gf r (fi r)-1)*gf r x=gf r x-gf r (fi r)*(gf r (fi r)*gf r x % ↑P) by grind]at this
theorem cE(j:1<=R):x=x / R*R+x%R:=by rw[LU];exact(P0 x R).symm
noncomputable def bu(R i:Nat)(v:List Int):List Int:=(v.drop (i*R)).take R
theorem iK(j:Vr P (L*R) v)(hi:i<L):Vr P R (bu R i v):=by
 have:=Jp R (show i+1<=L by lia)
 rw[J1]at this;refine⟨by unfold bu;rw[IJ,JN,j.len];lia,λx hx=>j.inn x (List.mem_of_mem_drop (List.mem_of_mem_take hx))⟩
theorem vD(z:Vr P (L*R) v)(hi:i<L)(B:j<R):gf (bu R i v) j=gf v (i*R+j):=by
 have:=Jp R (show i+1<=L by lia)
 rw[J1]at this;have e:=au (v:=bu R i v) (x:=j) (by rw[(iK z hi).len];exact B)
 unfold bu at e⊢;rw[Kk B,KS,au (by rw[z.len];lia)]at e
 exact(Ir.inj e).symm
noncomputable def Fr(P L R:Nat)(v:List Int):List (List Int):=((HV L).filter λi=>decide (bu R i v≠HN R 0)).map λi=>tbl P (ul L i,nrm P (bu R i v))
theorem Ca(v:List Int):(Fr P L R v).length<=L:=by unfold Fr;rw[hG];refine IW (II _ _) (by simp)
theorem Cb(j:P=2∨P=3)(B:Vr P (L*R) v):∀y∈Fr P L R v,y∈al P L R:=by intro y F;obtain⟨i,hi,rfl⟩:=HQ.mp F;obtain⟨hi,J⟩:=Iq.mp hi;have hi:=Io.mp hi;have z:=iK B hi;exact HQ.mpr ⟨_,IE.mpr ⟨ul L i,Iq.mpr ⟨df (jz j hi),mN⟩,HQ.mpr ⟨nrm P (bu R i v),Iq.mpr ⟨df (cM ∅ z),jC j z (by simpa using J)⟩,rfl⟩⟩,rfl⟩
theorem DB(hP:P=2∨P=3)(J:1<=R)(O:Vr P (L*R) v)(B:List (Nat->Int))(h:∀y∈Fr P L R v,Sp P (L*R) B (gf y)):Sp P (L*R) B (gf v):=by
 have one:∀i,i<L->Sp P (L*R) B λx=>if x / R=i then gf v x else 0:=by
  intro i hi;have F2:=iK O hi
  by_cases U:bu R i v=HN R 0
  ·refine Ss λx hx=>?_
   split
   ·next e=>
    have hm:=Mj x (show R > 0 by lia)
    have g:=vD O hi hm;rw[U,cq,<-e,<-cE J]at g;rw[<-g];exact J7 _
   ·exact J7 _
  ·have hs:=h _ (HQ.mpr ⟨i,Iq.mpr ⟨Io.mpr hi,by simpa using U⟩,rfl⟩)
   refine((Ss (f:=λ_=>0) λ_ _=>J7 _).comb (k:=gf (bu R i v) (fi (bu R i v))) hs).congr λx hx=>?_;have F:x / R<L:=(JB ∅).mpr hx
   have hm:=Mj x (show R > 0 by lia)
   have z:=cM (P:=P) ∅ F2
   have e:=eV (P:=P) (x:=(ul L i,nrm P (bu R i v))) (dg hi) z.len F hm;rw[<-cE J,jA hi F]at e;dsimp only at e;rw[e]
   by_cases j:x / R=i
   ·rw[if_pos j,if_pos j,La,Og (z.at hm).1 (z.at hm).2,NF];have d:=jD hP F2 U hm;rw[vD O hi hm,<-j,<-cE J,j]at d;rw[<-KJ]
    rwa[show -(gf (bu R i v) (fi (bu R i v))*gf (nrm P (bu R i v)) (x%R)-gf v x)=gf v x-gf (bu R i v) (fi (bu R i v))*gf (nrm P (bu R i v)) (x%R) by lia]
   ·rw[if_neg j,if_neg j];simp
 have go:∀k,k<=L->Sp P (L*R) B λx=>if x / R<k then gf v x else 0:=by
  intro k
  induction k with
  |zero=>intro _;exact Ss λx _=>by simp
  |succ k ih=>
   intro hk;refine((ih ∅).comb (k:=1) (one k ∅)).congr λx _=>?_
   by_cases Y:x / R=k
   ·rw[if_neg ∅,if_pos Y,if_pos ∅];simp
   ·by_cases e2:x / R<k
    ·rw[if_pos e2,if_neg Y,if_pos ∅];simp
    ·rw[if_neg e2,if_neg Y,if_neg ∅];simp
 exact(go L (HW _)).congr λx hx=>by rw[if_pos ((JB ∅).mpr hx)];simp
noncomputable def bj(L R j:Nat)(v:List Int):List Int:=(HV L).map λi=>gf v (i*R+j)
theorem qR(hi:i<L)(z:j<R):i*R+j<L*R:=by
 have:=Jp R (show i+1<=L by lia)
 rw[J1]at this;lia
theorem pi(z:Vr P (L*R) v)(B:j<R):Vr P L (bj L R j v):=by
 refine⟨by unfold bj;simp,λx hx=>?_⟩
 obtain⟨i,hi,rfl⟩:=HQ.mp hx;exact z.at (qR (Io.mp hi) B)
theorem vE(hi:i<L):gf (bj L R j v) i=gf v (i*R+j):=by
 have e:=au (v:=bj L R j v) (x:=i) (by unfold bj;simpa using hi)
 unfold bj at e⊢;rw[I8,K8 hi]at e;exact(Ir.inj e).symm
noncomputable def Fc(P L R:Nat)(v:List Int):List (List Int):=((HV R).filter λj=>decide (bj L R j v≠HN L 0)).map λj=>tbl P (nrm P (bj L R j v),ul R j)
theorem Cc(v:List Int):(Fc P L R v).length<=R:=by unfold Fc;rw[hG];refine IW (II _ _) (by simp)
theorem Cd(B:P=2∨P=3)(J:Vr P (L*R) v):∀y∈Fc P L R v,y∈al P L R:=by intro y O;obtain⟨j,z,rfl⟩:=HQ.mp O;obtain⟨z,U⟩:=Iq.mp z;have z:=Io.mp z;have F:=pi J z;exact HQ.mpr ⟨_,IE.mpr ⟨nrm P (bj L R j v),Iq.mpr ⟨df (cM ∅ F),jC B F (by simpa using U)⟩,HQ.mpr ⟨ul R j,Iq.mpr ⟨df (jz B z),mN⟩,rfl⟩⟩,rfl⟩
theorem DC(hP:P=2∨P=3)(U:1<=R)(hv:Vr P (L*R) v)(B:List (Nat->Int))(h:∀y∈Fc P L R v,Sp P (L*R) B (gf y)):Sp P (L*R) B (gf v):=by
 have one:∀j,j<R->Sp P (L*R) B λx=>if x%R=j then gf v x else 0:=by
  intro j O;have hr:=pi hv O
  by_cases Y:bj L R j v=HN L 0
  ·refine Ss λx hx=>?_;have z:x / R<L:=(JB ∅).mpr hx
   split
   ·next e=>have g:=vE (R:=R) (j:=j) (v:=v) z;rw[Y,cq,<-e,<-cE U]at g;rw[<-g];exact J7 _
   ·exact J7 _
  ·have hs:=h _ (HQ.mpr ⟨j,Iq.mpr ⟨Io.mpr O,by simpa using Y⟩,rfl⟩)
   refine((Ss (f:=λ_=>0) λ_ _=>J7 _).comb (k:=gf (bj L R j v) (fi (bj L R j v))) hs).congr λx hx=>?_;have z:x / R<L:=(JB ∅).mpr hx
   have hm:=Mj x (show R > 0 by lia)
   have J:=cM (P:=P) ∅ hr
   have e:=eV (P:=P) (x:=(nrm P (bj L R j v),ul R j)) J.len (dg O) z hm;rw[<-cE U,jA O hm]at e;dsimp only at e;rw[e]
   by_cases F:x%R=j
   ·rw[if_pos F,if_pos F,Pa,Og (J.at z).1 (J.at z).2,NF];have d:=jD hP hr Y z;rw[vE z,<-F,<-cE U,F]at d;rw[<-KJ]
    rwa[show -(gf (bj L R j v) (fi (bj L R j v))*gf (nrm P (bj L R j v)) (x / R)-gf v x)=gf v x-gf (bj L R j v) (fi (bj L R j v))*gf (nrm P (bj L R j v)) (x / R) by lia]
   ·rw[if_neg F,if_neg F];simp
 have go:∀k,k<=R->Sp P (L*R) B λx=>if x%R<k then gf v x else 0:=by
  intro k
  induction k with
  |zero=>intro _;exact Ss λx _=>by simp
  |succ k ih=>
   intro hk;refine((ih ∅).comb (k:=1) (one k ∅)).congr λx _=>?_
   by_cases F2:x%R=k
   ·rw[if_neg ∅,if_pos F2,if_pos ∅];simp
   ·by_cases e2:x%R<k
    ·rw[if_pos e2,if_neg F2,if_pos ∅];simp
    ·rw[if_neg e2,if_neg F2,if_neg ∅];simp
 exact(go R (HW _)).congr λx hx=>by rw[if_pos (Mj x ∅)];simp
theorem yw(B:P=2∨P=3)(F:1<=R)(J:∀t∈Ds,Vr P (L*R) t)(j:Pre P (L*R) (chF P (L*R) [] Ds) (al P L R) e):(chF P (L*R) [] Ds).length+e<=(chF P (L*R) [] Ds).length*L/\(chF P (L*R) [] Ds).length+e<=(chF P (L*R) [] Ds).length*R:=⟨qP B J (cS ∅) j (λv z=>Cb B z) (λv z=>DB B F z) Ca,qP B J (cS ∅) j (λv z=>Cd B z) (λv z=>DC B F z) Cc⟩
theorem Ce:(prs 2 2 2).length=9/\(prs 3 2 2).length=16/\(prs 2 2 3).length=21/\(prs 2 3 2).length=21:=by decide +kernel
theorem dF(z:P=2∨P=3)(hL:1<=L)(J:1<=R)(hs:L=1∨R=1∨(L=2/\R=2)∨(P=2/\many<=2/\((L=2/\R=3)∨(L=3/\R=2))))(O:∀t∈Ds,Vr P (L*R) t)(hl:Ds.length=many)(h:Out P (L*R) (chF P (L*R) [] Ds) (al P L R) e R9):False:=by
 have U:=(In.init (P:=P) (n:=L*R) z).ch z O;obtain⟨B,Y⟩:=h.pre.le z J U;obtain⟨F2,r2⟩:=yw z J O h.pre;have j:=h.op rfl;have hd:=gT (P:=P) (n:=L*R) (ts:=Ds) (A:=[]);rw[Kb,NG]at hd;have F:(al P L R).length=(prs P L R).length:=by unfold al;rw[hG]
 rw[F]at j;obtain⟨p1,p2,p3,p4⟩:=Ce
 rcases hs with hs|hs|⟨rfl,rfl⟩|⟨rfl,hm,hs⟩
 ·rw[hs,Nat.mul_one]at F2;have:e=0:=by lia
  subst this;rw[bn_0]at j;lia
 ·rw[hs,Nat.mul_one]at r2;have:e=0:=by lia
  subst this;rw[bn_0]at j;lia
 ·have he:e<=4:=B;have a:∀e,e<=4->bn 9 e<=3000/\bn 16 e<=3000:=by decide +kernel
  have:=a e he
  rcases z with rfl|rfl
  ·rw[p1]at j;lia
  ·rw[p2]at j;lia
 ·have he:e<=2:=by
   rcases hs with⟨rfl,rfl⟩|⟨rfl,rfl⟩<;>lia
  have a:∀e,e<=2->bn 21 e<=3000:=by decide +kernel
  have:=a e he
  rcases hs with⟨rfl,rfl⟩|⟨rfl,rfl⟩
  ·rw[p3]at j;lia
  ·rw[p4]at j;lia
noncomputable def sm:Nat->(Nat->Int)->Int
 |0,_=>0
 |r+1,g=>sm r g+g r
theorem bF{g h:Nat->Int}:∀{r:Nat},(∀s,s<r->g s=h s)->sm r g=sm r h
 |0,_=>rfl
 |r+1,e=>by rw[sm,sm,bF λs hs=>e s ∅,e r ∅]
theorem vF{p:Int}{g h:Nat->Int}:∀{r:Nat},(∀s,s<r->p ∣ g s-h s)->p ∣ sm r g-sm r h
 |0,_=>by simp[sm]
 |r+1,e=>by
  have a:=vF (r:=r) λs hs=>e s ∅
  have b:=e r ∅
  have:=JH a b;rw[sm,sm,show sm r g+g r-(sm r h+h r)=sm r g-sm r h+(g r-h r) by lia]
  exact this
theorem vG{g h:Nat->Int}:∀{r:Nat},sm r (λs=>g s+h s)=sm r g+sm r h
 |0=>rfl
 |r+1=>by rw[sm,sm,sm,vG];lia
theorem pj{c:Int}{g:Nat->Int}:∀{r:Nat},sm r (λs=>c*g s)=c*sm r g
 |0=>by simp[sm]
 |r+1=>by rw[sm,sm,pj,Ob]
theorem yz{p:Int}{n:Nat}:∀(m:Nat) {bs:List (Nat->Int)} {f:Nat->Int},bs.length=m->Sp p n bs f->∃c:Nat->Int,∀x,x<n->p ∣ f x-sm m λs=>c s*(bs.getD s λ_=>0) x
 |0,bs,f,h,hs=>by have:bs=[]:=Jf.mp h;subst this;exact⟨λ_=>0,λx hx=>by simpa[sm]using hs x hx⟩
 |m+1,bs,f,h,hs=>by
  rcases JA bs with rfl|⟨bs',t,rfl⟩
  ·cases h
  have j:bs'.length=m:=by simpa using h
  obtain⟨c,z⟩:=Sp.snoc.mp (by simpa using hs)
  obtain⟨c',h'⟩:=yz m j z;refine⟨λs=>if s<m then c' s else c,λx hx=>?_⟩
  have:=h' x hx;rw[sm];dsimp only;rw[if_neg (JJ m),bF (h:=λs=>c' s*(bs'.getD s λ_=>0) x) λs hs=>?_]
  ·rw[HY,Jm,HP ∅,j,MD]
   rw[show f x-c*t x-(sm m λs=>c' s*(bs'.getD s λ_=>0) x)=f x-((sm m λs=>c' s*(bs'.getD s λ_=>0) x)+c*t x) by lia]at this
   exact this
  ·rw[if_pos hs,HY,HY,Jm,HX ∅]
theorem yA{p:Int}{n:Nat}{S:List (Nat->Int)}{b:Nat->Nat->Int}{c:Nat->Int}:∀{r:Nat},(∀s,s<r->Sp p n S (b s))->Sp p n S λx=>sm r λs=>c s*b s x
 |0,_=>Ss λx _=>by simp[sm]
 |r+1,h=>by
  have a:=yA (c:=c) (r:=r) λs hs=>h s ∅
  exact(a.comb (k:=c r) (h r ∅)).congr λx _=>by rw[sm];simp
def Dc(P L R K:Nat)(t:Nat->Nat->Nat->Int)(r:Nat):Prop:=∃l q o:Nat->Nat->Int,∀k i j,k<K->i<L->j<R->(P:Int) ∣ t k i j-sm r λs=>l s i*q s j*o s k
variable{r K:Nat}
theorem Dc.congr{t u:Nat->Nat->Nat->Int}(h:∀k i j,k<K->i<L->j<R->(P:Int) ∣ t k i j-u k i j):Dc P L R K t r->Dc P L R K u r:=λ⟨l,q,o,hd⟩=>⟨l,q,o,λk i j z hi B=>by
 have a:=hd k i j z hi B;have b:=h k i j z hi B;have:=Kc a b;rw[show t k i j-(sm r λs=>l s i*q s j*o s k)-(t k i j-u k i j)=u k i j-sm r λs=>l s i*q s j*o s k by lia]at this
 exact this⟩
theorem DD(hP:P=2∨P=3)(hR:1<=R){Y:List (List Int)}(O:∀y∈Y,y∈al P L R)(U:∀t∈Ds,Sp P (L*R) (chF P (L*R) [] Y) (gf t)):Dc P L R Ds.length (λk i j=>gf (tat Ds k) (i*R+j)) Y.length:=by
 have B:∀s,s<Y.length->∃x:List Int×List Int,tat Y s=tbl P x/\x.1.length=L/\x.2.length=R:=λs hs=>by have:=O _ (Ib (bL hs));obtain⟨x,hx,e⟩:=HQ.mp this;refine⟨x,e.symm,?_⟩;obtain⟨l,F2,h2⟩:=IE.mp hx;obtain⟨r,hr,rfl⟩:=HQ.mp h2;exact⟨(gu (Iq.mp F2).1).len,(gu (Iq.mp hr).1).len⟩
 have hs:∀k,k<Ds.length->∃c:Nat->Int,∀x,x<L*R->(P:Int) ∣ gf (tat Ds k) x-sm Y.length λs=>c s*gf (tat Y s) x:=λk F=>by
  have h1:=U _ (Ib (bL F));have h2:Sp P (L*R) (Y.map gf) (gf (tat Ds k)):=Sw (jB λt ht=>by
   have:gf t∈Y.map gf:=Iz ht;obtain⟨a,b,e⟩:=Qr this;rw[e,show a++gf t::b=(a++[gf t])++b by simp]
   exact Sp.last.moreL b) h1
  obtain⟨c,h3⟩:=yz Y.length (by rw[hG]) h2
  refine⟨c,λx hx=>?_⟩;have:=h3 x hx
  rwa[bF (h:=λs=>c s*gf (tat Y s) x) λs hs=>by rw[HY,I8,bL hs];rfl]at this
 refine⟨λs i=>if h:s<Y.length then gf (B s h).choose.1 i else 0,λs j=>if h:s<Y.length then gf (B s h).choose.2 j else 0,λs k=>if h:k<Ds.length then(hs k h).choose s else 0,λk i j F hi J=>?_⟩
 have hx:i*R+j<L*R:=qR hi J;have h1:=(hs k F).choose_spec _ hx;have h2:(P:Int) ∣ (sm Y.length λs=>(hs k F).choose s*gf (tat Y s) (i*R+j))-sm Y.length λs=>(if h:s<Y.length then gf (B s h).choose.1 i else 0)*(if h:s<Y.length then gf (B s h).choose.2 j else 0)*(if h:k<Ds.length then(hs k h).choose s else 0):=vF λs z=>by
  rw[dif_pos z,dif_pos z,dif_pos F];obtain⟨e,e1,e2⟩:=(B s z).choose_spec;have g:=eV (P:=P) e1 e2 hi J;rw[<-e]at g;rw[g,MR,<-Ry];refine J2 ?_;have:=@bb (P:Int) (gf (B s z).choose.1 i*gf (B s z).choose.2 j);have:=KJ.mpr this
  rwa[Of]at this
 have:=JH h1 h2;generalize (sm Y.length λs=>(hs k F).choose s*gf (tat Y s) (i*R+j))=u at this;rw[show ∀a b:Int,a-u+(u-b)=a-b by intro a b;lia]at this
 exact this
noncomputable def rwf(P m:Nat)(f:Nat->Int):List Int:=(HV m).map λi=>f i%(P:Int)
variable{f:Nat->Int}
theorem jE(j:0<P):Vr P m (rwf P m f):=⟨by simp[rwf],λx hx=>by obtain⟨i,_,rfl⟩:=HQ.mp hx;exact⟨Jk _ ∅,IX _ ∅⟩⟩
theorem pv(hi:i<m):gf (rwf P m f) i=f i%(P:Int):=by
 have j:(rwf P m f).length=m:=by simp[rwf]
 have:=au (v:=rwf P m f) (x:=i) ∅
 unfold rwf at this⊢;rw[I8,K8 hi]at this;exact(Ir.inj this).symm
theorem pw(h:rwf P m f=HN m 0)(hi:i<m):(P:Int) ∣ f i:=by have:=pv (P:=P) (f:=f) hi;rw[h,cq]at this;exact OA this.symm
noncomputable def one(P L R:Nat)(l q:Nat->Int):List (List Int):=if rwf P L l=HN L 0∨rwf P R q=HN R 0 then[]else[tbl P (nrm P (rwf P L l),nrm P (rwf P R q))]
theorem Ah(B:P=2∨P=3){l q:Nat->Int}:∀y∈one P L R l q,y∈al P L R:=λy j=>by
 unfold one at j
 split at j
 ·cases j
 ·rename_i h;rw[Im.mp j];have h1:=jE (P:=P) (m:=L) ∅ (f:=l)
  have h2:=jE (P:=P) (m:=R) ∅ (f:=q)
  exact HQ.mpr ⟨_,IE.mpr ⟨_,Iq.mpr ⟨df (cM ∅ h1),jC B h1 λz=>h (.inl z)⟩,HQ.mpr ⟨_,Iq.mpr ⟨df (cM ∅ h2),jC B h2 λz=>h (.inr z)⟩,rfl⟩⟩,rfl⟩
theorem Cf(J:P=2∨P=3)(hR:1<=R){l q:Nat->Int}(h:∀y∈one P L R l q,Sp P (L*R) S (gf y)):Sp P (L*R) S λx=>l (x / R)*q (x%R):=by
 have dv:∀x,x<L*R->x / R<L/\x%R<R:=λx hx=>⟨(JB ∅).mpr hx,Mj _ ∅⟩
 have h1:=jE (P:=P) (m:=L) ∅ (f:=l)
 have h2:=jE (P:=P) (m:=R) ∅ (f:=q)
 unfold one at h
 split at h
 ·rename_i j;refine Ss λx hx=>?_;obtain⟨a,b⟩:=dv x hx
  rcases j with z|z
  ·exact J2 (pw z a)
  ·exact IK (pw z b)
 ·rename_i j;have B:rwf P L l≠HN L 0:=λz=>j (.inl z);have F:rwf P R q≠HN R 0:=λz=>j (.inr z);have hs:=h _ (Im.mpr rfl);have e1:=(cM (P:=P) ∅ h1).len
  have e2:=(cM (P:=P) ∅ h2).len
  generalize hA:gf (rwf P L l) (fi (rwf P L l))=a;generalize hB:gf (rwf P R q) (fi (rwf P R q))=b;have hc:=((Ss (p:=P) (n:=L*R) (bs:=S) (f:=λ_=>0) λ_ _=>J7 _).comb (k:=a*b) hs);refine hc.congr λx hx=>?_;obtain⟨xa,xb⟩:=dv x hx;have d1:=jD J h1 B xa;have d2:=jD J h2 F xb;rw[hA,pv xa]at d1;rw[hB,pv xb]at d2;have g:=eV (P:=P) (x:=(nrm P (rwf P L l),nrm P (rwf P R q))) e1 e2 xa xb;rw[<-cE hR]at g;rw[g];generalize gf (nrm P (rwf P L l)) (x / R)=u at d1⊢;generalize gf (nrm P (rwf P R q)) (x%R)=v at d2⊢;have m1:=@bb (P:Int) (l (x / R));have m2:=@bb (P:Int) (q (x%R));have m3:=@bb (P:Int) (u*v);have O:(P:Int) ∣ l (x / R)-a*u:=by
   have:=JH m1 d1
   rwa[show ∀x y z:Int,x-y+(y-z)=x-z by intro x y z;lia]at this
  have U:(P:Int) ∣ q (x%R)-b*v:=by
   have:=JH m2 d2
   rwa[show ∀x y z:Int,x-y+(y-z)=x-z by intro x y z;lia]at this
  generalize l (x / R)=f at O⊢;generalize q (x%R)=g at U⊢;obtain⟨Y,Gp⟩:=O;obtain⟨F2,Gq⟩:=U;obtain⟨k3,Gr⟩:=m3;refine⟨-(Y*g+a*u*F2+a*b*k3),?_⟩;show 0+a*b*(u*v%P)-f*g=_;have hf:f=a*u+P*Y:=∅
  have hg:g=b*v+P*F2:=∅
  have hm:u*v%P=u*v-P*k3:=∅
  rw[hm,hf,hg]
  grind
noncomputable def fM(P L R:Nat)(l q:Nat->Nat->Int):Nat->List (List Int)
 |0=>[]
 |r+1=>fM P L R l q r++one P L R (l r) (q r)
theorem pA{P L R:Nat}{l q:Nat->Nat->Int}:∀r,(fM P L R l q r).length<=r
 |0=>HW _
 |r+1=>by
  have:=pA (P:=P) (L:=L) (R:=R) (l:=l) (q:=q) r;rw[fM,hQ];have h:(one P L R (l r) (q r)).length<=1:=by unfold one;split<;>simp
  lia
theorem qS{P L R:Nat}{l q:Nat->Nat->Int}:∀{r s:Nat},s<r->∀y∈one P L R (l s) (q s),y∈fM P L R l q r
 |0,s,h,_,_=>∅
 |r+1,s,h,y,j=>by
  rw[fM]
  by_cases e:s=r
  ·subst e;exact Iw _ j
  ·exact Km _ (qS ∅ y j)
theorem pB{P L R:Nat}(z:P=2∨P=3){l q:Nat->Nat->Int}:∀{r:Nat},∀y∈fM P L R l q r,y∈al P L R
 |0,y,j=>by cases j
 |r+1,y,j=>by
  rw[fM]at j
  rcases Ie.mp j with h|h
  ·exact pB z y h
  ·exact Ah z y h
theorem DE(F:P=2∨P=3)(F2:1<=R)(hD:∀t∈Ds,Vr P (L*R) t)(z:Pre P (L*R) (chF P (L*R) [] Ds) (al P L R) e)(hd:Dc P L R Ds.length (λk i j=>gf (tat Ds k) (i*R+j)) r):(chF P (L*R) [] Ds).length+e<=r:=by
 obtain⟨l,q,o,h⟩:=hd;have hc:=vC F hD (cS ∅) z (Y:=fM P L R l q r) (pB F) λt ht=>by
  obtain⟨k,J⟩:=JY ht;have B:=(HU.mp J).1;have et:tat Ds k=t:=by rw[bL B]at J;exact Ir.inj J
  have hs:=yA (p:=P) (n:=L*R) (S:=chF P (L*R) [] (fM P L R l q r)) (b:=λs x=>l s (x / R)*q s (x%R)) (c:=λs=>o s k) (r:=r) λs hs=>Cf F F2 λy hy=>bw (qS hs y hy);refine hs.congr λx hx=>?_;have O:x / R<L:=(JB ∅).mpr hx
  have U:x%R<R:=Mj _ ∅
  have a:=h k (x / R) (x%R) B O U;dsimp only at a;rw[et,<-cE F2]at a;have:=KJ.mpr a;rw[Of]at this;rw[bF (h:=λs=>l s (x / R)*q s (x%R)*o s k) λs _=>MR _ _];exact this
 exact IW hc (pA r)
theorem DF(z:P=2∨P=3)(B:1<=R)(F:∀t∈Ds,Vr P (L*R) t)(h:Fst P (L*R) (chF P (L*R) [] Ds) (al P L R) e ix):Dc P L R Ds.length (λk i j=>gf (tat Ds k) (i*R+j)) ((chF P (L*R) [] Ds).length+e):=by
 have J:=cS (P:=P) (L:=L) (R:=R) ∅
 have O:=(In.init (P:=P) (n:=L*R) z).ch z F;obtain⟨_,he⟩:=h.pre.le z B O;obtain⟨X,x1,U,F2,x4⟩:=C9 z F J he h;have:=DD z B (Ds:=Ds) (Y:=X.map (tat (al P L R))) (λy hy=>by obtain⟨i,hi,rfl⟩:=HQ.mp hy;exact Ib (bL (U i hi))) x4
 rwa[hG,F2]at this
structure Sz(P L R K:Nat):Prop where
 p:P=2∨P=3
 l:1<=L/\L<=3
 r:1<=R/\R<=3
 k:1<=K/\K<=4
 s:L=1∨R=1∨(L=2/\R=2)∨(K<=2/\((L=2/\R=3)∨(L=3/\R=2)))
theorem Sz.n(h:Sz P L R K):L*R<=6:=by
 obtain⟨_,j,z,_,hs⟩:=h
 rcases hs with rfl|rfl|⟨rfl,rfl⟩|⟨_,⟨rfl,rfl⟩|⟨rfl,rfl⟩⟩<;>omega
theorem Ai:(prs 3 2 3).length=52/\(prs 3 3 2).length=52:=by decide +kernel
theorem DG(h:Sz P L R K)(z:∀t∈Ds,Vr P (L*R) t)(F:Ds.length=K)(ho:Out P (L*R) (chF P (L*R) [] Ds) (al P L R) e R9):False:=by
 obtain⟨J,O,B,hK,hs⟩:=h
 rcases hs with hs|hs|hs|⟨Y,hs⟩
 ·exact dF J O.1 B.1 (.inl hs) z F ho
 ·exact dF J O.1 B.1 (.inr (.inl hs)) z F ho
 ·exact dF J O.1 B.1 (.inr (.inr (.inl hs))) z F ho
 ·rcases J with rfl|rfl
  ·exact dF (.inl rfl) O.1 B.1 (.inr (.inr (.inr ⟨rfl,Y,hs⟩))) z F ho
  ·obtain⟨r1,r2⟩:=yw (.inr rfl) B.1 z ho.pre;have j:=ho.op rfl;have hd:=gT (P:=3) (n:=L*R) (ts:=Ds) (A:=[]);rw[Kb,NG]at hd;have U:(al 3 L R).length=(prs 3 L R).length:=by unfold al;rw[hG]
   rw[U]at j;obtain⟨F2,p2⟩:=Ai;have he:e<=2:=by rcases hs with⟨rfl,rfl⟩|⟨rfl,rfl⟩<;>lia
   have a:∀e,e<=2->bn 52 e<=3000:=by decide +kernel
   have:=a e he
   rcases hs with⟨rfl,rfl⟩|⟨rfl,rfl⟩
   ·rw[F2]at j;lia
   ·rw[p2]at j;lia
structure Lc(P L R K:Nat)(t:Nat->Nat->Nat->Int)(c:Nat):Prop where
 is:Dc P L R K t c
 le:∀r,Dc P L R K t r->c<=r
noncomputable def tk(ts:List Tm):Nat->Nat->Nat->Int:=λk i j=>cf ts ((k:Int),(i:Int),(j:Int))
theorem Lc.uniq{L' R' K' c c':Nat}{t u:Nat->Nat->Nat->Int}(h:Lc P L R K t c)(g:Lc P L' R' K' u c')(a:∀r,Dc P L R K t r->Dc P L' R' K' u r)(b:∀r,Dc P L' R' K' u r->Dc P L R K t r):c=c':=Nt (h.le _ (b _ g.is)) (g.le _ (a _ h.is))
theorem jF{k:Nat}(hk:7<=k)(z:Sz P L R K)(U:∀t∈ts,TI' L R K t)(F:(ts.map (·.1)).Nodup){p:SS}(hp:M p=E (.lst (ts.map tmD)))(q:∀c d M',Lc P L R K (tk ts) c->c<=6->Ge M M'->Q (.tup [sD N2,.int (c:Nat),d]) M'):phi tab k 16 [.tup [.int L,.int R,.int K,.ref p],.int P] M Q:=by
 have Y:=z.p;have hn:=z.n;have hB:Bd P (L*R):=by
  rcases Y with rfl|rfl
  ·exact .inl ⟨rfl,∅⟩
  ·exact .inr ⟨rfl,∅⟩
 have B:=db (P:=P) ∅ U
 have J:∀k i j,k<K->i<L->j<R->(P:Int) ∣ tk ts k i j-gf (tat (tbs P (L*R) R K ts) k) (i*R+j):=λk i j h1 h2 F2=>by rw[vz ∅ U F k i j h1 h2 F2];exact bb
 have O:∀k i j,k<K->i<L->j<R->(P:Int) ∣ gf (tat (tbs P (L*R) R K ts) k) (i*R+j)-tk ts k i j:=λk i j h1 h2 F2=>by
  have:=KJ.mpr (J k i j h1 h2 F2)
  rwa[Of]at this
 have hl:=z.l;have hr:=z.r;have Gp:=z.k;refine xU hk hB ⟨hl.1,∅⟩ ⟨hr.1,∅⟩ ⟨Gp.1,∅⟩ U F hp (λe M' ho _=>(DG z B.2 B.1 ho).elim) λe ix pr M' hF hS Gr hle Gs Gu g=>?_
 refine q _ _ M' ⟨?_,λr Gq=>?_⟩ ∅ g
 ·have:=DF Y hr.1 B.2 hF;rw[B.1]at this;exact this.congr O
 ·refine DE Y hr.1 B.2 hF.pre ?_;rw[B.1];exact Gq.congr J
noncomputable abbrev F3:=Nat->Nat->Nat->Int
variable{u:F3}
theorem SK{L' R' K':Nat}{t:F3}(f g h:Nat->Nat)(hf:∀k,k<K->f k<K')(F:∀i,i<L->g i<L')(J:∀j,j<R->h j<R')(e:∀k i j,k<K->i<L->j<R->t k i j=u (f k) (g i) (h j)):Dc P L' R' K' u r->Dc P L R K t r:=λ⟨l,q,o,hd⟩=>⟨λs i=>l s (g i),λs j=>q s (h j),λs k=>o s (f k),λk i j z hi B=>by rw[e k i j z hi B];exact hd _ _ _ (hf k z) (F i hi) (J j B)⟩
theorem Dc.swap{t:F3}(e:∀k i j,u k j i=t k i j):Dc P L R K t r->Dc P R L K u r:=λ⟨l,q,o,hd⟩=>
 ⟨q,l,o,fun k i j z hi B=>by
  have:=hd k j i z B hi;rw[<-e k j i,bF (h:=λs=>q s i*l s j*o s k) λs _=>by rw[MR (l s j)]]at this
  exact this⟩
theorem Dc.turn{t:F3}(e:∀k i j,u i j k=t k i j):Dc P L R K t r->Dc P R K L u r:=λ⟨l,q,o,hd⟩=>
 ⟨q,o,l,fun i j k hi z B=>by
  have:=hd k i j B hi z;rw[<-e k i j,bF (h:=λs=>q s j*o s k*l s i) λs _=>by rw[LL,MR (l s i)]]at this
  exact this⟩
theorem SO{t:F3}(w:Int)(e:∀k i j,k<K->i<L->j<R->(P:Int) ∣ u k i j-w*t k i j):Dc P L R K t r->Dc P L R K u r:=λ⟨l,q,o,hd⟩=>
 ⟨l,q,fun s k=>w*o s k,fun k i j z hi B=>by
  have a:=IK (b:=w) (hd k i j z hi B);have b:=e k i j z hi B;have:=JH b a;rw[bF (h:=λs=>w*(l s i*q s j*o s k)) λs _=>by rw[Int.mul_left_comm],pj]
  rw[show u k i j-w*t k i j+w*(t k i j-sm r λs=>l s i*q s j*o s k)=u k i j-w*sm r λs=>l s i*q s j*o s k by rw[Oe];lia]at this
  exact this⟩
theorem Dc.lay{a b:Nat}{t:F3}(w:Int)(F2:a<L)(hb:b<L)(e:∀k i j,k<K->i<L->j<R->u k i j=if i=b then t k b j+w*t k a j else t k i j):Dc P L R K t r->Dc P L R K u r:=λ⟨l,q,o,hd⟩=>
 ⟨fun s i=>if i=b then l s b+w*l s a else l s i,q,o,fun k i j B hi F=>by
  rw[e k i j B hi F]
  by_cases z:i=b
  ·rw[if_pos z,bF (h:=λs=>l s b*q s j*o s k+w*(l s a*q s j*o s k)) λs _=>by dsimp only;rw[if_pos z,Oc,Oc,LL w,LL w],vG,pj]
   have x:=hd k b j B hb F;have y:=IK (b:=w) (hd k a j B F2 F);have:=JH x y;rw[Oe]at this;rw[show ∀J O U Y:Int,J+U-(O+Y)=J-O+(U-Y) by intro J O U Y;lia]
   exact this
  ·rw[if_neg z,bF (h:=λs=>l s i*q s j*o s k) λs _=>by dsimp only;rw[if_neg z]]
   exact hd k i j B hi F⟩
theorem Dc.none{t:F3}(e:∀k i j,k<K->i<L->j<R->t k i j=0):Dc P L R K t 0:=⟨λ_ _=>0,λ_ _=>0,λ_ _=>0,λk i j z hi B=>by rw[e k i j z hi B];simp[sm]⟩
theorem SQ{a:Nat}{t:F3}{x y:Nat->Int}(e:∀k i j,k<K->i<L->j<R->u k i j=t k i j+if k=a then x i*y j else 0):Dc P L R K t r->Dc P L R K u (r+1):=λ⟨l,q,o,hd⟩=>
 ⟨fun s i=>if s=r then x i else l s i,fun s j=>if s=r then y j else q s j,fun s k=>if s=r then(if k=a then 1 else 0)else o s k,fun k i j O hi U=>by
  rw[e k i j O hi U,sm];dsimp only;rw[if_pos rfl,if_pos rfl,if_pos rfl,bF (h:=λs=>l s i*q s j*o s k) λs hs=>by rw[if_neg ∅,if_neg ∅,if_neg ∅]]
  have:=hd k i j O hi U
  by_cases z:k=a
  ·rw[if_pos z,if_pos z,Pa,show ∀B F J:Int,B+F-(J+F)=B-J by intro B F J;lia];exact this
  ·rw[if_neg z,if_neg z,Int.mul_zero,Lz,Lz];exact this⟩
theorem gw{f:Tm->Tm}{x y:K3}{w:Int}:∀{ts:List Tm},(∀t∈ts,((f t).1=y↔t.1=x)/\(f t).2=w*t.2)->cf (ts.map f) y=w*cf ts x
 |[],_=>by simp[bU]
 |t::ts,h=>by
  obtain⟨h1,h2⟩:=h t (by simp)
  rw[Ii,aB,aB,gw λu j=>h u (HR _ j),h2,Ob];congr 1
  by_cases e:t.1=x
  ·rw[if_pos e,if_pos (h1.mpr e)]
  ·rw[if_neg e,if_neg λz=>e (h1.mp z),Int.mul_zero]
theorem kF{f:Tm->Tm}{c:Tm->Bool}{x y:K3}:∀{ts:List Tm},(∀t∈ts,c t=N2->((f t).1=y↔t.1=x)/\(f t).2=t.2)->(∀t∈ts,t.1=x->c t=N2)->cf ((ts.filter c).map f) y=cf ts x
 |[],_,_=>by simp[bU]
 |t::ts,h,g=>by
  have ih:=kF (ts:=ts) (λu j=>h u (HR _ j)) λu j=>g u (HR _ j);rw[aB,<-ih]
  cases hc:c t with
  |true=>
   obtain⟨h1,h2⟩:=h t (by simp) hc
   rw[ID hc,Ii,aB,h2];congr 1
   by_cases e:t.1=x
   ·rw[if_pos e,if_pos (h1.mpr e)]
   ·rw[if_neg e,if_neg λz=>e (h1.mp z)]
  |false=>
   rw[IQ (by rw[hc];decide),if_neg λe=>by rw[g t (by simp) e]at hc;cases hc]
   simp
noncomputable abbrev nD(x:Nat):D:=.int ((x:Nat):Int)
theorem bA{p:SS}(h:Box b M)(j:M p=Z):p≠b:=λz=>by obtain⟨x,y,w,e⟩:=h;rw[<-z,j]at e;cases e
theorem pC{n:Nat}(hn:3<=n)(hm:m<=10)(hb:Box b M)(q:∀(σ:List Nat) p M',σ.Perm (HV m)->Bx b M M'->M p=Z->M' p=E (.lst (σ.map nD))->Q (.ref p) M'):phi tab n 26 [.ref b,.int m] M Q:=by
 refine ao ∅ rfl rfl (ρ:=[E _,E _,Z]) rfl ?_
 unfold d26 b26;nofun;refine⟨m,rfl,∅,λp O=>?_⟩
 have npb:=bA hb O;have g1:=Ge.new (o:=.lst ((HV m).map nD)) O;have x1:=(Bx.refl hb).ge g1;have e1:ad M p (.lst ((HV m).map nD)) p=E (.lst ((HV m).map nD)):=aa;show wSs _ _ _ [_,_,_] (ad M p (.lst ((HV m).map nD)));generalize ad M p (.lst ((HV m).map nD))=M1 at x1 e1;clear g1;nofun;refine⟨∅,∅,?_⟩
 refine ah (I:=λl ρ M' acc=>(∃o,ρ=[o,E (.ref p),E (.ref b)])/\Bx b M M'/\∃σ rest:List Nat,acc=σ.map nD/\σ.length=l.length/\(σ++rest).Perm (HV m)/\M' p=E (.lst (rest.map nD))) aK ⟨⟨_,rfl⟩,x1,[],HV m,rfl,rfl,Pt _,e1⟩ (λ_ _ _ _ _=>trivial) ?_ ?_
 ·rintro l x r ρ M2 acc e ⟨⟨o,rfl⟩,B,σ,rest,rfl,J,z,L⟩;have U:=af e;rw[Ic]at U;have hlen:=z.length_eq;rw[hQ,Ic]at hlen;have Y:rest.length+σ.length=m:=by lia
  refine⟨_,rfl,λN hN=>?_⟩;ac_nf;refine⟨⟨_,L⟩,qp L ?_⟩;rw[hG];refine aP ∅ B.box ∅ ∅ λi M3 i0 i1 x3=>?_
  obtain⟨j,hj,F⟩:∃j:Nat,i=(j:Int)/\j<rest.length:=⟨i.toNat,∅,∅⟩
  subst hj;have e3:=x3.keep _ _ npb L;have hg:rest[j]?=E rest[j]:=r4 F;have hx:l.length<HZ:=by rw[z4];lia
  refine⟨p,_,j,nD rest[j],rfl,rfl,e3,by rw[I8,hg];rfl,∅,by rw[hG,J];exact hx,?_⟩
  have en:ad M3 p (.lst ((rest.map nD).eraseIdx j)) p=E (.lst ((rest.eraseIdx j).map nD)):=by rw[aa,J6,J6,HS,Qc,Qb]
  refine hN _ _ _ ⟨⟨_,rfl⟩,(B.trans x3).upd O npb,σ++[rest[j]],rest.eraseIdx j,by rw[HS];rfl,by rw[hQ,hQ,J];rfl,?_,en⟩
  refine Sd.trans ?_ z;rw[IV];refine LN σ ?_;have e9:rest=rest.take j++rest[j]::rest.drop (j+1):=by rw[<-L3 F,JS]
  conv=>rhs;rw[e9]
  rw[J6];show(rest[j]::(rest.take j++rest.drop (j+1))).Perm _;exact QY.symm
 ·rintro ρ M2 acc ⟨⟨o,rfl⟩,B,σ,rest,rfl,J,z,L⟩ p2 hp2;have n2:=bA B.box hp2;have F2:rest=[]:=by
   have hlen:=z.length_eq;rw[hQ,Ic,J,Ic]at hlen;exact Jf.mp ∅
  subst F2;rw[Jt]at z;exact q σ p2 _ z (B.ge (Ge.new hp2)) (B.none hp2 n2) aa
theorem Cg{n:Nat}(hn:1<=n){L:List Tm}{d:SS}(z:(L.map (·.1)).Nodup)(hl:L.length<=63)(hd:M d=E (.dct N2 (L.map kcD)))(q:∀(rs:List Tm) p M',rs.Perm L->Ge M M'->M p=Z->M' p=E (.lst (rs.map tmD))->Q (.ref p) M'):phi tab n 24 [.ref d] M Q:=by
 refine ao ∅ rfl rfl (ρ:=[E _]) rfl ?_
 unfold d24 b24;nofun;refine⟨d,N2,_,.tup [.int,.int,.int],rfl,hd,rfl,λkv O=>?_,by rw[hG];exact hl,λps ys U j B=>?_⟩
 ·obtain⟨t,_,rfl⟩:=HQ.mp O;rfl
 obtain⟨rs,Y,rfl,Gq⟩:=i8 z j B;have J:=Ge.new (o:=.lst (rs.map λt=>k3D t.1)) U;have d7:=J _ _ hd;have F2:=aa (M:=M) (a:=ps) (o:=.lst (rs.map λt=>k3D t.1));generalize ad M ps (.lst (rs.map λt=>k3D t.1))=M7 at J d7 F2⊢;have Gr:rs.length<=63:=by rw[Y.length_eq];exact hl
 refine⟨_,ab F2,?_⟩;refine ah (f:=λt:Tm=>k3D t.1) (ys:=rs) (I:=λl ρ M' acc=>(∃o0,ρ=[o0,E (.ref d)])/\M'=M7/\acc=l.map tmD) rfl ⟨⟨_,rfl⟩,rfl,rfl⟩ (λ_ _ _ _ h=>by rw[h.2.1];exact ab F2) ?_ ?_
 ·rintro l t r ρ M8 acc e ⟨⟨o0,rfl⟩,rfl,rfl⟩;refine⟨_,rfl,λN' Gp=>?_⟩;have Gs:=af e;have ht:t∈L:=Y.mem_iff.mp (by rw[e];simp)
  ac_nf;refine .inr (.inl ⟨N2,_,_,d7,rfl,ee z ht,?_⟩);refine⟨by rw[z4];lia,?_⟩
  unfold k3D;ac_nf;refine⟨.inr trivial,by rw[z4];lia,by rw[hG,z4];lia,Gp _ _ _ ⟨⟨_,rfl⟩,rfl,?_⟩⟩
  rw[HS];rfl
 ·rintro ρ M8 acc ⟨⟨o0,rfl⟩,rfl,rfl⟩ p2 F;refine q rs p2 _ Y (J.trans (Ge.new F)) (bo J F) aa
def Tin(L R K:Nat)(ts:List Tm):Prop:=∀t∈ts,TI' L R K t
theorem put{n:Nat}(hn:1<=n){p0:SS}(hx:M p0=E (.lst (ts.map tmD)))(hl:ts.length<=60)(hT:Tin L R K ts)(q:∀(us:List Tm) p M',(us.map (·.1)).Nodup->Tin L R K us->us.length<=ts.length->(∀k,cf us k=cf ts k)->Ge M M'->M p=Z->M' p=E (.lst (us.map tmD))->Q (.tup [.int L,.int R,.int K,.ref p]) M'):phi tab n 27 [.tup [.int L,.int R,.int K],.ref p0] M Q:=by
 refine ao ∅ rfl rfl (ρ:=[E _,E _,Z,Z,Z,Z,Z,Z]) rfl ?_
 unfold d27 b27;nofun;intro d hd;have g0:=Ge.new (o:=.dct N2 []) hd;nofun;refine⟨_,ab (g0 _ _ hx),?_⟩;refine aI (f:=tmD) (ys:=ts) (I:=λl ρ M'=>∃o3 o4 o5 o6,ρ=[E (.tup [.int L,.int R,.int K]),E (.ref p0),E (.ref d),o3,o4,o5,o6,Z]/\Ge M M'/\M' d=E (.dct N2 ((aL l).map kcD))) rfl ⟨_,_,_,_,rfl,g0,aa⟩ (λl ρ M' J=>(by obtain⟨_,_,_,_,_,g,_⟩:=J;exact ab (g _ _ hx))) ?_ ?_
 ·rintro l t r ρ M1 e ⟨o5,o6,o7,o8,rfl,g1,Y⟩;refine⟨_,rfl,λF hF=>?_⟩;have F2:=af e;have Gp:=fG l;rw[cP];ac_nf;refine⟨⟨_,_,Y⟩,by rw[z4];lia,_,_,Y,rfl,?_⟩
  have ek:D.tup [D.int t.1.1,D.int t.1.2.1,D.int t.1.2.2]=k3D t.1:=rfl;rw[ek,kl];have eg:((Option.map (λp:Tm=>D.int p.2) ((aL l).find? λp=>decide (p.1=t.1))).getD (.int 0))=.int (((((aL l).find? λp=>decide (p.1=t.1)).map (·.2)).getD 0)):=by cases(aL l).find? λp=>decide (p.1=t.1)<;>rfl
  rw[eg];ac_nf;refine⟨by rw[z4];lia,ox Y rfl (by rw[hG,z4];lia) ?_⟩
  rw[qr (cK l)];refine hF _ _ ⟨_,_,_,_,rfl,g1.upd hd,?_⟩;rw[aa,cD]
 ·rintro ρ M1 ⟨o5,o6,o7,o8,rfl,g1,Y⟩;have z:=cK ts;have Gp:=fG ts;nofun;refine⟨d,N2,_,.tup [.int,.int,.int],rfl,Y,rfl,λkv Gw=>?_,by rw[hG];lia,λps ys Gx O Gq=>?_⟩
  ·obtain⟨t,_,rfl⟩:=HQ.mp Gw;rfl
  obtain⟨rs,hp,rfl,Gy⟩:=i8 z O Gq;have g7:=Ge.new (o:=.lst (rs.map λt=>k3D t.1)) Gx;have d7:=g7 _ _ Y;have s7:=aa (M:=M1) (a:=ps) (o:=.lst (rs.map λt=>k3D t.1));replace g7:=g1.trans g7;generalize ad M1 ps (.lst (rs.map λt=>k3D t.1))=M7 at g7 d7 s7⊢;have Gz:rs.length<=ts.length:=by rw[hp.length_eq];exact Gp
  refine⟨_,ab s7,?_⟩;refine ah (f:=λt:Tm=>k3D t.1) (ys:=rs) (I:=λl ρ M' acc=>(∃o0,ρ=[o0,E (.ref d)])/\M'=M7/\acc=(l.filter λt=>!(t.2==0)).map λt=>k3D t.1) rfl ⟨⟨_,rfl⟩,rfl,rfl⟩ (λ_ _ _ _ h=>by rw[h.2.1];exact ab s7) ?_ ?_
  ·rintro l t r ρ M8 acc e ⟨⟨o0,rfl⟩,rfl,rfl⟩;refine⟨_,rfl,λN' B=>?_⟩;have F2:=af e;have Gr:(l.filter λt=>!(t.2==0)).length<=l.length:=II _ _;have ht:t∈aL ts:=hp.mem_iff.mp (by rw[e];simp)
   ac_nf;refine .inr (.inl ⟨N2,_,_,d7,rfl,ee z ht,?_⟩);ac_nf
   by_cases hz:t.2=0
   ·rw[if_neg (by simp[hz])]
    exact B _ _ _ ⟨⟨_,rfl⟩,rfl,by simp[IP,hz]⟩
   ·rw[if_pos (by simp[hz])]
    refine⟨by rw[hG,z4];lia,B _ _ _ ⟨⟨_,rfl⟩,rfl,?_⟩⟩
    simp[IP,hz]
  ·rintro ρ M8 acc ⟨⟨o0,rfl⟩,rfl,rfl⟩ p2 hp2;have J:=Ge.new (o:=.lst ((rs.filter λt=>!(t.2==0)).map λt=>k3D t.1)) hp2;have d9:=J _ _ d7;have s9:=aa (M:=M8) (a:=p2) (o:=.lst ((rs.filter λt=>!(t.2==0)).map λt=>k3D t.1));replace J:=g7.trans J;generalize ad M8 p2 (.lst ((rs.filter λt=>!(t.2==0)).map λt=>k3D t.1))=M9 at J d9 s9;have Gr:(rs.filter λt=>!(t.2==0)).length<=rs.length:=II _ _;have U:∀t∈rs.filter λt=>!(t.2==0),t∈aL ts:=λt ht=>hp.mem_iff.mp (Iq.mp ht).1;have Gs:((rs.filter λt=>!(t.2==0)).map (·.1)).Nodup:=((hp.map (·.1)).nodup_iff.mpr z).sublist (Rc _ Nw);have Gu:∀k,cf (rs.filter λt=>!(t.2==0)) k=cf ts k:=λk=>by rw[yq,A2 hp,qt]
   generalize (rs.filter λt=>!(t.2==0))=us at Gr U Gs Gu s9;nofun;refine⟨_,_,rfl,rfl,_,ab s9,?_⟩;refine ah (f:=λt:Tm=>k3D t.1) (ys:=us) (I:=λl ρ M' acc=>(∃o0,ρ=[o0,E (.ref d)])/\M'=M9/\acc=l.map tmD) rfl ⟨⟨_,rfl⟩,rfl,rfl⟩ (λ_ _ _ _ h=>by rw[h.2.1];exact ab s9) ?_ ?_
   ·rintro l t r ρ M8 acc e ⟨⟨o0,rfl⟩,rfl,rfl⟩;refine⟨_,rfl,λN' B=>?_⟩;have F2:=af e;have ht:t∈aL ts:=U t (by rw[e];simp)
    ac_nf;refine .inr (.inl ⟨N2,_,_,d9,rfl,ee z ht,?_⟩);refine⟨by rw[z4];lia,?_⟩
    unfold k3D;ac_nf;refine⟨.inr trivial,by rw[z4];lia,by rw[hG,z4];lia,B _ _ _ ⟨⟨_,rfl⟩,rfl,?_⟩⟩
    rw[HS];rfl
   ·rintro ρ M10 acc ⟨⟨o0,rfl⟩,rfl,rfl⟩ p3 Gv;ac_nf;refine⟨by rw[z4];lia,.inr trivial,by rw[z4];simp,?_⟩
    refine q us p3 _ Gs (λu hu=>?_) ∅ Gu (J.trans (Ge.new Gv)) (bo J Gv) aa
    obtain⟨v,hv,e⟩:=HQ.mp (xJ ts u.1 (Iz (U u hu)));have:=hT v hv;exact⟨e▸this.k,e▸this.i,e▸this.j⟩
structure Bz(P L R K:Nat):Prop where
 p:P=2∨P=3
 k:1<=K
 s:(L=2/\R=2/\K<=3)∨(L=2/\R=3/\K=1)∨(L=3/\R=2/\K=1)∨(L=1/\R=3/\K<=2)∨(L=3/\R=1/\K<=2)∨(L=2/\R=1/\K<=2)∨(L=1/\R=2/\K<=2)
theorem Bz.self(h:Bz P L R K):Sz P L R K:=by obtain⟨j,z,hs⟩:=h;exact⟨j,by omega,by omega,by omega,by omega⟩
theorem Bz.swap(h:Bz P L R K):Sz P R L K:=by obtain⟨j,z,hs⟩:=h;exact⟨j,by omega,by omega,by omega,by omega⟩
theorem Bz.turn(h:Bz P L R K):Sz P R K L:=by obtain⟨j,z,hs⟩:=h;exact⟨j,by omega,by omega,by omega,by omega⟩
theorem Bz.more(h:Bz P L R K):Sz P L R (K+1):=by obtain⟨j,z,hs⟩:=h;exact⟨j,by omega,by omega,by omega,by omega⟩
structure Ot(P L R K:Nat)(t:F3)(a:SS)(M:Mem)(d:D):Prop where
 ex:∃(L' R' K':Nat) (us:List Tm) (p:SS),d=.tup [.int L',.int R',.int K',.ref p]/\M p=E (.lst (us.map tmD))/\p≠a/\(us.map (·.1)).Nodup/\Tin L' R' K' us/\Sz P L' R' K'/\∀r,Dc P L R K t r↔Dc P L' R' K' (tk us) r
variable{d:D}
theorem Ot.ge{t:F3}(h:Ot P L R K t a M d)(g:∀x o,x≠a->M x=E o->M' x=E o):Ot P L R K t a M' d:=by obtain⟨L',R',K',us,p,h1,h2,j,z⟩:=h.ex;exact⟨L',R',K',us,p,h1,g _ _ j h2,j,z⟩
variable{us:List Tm}
theorem eJ{p:SS}(j:Box b M)(h:M p=E (.lst (us.map tmD))):p≠b:=λz=>by
 obtain⟨x,y,w,e⟩:=j;rw[z,e]at h
 cases us with
 |nil=>simp at h
 |cons u r=>simp[tmD]at h
theorem Ot.bx{t:F3}(h:Ot P L R K t a M d)(j:Box b M)(x:Bx b M M'):Ot P L R K t a M' d:=by obtain⟨L',R',K',us,p,h1,h2,z,B⟩:=h.ex;exact⟨L',R',K',us,p,h1,x.keep _ _ (eJ j h2) h2,z,B⟩
theorem dG{σ:List Nat}(h:σ.Perm (HV m)):σ.length=m/\(∀i,i<m->σ.getD i 0<m)/\(∀i j,i<m->j<m->σ.getD i 0=σ.getD j 0->i=j)/\∀x,x<m->σ.idxOf x<m/\σ.getD (σ.idxOf x) 0=x:=by
 have B:σ.length=m:=by rw[h.length_eq,Ic]
 have F:σ.Nodup:=h.nodup_iff.mpr R8;have z:∀i (hi:i<m),σ.getD i 0=σ[i]'(by omega):=λi hi=>by rw[HY,r4 (by omega)];rfl
 refine⟨B,λi hi=>?_,λi j hi J e=>?_,λx hx=>?_⟩
 ·rw[z i hi];exact Io.mp (h.mem_iff.mp (JO _))
 ·rw[z i hi,z j J]at e;exact vj F (by omega) (by omega) e
 ·have hm:x∈σ:=h.mem_iff.mpr (Io.mpr hx);have hi:=List.idxOf_lt_length_of_mem hm;refine⟨by omega,?_⟩
  rw[z _ (by omega)];exact List.getElem_idxOf _
noncomputable def sg(σ:List Nat)(i:Int):Int:=((σ.getD i.toNat 0:Nat):Int)
theorem sP{σ:List Nat}{i:Int}(h0:0<=i)(h1:i<σ.length):atI (σ.map nD) i=E (.int (sg σ i)):=by
 obtain⟨x,j,z⟩:=iB (xs:=σ.map nD) h0 (by rw[hG];exact h1)
 rw[j,<-z,I8];unfold sg;rw[HY,r4 (by omega)];rfl
noncomputable def mv1(σ1 σ2 σ3:List Nat)(t:Tm):Tm:=((sg σ3 t.1.1,sg σ1 t.1.2.1,sg σ2 t.1.2.2),t.2)
noncomputable def mv2(t:Tm):Tm:=((t.1.1,t.1.2.2,t.1.2.1),t.2)
noncomputable def mv3(t:Tm):Tm:=((t.1.2.1,t.1.2.2,t.1.1),t.2)
noncomputable def mv4(K:Nat)(t:Tm):Tm:=((((K:Nat):Int),t.1.2.1,t.1.2.2),t.2)
noncomputable def mv5(w:Int)(t:Tm):Tm:=(t.1,t.2*w)
noncomputable def mv6(b:Int)(t:Tm):Tm:=((t.1.1,b,t.1.2.2),t.2)
theorem Ch{σ1 σ2 σ3:List Nat}(h1:σ1.Perm (HV L))(h2:σ2.Perm (HV R))(j:σ3.Perm (HV K))(z:Tin L R K ts):Tin L R K (ts.map (mv1 σ1 σ2 σ3)):=λu B=>by
 obtain⟨t,F,rfl⟩:=HQ.mp B;obtain⟨J,hi,O⟩:=z t F;have a1:=(dG h1).2.1 t.1.2.1.toNat (by omega)
 have a2:=(dG h2).2.1 t.1.2.2.toNat (by omega)
 have U:=(dG j).2.1 t.1.1.toNat (by omega)
 exact⟨⟨Mk _,by show sg σ3 _<_;unfold sg;omega⟩,⟨Mk _,by show sg σ1 _<_;unfold sg;omega⟩,⟨Mk _,by show sg σ2 _<_;unfold sg;omega⟩⟩
theorem Aj{σ1 σ2 σ3:List Nat}(h1:σ1.Perm (HV L))(h2:σ2.Perm (HV R))(U:σ3.Perm (HV K))(Y:Tin L R K ts)(F2:∀k,cf us k=cf (ts.map (mv1 σ1 σ2 σ3)) k)(r:Nat):Dc P L R K (tk ts) r↔Dc P L R K (tk us) r:=by
 obtain⟨l1,a1,b1,F⟩:=dG h1;obtain⟨l2,a2,b2,J⟩:=dG h2;obtain⟨l3,a3,b3,O⟩:=dG U;have key:∀k i j,k<K->i<L->j<R->tk ts k i j=tk us (σ3.getD k 0) (σ1.getD i 0) (σ2.getD j 0):=λk i j z hi B=>by
  unfold tk;rw[F2,gw (f:=mv1 σ1 σ2 σ3) (x:=((k:Int),(i:Int),(j:Int))) (w:=1) λt ht=>⟨?_,(La _).symm⟩,La];obtain⟨⟨k0,k1⟩,⟨i0,i1⟩,⟨j0,j1⟩⟩:=Y t ht;unfold mv1 sg;constructor
  ·intro e;have e':=Oh.inj e;have e'':=Oh.inj e'.2;have x1:=b3 t.1.1.toNat k (by omega) z (by omega)
   have x2:=b1 t.1.2.1.toNat i (by omega) hi (by omega)
   have x3:=b2 t.1.2.2.toNat j (by omega) B (by omega)
   exact Ou (by show t.1.1=(k:Int);omega) (Ou (by show t.1.2.1=(i:Int);omega) (by show t.1.2.2=(j:Int);omega))
  ·intro e;rw[e];simp
 constructor
 ·exact SK (fun k=>σ3.idxOf k) (fun i=>σ1.idxOf i) (fun j=>σ2.idxOf j) (fun k z=>(O k z).1) (fun i hi=>(F i hi).1) (fun j B=>(J j B).1) fun k i j z hi B=>by rw[key _ _ _ (O k z).1 (F i hi).1 (J j B).1,(O k z).2,(F i hi).2,(J j B).2]
 ·exact SK (λk=>σ3.getD k 0) (λi=>σ1.getD i 0) (λj=>σ2.getD j 0) a3 a1 a2 key
theorem Ak(B:∀k,cf us k=cf (ts.map mv2) k)(r:Nat):Dc P L R K (tk ts) r↔Dc P R L K (tk us) r:=by
 have key:∀k i j,tk us k j i=tk ts k i j:=λk i j=>by unfold tk;rw[B,gw (f:=mv2) (x:=((k:Int),(i:Int),(j:Int))) (w:=1) λt F=>⟨?_,(La _).symm⟩,La];obtain⟨⟨x,y,z⟩,c⟩:=t;simp only[mv2,Na];exact⟨λ⟨a,b,c⟩=>⟨a,c,b⟩,λ⟨a,b,c⟩=>⟨a,c,b⟩⟩
 exact⟨Dc.swap key,Dc.swap λk i j=>(key k j i).symm⟩
theorem Al(B:∀k,cf us k=cf (ts.map mv3) k)(r:Nat):Dc P L R K (tk ts) r↔Dc P R K L (tk us) r:=by
 have key:∀k i j,tk us i j k=tk ts k i j:=λk i j=>by unfold tk;rw[B,gw (f:=mv3) (x:=((k:Int),(i:Int),(j:Int))) (w:=1) λt F=>⟨?_,(La _).symm⟩,La];obtain⟨⟨x,y,z⟩,c⟩:=t;simp only[mv3,Na];exact⟨λ⟨a,b,c⟩=>⟨c,a,b⟩,λ⟨a,b,c⟩=>⟨b,c,a⟩⟩
 refine⟨Dc.turn key,λh=>?_⟩;have h2:=Dc.turn (u:=λi j k=>tk us k i j) (λk i j=>rfl) h;exact Dc.turn (t:=λi j k=>tk us k i j) (λk i j=>(key i j k).symm) h2
theorem Am{w:Nat}(hw:w<K)(Y:Tin L R K ts)(O:∀k,cf us k=cf (ts++(ts.filter λt=>t.1.1==((w:Nat):Int)).map (mv4 K)) k)(r:Nat):Dc P L R K (tk ts) r↔Dc P L R (K+1) (tk us) r:=by
 have U:∀k i j,k<K->tk us k i j=tk ts k i j:=λk i j B=>by unfold tk;rw[O,aQ,cQ (ts:=(ts.filter _).map _) λt F e=>?_,Lz];obtain⟨u,_,rfl⟩:=HQ.mp F;have:((K:Nat):Int)=k:=(Oh.inj e).1;omega
 have F2:∀i j,tk us K i j=tk ts w i j:=λi j=>by
  unfold tk;rw[O,aQ,cQ (ts:=ts) λt F e=>?_,NF,kF (f:=mv4 K) (x:=(((w:Nat):Int),(i:Int),(j:Int))) (λt F J=>⟨?_,rfl⟩) λt F e=>by rw[e];simp]
  ·obtain⟨⟨x,y,z⟩,c⟩:=t;have hx:x=(w:Int):=by simpa using J
   simp only[mv4,Na,true_and];exact⟨λ⟨a,b⟩=>⟨hx,a,b⟩,λ⟨_,a,b⟩=>⟨a,b⟩⟩
  ·have:=(Y t F).k.2;rw[e]at this;omega
 constructor
 ·exact SK (fun k=>if k=K then w else k) id id (fun k B=>by show(if k=K then w else k)<K;split<;>omega) (fun _ h=>h) (fun _ h=>h) fun k i j B hi hj=>by
   by_cases e:k=K
   ·subst e;rw[if_pos rfl];exact F2 i j
   ·rw[if_neg e];exact U k i j (by omega)
 ·exact SK id id id (λk B=>by show k<K+1;omega) (λ_ h=>h) (λ_ h=>h) λk i j B hi hj=>(U k i j B).symm
theorem vH{P:Int}:∀{es:List Tm},(∀e∈es,e.2=P)->∀k,P ∣ cf es k
 |[],_,k=>by rw[bU];exact J7 _
 |e::es,h,k=>by
  rw[aB];refine JH ?_ (vH (λx hx=>h x (HR _ hx)) k)
  split
  ·rw[h e (by simp)];exact Int.dvd_refl _
  ·exact J7 _
theorem An{w:Int}(hw:w*w=1){es:List Tm}(he:∀e∈es,e.2=(P:Int))(z:∀k,cf us k=cf (ts.map (mv5 w)++es) k)(r:Nat):Dc P L R K (tk ts) r↔Dc P L R K (tk us) r:=by
 have key:∀k i j,(P:Int) ∣ tk us k i j-w*tk ts k i j:=λk i j=>by
  unfold tk;rw[z,aQ,gw (f:=mv5 w) (x:=((k:Int),(i:Int),(j:Int))) (w:=w) λt B=>⟨OQ,MR _ _⟩];rw[show ∀a b:Int,a+b-a=b by intro a b;omega]
  exact vH he _
 refine⟨SO w λk i j _ _ _=>key k i j,SO w λk i j _ _ _=>?_⟩;have:=KJ.mpr (IK (b:=w) (key k i j));rw[Oe,<-LL,hw,La,Of]at this;exact this
theorem Ci{a b:Nat}(O:a<L)(U:b<L)(B:a≠b)(Y:∀k,cf us k=cf (ts++(ts.filter λt=>t.1.2.1==((a:Nat):Int)).map (mv6 b)) k)(r:Nat):Dc P L R K (tk ts) r↔Dc P L R K (tk us) r:=by
 have key:∀k i j,tk us k i j=if i=b then tk ts k b j+tk ts k a j else tk ts k i j:=λk i j=>by
  unfold tk;rw[Y,aQ]
  by_cases e:i=b
  ·subst e;rw[if_pos rfl,kF (f:=mv6 ((i:Nat):Int)) (x:=((k:Int),((a:Nat):Int),(j:Int))) (λt F J=>⟨?_,rfl⟩) λt F e=>by rw[e];simp]
   obtain⟨⟨x,y,z⟩,c⟩:=t;have F2:y=(a:Int):=by simpa using J
   simp only[mv6,Na,true_and];exact⟨λ⟨p,q⟩=>⟨p,F2,q⟩,λ⟨p,_,q⟩=>⟨p,q⟩⟩
  ·rw[if_neg e,cQ (ts:=(ts.filter _).map _) λt F z=>?_,Lz];obtain⟨u,_,rfl⟩:=HQ.mp F;have:((b:Nat):Int)=i:=(Oh.inj (Oh.inj z).2).1;omega
 refine⟨Dc.lay (a:=a) (b:=b) 1 O U λk i j _ _ _=>by rw[key,La],Dc.lay (a:=a) (b:=b) (-1) O U λk i j _ _ _=>?_⟩
 rw[key,key,if_pos rfl,if_neg B,key]
 by_cases e:i=b
 ·subst e;rw[if_pos rfl];omega
 ·rw[if_neg e,if_neg e]
structure OS(b p0 a:SS)(P L R K:Nat)(ts:List Tm)(M0:Mem)(ds:List D)(M:Mem):Prop where
 fx:Bx b M0 M
 fe:M p0=E (.lst (ts.map tmD))
 fa:M a=E (.lst ds)
 fo:∀d∈ds,Ot P L R K (tk ts) a M d
theorem OS.ge{j:SS}{z:Mem}(h:OS b j a P L R K ts z ds M)(g:Ge M M'):OS b j a P L R K ts z ds M':=⟨h.fx.ge g,g _ _ h.fe,g _ _ h.fa,λd hd=>(h.fo d hd).ge λx o _ e=>g _ _ e⟩
theorem OS.bx{j:SS}{z:Mem}(h:OS b j a P L R K ts z ds M)(B:j≠b)(na:a≠b)(x:Bx b M M'):OS b j a P L R K ts z ds M':=⟨h.fx.trans x,x.keep _ _ B h.fe,x.keep _ _ na h.fa,λd hd=>(h.fo d hd).bx h.fx.box x⟩
theorem OS.app{j:SS}{B:Mem}(h:OS b j a P L R K ts B ds M)(J:B a=Z)(na:a≠b)(npa:j≠a)(hd:Ot P L R K (tk ts) a M d):OS b j a P L R K ts B (ds++[d]) (ad M a (.lst (ds++[d]))):=
 ⟨h.fx.upd J na,by rw[ax npa];exact h.fe,aa,fun d' F=>by
  have k:∀x o,x≠a->M x=E o->ad M a (.lst (ds++[d])) x=E o:=λx o ne e=>by rw[ax ne];exact e
  rcases Ie.mp F with z|z
  ·exact(h.fo d' z).ge k
  ·rw[Im.mp z];exact hd.ge k⟩
theorem Cj{n:Nat}(hn:5<=n)(hz:Bz P L R K){p0:SS}(hb:Box b M)(hx:M p0=E (.lst (ts.map tmD)))(hl:ts.length<=20)(hT:Tin L R K ts)(Hg:(ts.map (·.1)).Nodup)(q:∀ds p M',(∀d∈ds,Ot P L R K (tk ts) p M' d)->ds.length<=20->Bx b M M'->M p=Z->M' p=E (.lst ds)->Q (.ref p) M'):phi tab n 28 [.ref b,.tup [.int L,.int R,.int K,.ref p0],.int P] M Q:=by
 refine ao ∅ rfl rfl (ρ:=[E _,E _,E _,Z,Z,Z,Z,Z,Z,Z,Z,Z,Z,Z,Z,Z,Z,Z,Z]) rfl ?_
 unfold d28 b28;have sz:=hz.self;have Hh:=sz.l;have Hi:=sz.r;have Hj:=sz.k;have n0:=eJ hb hx;nofun;nofun;refine pC ∅ ∅ hb λσ1 a1 M1 p1 x1 f1 e1=>?_
 have GM:=bA hb f1;nofun;refine pC ∅ ∅ x1.box λσ2 a2 M2 p2 x2 f2 e2=>?_
 have GW:=bA x1.box f2;replace e1:=x2.keep _ _ GM e1;replace x2:=x1.trans x2;nofun;refine pC ∅ ∅ x2.box λσ3 a3 M3 p3 x3 f3 e3=>?_
 have Hk:=bA x2.box f3;replace e1:=x3.keep _ _ GM e1;replace e2:=x3.keep _ _ GW e2;replace x3:=x2.trans x3;clear x1 x2 f1 f2 f3;have e0:=x3.keep _ _ n0 hx;obtain⟨q1,_⟩:=dG p1;obtain⟨q2,_⟩:=dG p2;obtain⟨q3,_⟩:=dG p3;nofun;refine⟨_,ab e0,?_⟩;refine ah (f:=tmD) (ys:=ts) (I:=λl ρ M' acc=>(∃o0 o1 o2 o3,ρ=[o0,o1,o2,o3,E (.ref a3),E (.ref a1),E (.ref a2)])/\M'=M3/\acc=(l.map (mv1 σ1 σ2 σ3)).map tmD) rfl ⟨⟨_,_,_,_,rfl⟩,rfl,rfl⟩ (λ_ _ _ _ h=>by rw[h.2.1];exact ab e0) ?_ ?_
 ·rintro l t r ρ M' acc e ⟨⟨o0,o1,o2,o3,rfl⟩,rfl,rfl⟩;have Gp:=af e;obtain⟨hk,hi,hj⟩:=hT t (by rw[e];simp)
  refine⟨_,rfl,λN hN=>?_⟩;ac_nf;refine av e3 (sP hk.1 (by omega)) (av e1 (sP hi.1 (by omega)) (av e2 (sP hj.1 (by omega)) ⟨by rw[z4];first|decide|omega,by rw[hG,hG,z4];omega,hN _ _ _ ⟨⟨_,_,_,_,rfl⟩,rfl,?_⟩⟩))
  rw[HS,HS];rfl
 rintro ρ M' acc ⟨_,rfl,rfl⟩ a4 ha4;have g4:=Ge.new (o:=.lst ((ts.map (mv1 σ1 σ2 σ3)).map tmD)) ha4;have x4:=x3.ge g4;have e4:ad M' a4 (.lst ((ts.map (mv1 σ1 σ2 σ3)).map tmD)) a4=E (.lst ((ts.map (mv1 σ1 σ2 σ3)).map tmD)):=aa;replace e0:=g4 _ _ e0;generalize ad M' a4 (.lst ((ts.map (mv1 σ1 σ2 σ3)).map tmD))=M4 at x4 e4 e0;clear g4 ha4 e1 e2 e3 x3;have tl:ts.length<=20:=hl;nofun;refine⟨by rw[z4];first|decide|omega,?_⟩
 refine put (by omega) e4 (by rw[hG];omega) (Ch p1 p2 p3 hT) λu1 b1 M5 J O U B g5 f5 e5=>?_
 refine⟨by rw[z4];first|decide|omega,λa ha=>?_⟩
 have na:a≠b:=bA (x4.ge g5).box ha;have nfa:M a=Z:=(x4.ge g5).none ha na;have g6:=Ge.new (o:=.lst [.tup [.int (L:Nat),.int (R:Nat),.int (K:Nat),.ref b1]]) ha;have npa:p0≠a:=λz=>by rw[z]at hx;rw[nfa]at hx;cases hx
 have O1:OS b p0 a P L R K ts M [.tup [.int (L:Nat),.int (R:Nat),.int (K:Nat),.ref b1]] (ad M5 a (.lst [.tup [.int (L:Nat),.int (R:Nat),.int (K:Nat),.ref b1]])):=
  ⟨(x4.ge g5).ge g6,g6 _ _ (g5 _ _ e0),aa,fun d hd=>by rw[Im.mp hd];exact⟨L,R,K,u1,b1,rfl,g6 _ _ e5,λz=>(by rw[z,ha]at e5;cases e5),J,O,sz,λr=>Aj p1 p2 p3 hT B r⟩⟩
 generalize ad M5 a (.lst [.tup [.int (L:Nat),.int (R:Nat),.int (K:Nat),.ref b1]])=M6 at O1;obtain⟨ds,O1,Y⟩:∃ds,OS b p0 a P L R K ts M ds M6/\ds.length=1:=⟨_,O1,rfl⟩;clear g6 ha e5 g5 f5 x4 e4 e0 J O U B q1 q2 q3 p1 p2 p3;nofun;refine⟨_,ab O1.fe,?_⟩;refine ah (f:=tmD) (ys:=ts) (I:=λl ρ M' acc=>(∃o0 o1 o2 o3,ρ=[o0,o1,o2,o3])/\M'=M6/\acc=(l.map mv2).map tmD) rfl ⟨⟨_,_,_,_,rfl⟩,rfl,rfl⟩ (λ_ _ _ _ h=>by rw[h.2.1];exact ab O1.fe) ?_ ?_
 ·rintro l t r ρ M' acc e ⟨⟨o0,o1,o2,o3,rfl⟩,rfl,rfl⟩;have Gp:=af e;refine⟨_,rfl,λN hN=>?_⟩;ac_nf;refine⟨by rw[z4];first|decide|omega,by rw[hG,hG,z4];omega,hN _ _ _ ⟨⟨_,_,_,_,rfl⟩,rfl,?_⟩⟩
  rw[HS,HS];rfl
 rintro ρ M' acc ⟨_,rfl,rfl⟩ a4 ha4;have O2:=O1.ge (Ge.new (o:=.lst ((ts.map mv2).map tmD)) ha4);have e4:ad M' a4 (.lst ((ts.map mv2).map tmD)) a4=E (.lst ((ts.map mv2).map tmD)):=aa;generalize ad M' a4 (.lst ((ts.map mv2).map tmD))=M7 at O2 e4;clear O1 ha4;nofun;refine⟨⟨_,O2.fa⟩,by rw[z4];first|decide|omega,?_⟩
 refine put (by omega) e4 (by rw[hG];omega) (λu hu=>by obtain⟨t,ht,rfl⟩:=HQ.mp hu;exact⟨(hT t ht).k,(hT t ht).j,(hT t ht).i⟩) λu1 b1 M8 J O U B g5 f5 e5=>?_
 have O3:=O2.ge g5;refine⟨_,_,_,rfl,rfl,O3.fa,by rw[z4];first|decide|omega,?_⟩
 replace O3:=O3.app nfa na npa (d:=.tup [.int (R:Nat),.int (L:Nat),.int (K:Nat),.ref b1]) ⟨R,L,K,u1,b1,rfl,e5,λz=>(by rw[z,O2.fa]at f5;cases f5),J,O,hz.swap,λr=>Ak B r⟩
 generalize ad M8 a (.lst (ds++[.tup [.int (R:Nat),.int (L:Nat),.int (K:Nat),.ref b1]]))=M9 at O3⊢;obtain⟨ds,O3,Y⟩:∃ds,OS b p0 a P L R K ts M ds M9/\ds.length=2:=⟨_,O3,by rw[hQ,Y];rfl⟩
 clear e5 g5 f5 e4 O2 J O U B;ac_nf;nofun;refine⟨_,ab O3.fe,?_⟩;refine ah (f:=tmD) (ys:=ts) (I:=λl ρ M' acc=>(∃o0 o1 o2 o3,ρ=[o0,o1,o2,o3])/\M'=M9/\acc=(l.map mv3).map tmD) rfl ⟨⟨_,_,_,_,rfl⟩,rfl,rfl⟩ (λ_ _ _ _ h=>by rw[h.2.1];exact ab O3.fe) ?_ ?_
 ·rintro l t r ρ M' acc e ⟨⟨o0,o1,o2,o3,rfl⟩,rfl,rfl⟩;have Gp:=af e;refine⟨_,rfl,λN hN=>?_⟩;ac_nf;refine⟨by rw[z4];first|decide|omega,by rw[hG,hG,z4];omega,hN _ _ _ ⟨⟨_,_,_,_,rfl⟩,rfl,?_⟩⟩
  rw[HS,HS];rfl
 rintro ρ M' acc ⟨_,rfl,rfl⟩ a4 ha4;have O4:=O3.ge (Ge.new (o:=.lst ((ts.map mv3).map tmD)) ha4);have e4:ad M' a4 (.lst ((ts.map mv3).map tmD)) a4=E (.lst ((ts.map mv3).map tmD)):=aa;generalize ad M' a4 (.lst ((ts.map mv3).map tmD))=M10 at O4 e4;clear O3 ha4;nofun;refine⟨⟨_,O4.fa⟩,by rw[z4];first|decide|omega,?_⟩
 refine put (by omega) e4 (by rw[hG];omega) (λu hu=>by obtain⟨t,ht,rfl⟩:=HQ.mp hu;exact⟨(hT t ht).i,(hT t ht).j,(hT t ht).k⟩) λu1 b1 GX J O U B g5 f5 e5=>?_
 have O5:=O4.ge g5;refine⟨_,_,_,rfl,rfl,O5.fa,by rw[z4];first|decide|omega,?_⟩
 replace O5:=O5.app nfa na npa (d:=.tup [.int (R:Nat),.int (K:Nat),.int (L:Nat),.ref b1]) ⟨R,K,L,u1,b1,rfl,e5,λz=>(by rw[z,O4.fa]at f5;cases f5),J,O,hz.turn,λr=>Al B r⟩
 generalize ad GX a (.lst (ds++[.tup [.int (R:Nat),.int (K:Nat),.int (L:Nat),.ref b1]]))=GY at O5⊢;obtain⟨ds,O5,Y⟩:∃ds,OS b p0 a P L R K ts M ds GY/\ds.length=3:=⟨_,O5,by rw[hQ,Y];rfl⟩
 clear e5 g5 f5 e4 O4 J O U B;ac_nf;nofun;refine aP (by omega) O5.fx.box (by omega) (by omega) λw GZ w0 w1 GN=>?_
 obtain⟨w,rfl⟩:∃v:Nat,w=(v:Int):=⟨w.toNat,by omega⟩
 have O6:=O5.bx n0 na GN;clear O5 GN;nofun;refine⟨_,ab O6.fe,?_⟩;refine ah (f:=tmD) (ys:=ts) (I:=λl ρ M' acc=>(∃o0 o1 o2 o3,ρ=[o0,o1,o2,o3,E (.int (K:Nat)),E (.int (w:Nat))])/\M'=GZ/\acc=((l.filter λt=>t.1.1==((w:Nat):Int)).map (mv4 K)).map tmD) rfl ⟨⟨_,_,_,_,rfl⟩,rfl,rfl⟩ (λ_ _ _ _ h=>by rw[h.2.1];exact ab O6.fe) ?_ ?_
 ·rintro l t r ρ M' acc e ⟨⟨o0,o1,o2,o3,rfl⟩,rfl,rfl⟩;have Gp:=af e;refine⟨_,rfl,λN hN=>?_⟩;have Gy:(l.filter λt=>t.1.1==((w:Nat):Int)).length<=l.length:=II _ _;ac_nf
  split
  ·next hw=>
   refine⟨by rw[z4];first|decide|omega,by rw[hG,hG,z4];omega,hN _ _ _ ⟨⟨_,_,_,_,rfl⟩,rfl,?_⟩⟩
   rw[IP,ID (by exact hw),HS,HS];rfl
  ·next hw=>refine hN _ _ _ ⟨⟨_,_,_,_,rfl⟩,rfl,?_⟩;rw[IP,IQ (by exact hw)];simp
 rintro ρ M' acc ⟨_,rfl,rfl⟩ a4 ha4;have O7:=O6.ge (Ge.new (o:=.lst (((ts.filter λt=>t.1.1==((w:Nat):Int)).map (mv4 K)).map tmD)) ha4);have e4:ad M' a4 (.lst (((ts.filter λt=>t.1.1==((w:Nat):Int)).map (mv4 K)).map tmD)) a4=E (.lst (((ts.filter λt=>t.1.1==((w:Nat):Int)).map (mv4 K)).map tmD)):=aa;generalize ad M' a4 (.lst (((ts.filter λt=>t.1.1==((w:Nat):Int)).map (mv4 K)).map tmD))=GO at O7 e4;clear O6 ha4;have Gy:(ts.filter λt=>t.1.1==((w:Nat):Int)).length<=ts.length:=II _ _;nofun;refine⟨⟨_,O7.fa⟩,by rw[z4];first|decide|omega,?_⟩
 rw[uQ];refine⟨_,_,O7.fe,e4,by rw[hG,hG,hG,z4];omega,λa5 Gq=>?_⟩
 rw[<-HS];have O8:=O7.ge (Ge.new (o:=.lst ((ts++(ts.filter λt=>t.1.1==((w:Nat):Int)).map (mv4 K)).map tmD)) Gq);have e5:ad GO a5 (.lst ((ts++(ts.filter λt=>t.1.1==((w:Nat):Int)).map (mv4 K)).map tmD)) a5=E (.lst ((ts++(ts.filter λt=>t.1.1==((w:Nat):Int)).map (mv4 K)).map tmD)):=aa;generalize ad GO a5 (.lst ((ts++(ts.filter λt=>t.1.1==((w:Nat):Int)).map (mv4 K)).map tmD))=M15 at O8 e5⊢;have eK:((K:Nat):Int)+1=((K+1:Nat):Int):=by omega
 rw[eK];refine put (by omega) e5 (by rw[hQ,hG];omega) (λu hu=>by
  rcases Ie.mp hu with h|h
  ·obtain⟨hk,hi,hj⟩:=hT u h;exact⟨⟨hk.1,by omega⟩,hi,hj⟩
  ·obtain⟨t,ht,rfl⟩:=HQ.mp h;obtain⟨hk,hi,hj⟩:=hT t (Iq.mp ht).1;exact⟨⟨by show(0:Int)<=((K:Nat):Int);omega,by show((K:Nat):Int)<_;omega⟩,hi,hj⟩) λu1 b1 H0 J O U B g6 f6 e6=>?_
 have O9:=O8.ge g6;refine⟨_,_,_,rfl,rfl,O9.fa,by rw[z4];first|decide|omega,?_⟩
 replace O9:=O9.app nfa na npa (d:=.tup [.int (L:Nat),.int (R:Nat),.int ((K+1:Nat):Int),.ref b1]) ⟨L,R,K+1,u1,b1,rfl,e6,λz=>(by rw[z,O8.fa]at f6;cases f6),J,O,hz.more,λr=>Am (by omega) hT B r⟩
 generalize ad H0 a (.lst (ds++[.tup [.int (L:Nat),.int (R:Nat),.int ((K+1:Nat):Int),.ref b1]]))=GF at O9⊢;obtain⟨ds,O9,Y⟩:∃ds,OS b p0 a P L R K ts M ds GF/\ds.length=4:=⟨_,O9,by rw[hQ,Y];rfl⟩
 clear e6 g6 f6 e5 O8 O7 e4 Gq J O U B Gy;ac_nf;nofun;refine⟨by rw[z4];first|decide|omega,λc1 GG=>?_⟩
 have Gz:=O9.ge (Ge.new (o:=.lst [.int 1,.int (-1)]) GG);have GH:ad GF c1 (.lst [.int 1,.int (-1)]) c1=E (.lst [.int 1,.int (-1)]):=aa;have H4:=bA O9.fx.box GG;generalize ad GF c1 (.lst [.int 1,.int (-1)])=M18 at Gz GH;clear O9 GG;refine aP (by omega) Gz.fx.box (by decide) (by decide) λs0 H8 s1 s2 GI=>?_
 obtain⟨v,hv,H9⟩:∃v:Int,atI [D.int 1,.int (-1)] s0=E (.int v)/\v*v=1 /\ -1<=v/\v<=1:=by
  rcases(by omega:s0=0∨s0=1)with rfl|rfl
  ·exact⟨1,rfl,by decide⟩
  ·exact⟨-1,rfl,by decide⟩
 refine av (GI.keep _ _ H4 GH) hv ?_;have Gr:=Gz.bx n0 na GI;clear Gz GI GH;nofun;refine⟨_,ab Gr.fe,?_⟩;refine ah (f:=tmD) (ys:=ts) (I:=λl ρ M' acc=>(∃o0 o1 o2 o3,ρ=[o0,o1,o2,o3,E (.int v)])/\M'=H8/\acc=(l.map (mv5 v)).map tmD) rfl ⟨⟨_,_,_,_,rfl⟩,rfl,rfl⟩ (λ_ _ _ _ h=>by rw[h.2.1];exact ab Gr.fe) ?_ ?_
 ·rintro l t r ρ M' acc e ⟨⟨o0,o1,o2,o3,rfl⟩,rfl,rfl⟩;have Gp:=af e;refine⟨_,rfl,λN hN=>?_⟩;ac_nf;refine⟨fF (by omega),by rw[z4];first|decide|omega,by rw[hG,hG,z4];omega,hN _ _ _ ⟨⟨_,_,_,_,rfl⟩,rfl,?_⟩⟩
  rw[HS,HS];rfl
 rintro ρ M' acc ⟨_,rfl,rfl⟩ a5 Gq;have GP:=Gr.ge (Ge.new (o:=.lst ((ts.map (mv5 v)).map tmD)) Gq);have n5:=bA Gr.fx.box Gq;have GJ:Bx b M' (ad M' a5 (.lst ((ts.map (mv5 v)).map tmD))):=(Bx.refl Gr.fx.box).ge (Ge.new Gq);have e5:ad M' a5 (.lst ((ts.map (mv5 v)).map tmD)) a5=E (.lst ((ts.map (mv5 v)).map tmD)):=aa;generalize ad M' a5 (.lst ((ts.map (mv5 v)).map tmD))=M20 at GP e5 GJ;clear GP;nofun;refine⟨by decide,by decide,?_⟩
 refine aI (I:=λl ρ M1=>(∃GA GB,ρ=[E (.ref b),E (.tup [.int (L:Nat),.int (R:Nat),.int (K:Nat),.ref p0]),E (.int (P:Nat)),E (.int (L:Nat)),E (.int (R:Nat)),E (.int (K:Nat)),E (.ref p0),E (.ref a1),E (.ref a2),E (.ref a3),E (.ref a5),E (.ref a),E (.int (w:Nat)),E (.ref a4),E (.int v),GA,GB,Z,Z])/\Bx b M' M1/\∃es:List Tm,M1 a5=E (.lst ((ts.map (mv5 v)++es).map tmD))/\es.length=l.length/\Tin L R K es/\∀e∈es,e.2=(P:Int)) aK ⟨⟨_,_,rfl⟩,GJ,[],by simpa using e5,rfl,λ_ h=>(by cases h),λ_ h=>(by cases h)⟩ (λ_ _ _ _=>trivial) ?_ ?_
 ·rintro l x r ρ M1 e ⟨⟨GA,GB,rfl⟩,x1,es,e1,el,et,ep⟩;have Gp:=af e;rw[Ic]at Gp;refine⟨_,rfl,λF hF=>?_⟩;nofun;refine aP (by omega) x1.box (by omega) (by omega) λk M2 k0 k1 x2=>?_
  have f2:=x2.keep _ _ n5 e1;nofun;refine⟨⟨_,f2⟩,?_⟩;refine aP (by omega) x2.box (by omega) (by omega) λi M3 i0 i1 x3=>?_
  ac_nf;refine aP (by omega) x3.box (by omega) (by omega) λj M4 j0 j1 x4=>?_
  ac_nf;have f4:=x4.keep _ _ n5 (x3.keep _ _ n5 f2);have h3:(3:Int).toNat=3:=rfl;rw[h3]at Gp;refine⟨by rw[z4];first|decide|omega,_,_,_,rfl,rfl,f4,by rw[hG,hQ,hG,z4];omega,?_⟩
  refine hF _ _ ⟨⟨_,_,rfl⟩,(((x1.trans x2).trans x3).trans x4).upd Gq n5,es++[((k,i,j),(P:Int))],?_,by rw[hQ,hQ,el];rfl,λu hu=>?_,λu hu=>?_⟩
  ·rw[aa,<-IV (ts.map (mv5 v)),HS (l₁:=ts.map (mv5 v)++es)];rfl
  ·rcases Ie.mp hu with h|h
   ·exact et u h
   ·rw[Im.mp h];exact⟨⟨k0,k1⟩,⟨i0,i1⟩,⟨j0,j1⟩⟩
  ·rcases Ie.mp hu with h|h
   ·exact ep u h
   ·rw[Im.mp h]
 rintro ρ M1 ⟨⟨GA,GB,rfl⟩,x1,es,e1,el,et,ep⟩;rw[Ic]at el;have h3:(3:Int).toNat=3:=rfl;rw[h3]at el;have GC:=Gr.bx n0 na x1;clear Gr x1 GJ e5 Gq;nofun;refine⟨⟨_,GC.fa⟩,by rw[z4];first|decide|omega,?_⟩
 refine put (by omega) e1 (by rw[hQ,hG];omega) (λu hu=>by
  rcases Ie.mp hu with h|h
  ·obtain⟨t,ht,rfl⟩:=HQ.mp h;exact⟨(hT t ht).k,(hT t ht).i,(hT t ht).j⟩
  ·exact et u h) λu1 b1 Ha J O U B g6 f6 e6=>?_
 have F2:=GC.ge g6;refine⟨_,_,_,rfl,rfl,F2.fa,by rw[z4];first|decide|omega,?_⟩
 replace F2:=F2.app nfa na npa (d:=.tup [.int (L:Nat),.int (R:Nat),.int (K:Nat),.ref b1]) ⟨L,R,K,u1,b1,rfl,e6,λz=>(by rw[z,GC.fa]at f6;cases f6),J,O,sz,λr=>An H9.1 ep B r⟩
 generalize ad Ha a (.lst (ds++[.tup [.int (L:Nat),.int (R:Nat),.int (K:Nat),.ref b1]]))=Hb at F2⊢;obtain⟨ds,F2,Y⟩:∃ds,OS b p0 a P L R K ts M ds Hb/\ds.length=5:=⟨_,F2,by rw[hQ,Y];rfl⟩
 clear e6 g6 f6 GC J O U B el et ep e1;ac_nf;nofun;refine aP (by omega) F2.fx.box (by omega) (by omega) λhere Hl h0 h1 GQ=>?_
 have GK:=F2.bx n0 na GQ;clear F2 GQ;ac_nf;refine aP (by omega) GK.fx.box (by omega) (by omega) λthere Gw t0 t1 GR=>?_
 have Gu:=GK.bx n0 na GR;clear GK GR;ac_nf;obtain⟨here,rfl⟩:∃v:Nat,here=(v:Int):=⟨here.toNat,by omega⟩
 obtain⟨there,rfl⟩:∃v:Nat,there=(v:Int):=⟨there.toNat,by omega⟩
 refine⟨by rw[z4];first|decide|omega,?_⟩
 nofun;refine⟨_,_,rfl,ab Gu.fe,λa6 Gx=>?_⟩;have n6:=bA Gu.fx.box Gx;have Hm:a≠a6:=λz=>by rw[<-z,Gu.fa]at Gx;cases Gx
 have GD:Bx b Gw (ad Gw a6 (.lst (ts.map tmD))):=(Bx.refl Gu.fx.box).ge (Ge.new Gx);have GE:ad Gw a6 (.lst (ts.map tmD)) a6=E (.lst (ts.map tmD)):=aa;generalize ad Gw a6 (.lst (ts.map tmD))=M25 at GD GE;ac_nf;refine iC (I:=λρ' M'=>ρ'=[E (.ref b),E (.tup [.int (L:Nat),.int (R:Nat),.int (K:Nat),.ref p0]),E (.int (P:Nat)),E (.int (L:Nat)),E (.int (R:Nat)),E (.int (K:Nat)),E (.ref p0),E (.ref a1),E (.ref a2),E (.ref a3),E (.ref a6),E (.ref a),E (.int (w:Nat)),E (.ref a4),E (.int v),GA,GB,E (.int (here:Nat)),E (.int (there:Nat))]/\Bx b Gw M'/\∃vs:List Tm,M' a6=E (.lst (vs.map tmD))/\Tin L R K vs/\vs.length<=40/\((here=there/\vs=ts)∨(here≠there/\vs=ts++(ts.filter λt=>t.1.2.1==((here:Nat):Int)).map (mv6 there)))) (λR9 GS=>?_) ?_
 ·ac_nf
  split
  ·next Gv=>
   have GT:here≠there:=λz=>by rw[z]at Gv;simp at Gv
   nofun;have GU:=GD.keep _ _ n0 Gu.fe;refine⟨⟨_,GE⟩,_,ab GU,?_⟩;refine ah (f:=tmD) (ys:=ts) (I:=λl ρ M' acc=>(∃o0 o1 o2 o3,ρ=[o0,o1,o2,o3,E (.int (there:Nat)),E (.int (here:Nat))])/\M'=M25/\acc=((l.filter λt=>t.1.2.1==((here:Nat):Int)).map (mv6 there)).map tmD) rfl ⟨⟨_,_,_,_,rfl⟩,rfl,rfl⟩ (λ_ _ _ _ h=>by rw[h.2.1];exact ab GU) ?_ ?_
   ·rintro l t r ρ M' acc e ⟨⟨o0,o1,o2,o3,rfl⟩,rfl,rfl⟩;have Gp:=af e;refine⟨_,rfl,λN hN=>?_⟩;have Gy:(l.filter λt=>t.1.2.1==((here:Nat):Int)).length<=l.length:=II _ _;ac_nf
    split
    ·next hw=>
     refine⟨by rw[z4];first|decide|omega,by rw[hG,hG,z4];omega,hN _ _ _ ⟨⟨_,_,_,_,rfl⟩,rfl,?_⟩⟩
     rw[IP,ID (by exact hw),HS,HS];rfl
    ·next hw=>refine hN _ _ _ ⟨⟨_,_,_,_,rfl⟩,rfl,?_⟩;rw[IP,IQ (by exact hw)];simp
   rintro ρ M' acc ⟨_,rfl,rfl⟩ a7 ha7;have g7:=Ge.new (o:=.lst (((ts.filter λt=>t.1.2.1==((here:Nat):Int)).map (mv6 there)).map tmD)) ha7;have Gy:(ts.filter λt=>t.1.2.1==((here:Nat):Int)).length<=ts.length:=II _ _;refine⟨a6,a7,_,_,rfl,rfl,g7 _ _ GE,aa,by rw[hG,hG,hG,z4];omega,?_⟩
   refine GS _ _ ⟨rfl,(GD.ge g7).upd Gx n6,_,by rw[aa,<-HS],λu hu=>?_,?_,.inr ⟨GT,rfl⟩⟩
   ·rcases Ie.mp hu with h|h
    ·exact hT u h
    ·obtain⟨t,ht,rfl⟩:=HQ.mp h;obtain⟨hk,hi,hj⟩:=hT t (Iq.mp ht).1;exact⟨hk,⟨by show(0:Int)<=((there:Nat):Int);omega,by show((there:Nat):Int)<_;omega⟩,hj⟩
   ·rw[hQ,hG];omega
  ·next Gv=>
   have he:here=there:=by
    have:((here:Nat):Int)=there:=by simpa using Gv
    omega
   exact GS _ _ ⟨rfl,GD,ts,GE,hT,by omega,.inl ⟨he,rfl⟩⟩
 rintro ρ M26 ⟨rfl,Hc,vs,Hd,vt,vl,He⟩;have GL:=Gu.bx n0 na Hc;nofun;refine⟨⟨_,GL.fa⟩,by rw[z4];first|decide|omega,?_⟩
 refine put (by omega) Hd (by omega) vt λu1 b1 Hf J O U B g6 f6 e6=>?_
 have Gs:=GL.ge g6;refine⟨_,_,_,rfl,rfl,Gs.fa,by rw[z4];first|decide|omega,?_⟩
 replace Gs:=Gs.app nfa na npa (d:=.tup [.int (L:Nat),.int (R:Nat),.int (K:Nat),.ref b1]) ⟨L,R,K,u1,b1,rfl,e6,λz=>(by rw[z,GL.fa]at f6;cases f6),J,O,sz,λr=>by
  rcases He with⟨_,rfl⟩|⟨Gv,rfl⟩
  ·have:tk u1=tk vs:=by funext k i j;exact B _
   rw[this]
  ·exact Ci (by omega) (by omega) Gv B r⟩
 generalize ad Hf a (.lst (ds++[.tup [.int (L:Nat),.int (R:Nat),.int (K:Nat),.ref b1]]))=M28 at Gs⊢;ac_nf;nofun;exact q _ a M28 Gs.fo (by rw[hQ,Y,IA];decide) Gs.fx nfa Gs.fa
theorem sQ{a b c:D}(q:Q (.tup [a,b]) M):dY (.tup [a,b,c]) Z (E 2) M Q:=q
theorem yB{s:Str}{i:Int}(hs:QE s=N2)(q:Q (.bl R9) M):wNe (.tup [.str s,.int i]) (.tup [.str s,.int i]) M Q:=by
 refine⟨.tuple [.str s,.int i],.tuple [.str s,.int i],?_,?_,?_⟩
 ·simp[rb,aE,hs]
 ·simp[rb,aE,hs]
 ·simp[Jz,N8];exact q
noncomputable def szs(P:Nat):List (Nat×Nat):=if P=2 then[(2,2),(2,3),(1,3),(3,2),(3,1)]else[(2,2),(1,3),(2,1),(2,2),(1,2)]
noncomputable abbrev pnD(x:Nat×Nat):D:=.tup [.int x.1,.int x.2]
theorem Ck:∀P,P=2∨P=3->(szs P).length=5/\∀x∈szs P,(x.1=2/\x.2=2)∨(x.1=2/\x.2=3)∨(x.1=3/\x.2=2)∨(x.1=1/\x.2=3)∨(x.1=3/\x.2=1)∨(x.1=2/\x.2=1)∨(x.1=1/\x.2=2):=by rintro P (rfl|rfl)<;>decide
theorem EA(z:P=2∨P=3){pq:SS}{K:QD}(eq:M pq=E (.lst [.int 2,.int 1]))(hx:(L=2/\R=2)∨(L=2/\R=3)∨(L=3/\R=2)∨(L=1/\R=3)∨(L=3/\R=1)∨(L=2/\R=1)∨(L=1/\R=2))(h:∀mo:Nat,1<=mo->mo<=3->(∀k,1<=k->k<=mo->Bz P L R k)->K (.int mo) M):wIx (.ref pq) (.int (if((L:Int)+R==5)=N2 then 1 else 0)) M λx F=>MulOk L R/\dX x (.int (if((L:Int)*R==4)=N2 then 1 else 0)) F K:=by
 rcases hx with⟨rfl,rfl⟩|⟨rfl,rfl⟩|⟨rfl,rfl⟩|⟨rfl,rfl⟩|⟨rfl,rfl⟩|⟨rfl,rfl⟩|⟨rfl,rfl⟩
 ·exact av eq (d:=.int 2) rfl ⟨cB (by decide),h 3 ∅ ∅ λk j B=>⟨z,j,by omega⟩⟩
 ·exact av eq (d:=.int 1) rfl ⟨cB (by decide),h 1 ∅ ∅ λk j B=>⟨z,j,by omega⟩⟩
 ·exact av eq (d:=.int 1) rfl ⟨cB (by decide),h 1 ∅ ∅ λk j B=>⟨z,j,by omega⟩⟩
 ·exact av eq (d:=.int 2) rfl ⟨cB (by decide),h 2 ∅ ∅ λk j B=>⟨z,j,by omega⟩⟩
 ·exact av eq (d:=.int 2) rfl ⟨cB (by decide),h 2 ∅ ∅ λk j B=>⟨z,j,by omega⟩⟩
 ·exact av eq (d:=.int 2) rfl ⟨cB (by decide),h 2 ∅ ∅ λk j B=>⟨z,j,by omega⟩⟩
 ·exact av eq (d:=.int 2) rfl ⟨cB (by decide),h 2 ∅ ∅ λk j B=>⟨z,j,by omega⟩⟩
theorem sR{l:List Int}{q:Int×Int}(h:q∈nz l):0<=q.1/\q.1<l.length:=by unfold nz idx at h;obtain⟨i,hi,rfl⟩:=List.mem_mapIdx.mp (Iq.mp h).1;exact⟨Mk _,by show((i:Nat):Int)<_;lia⟩
theorem Cl{ps:List Pr}(h:yr ps ts)(J:∀p∈ps,ki L R K p):Tin L R K ts:=λt F=>by
 have h1:=BV h.nd F;rw[h.cf]at h1;obtain⟨u,j,e⟩:∃u∈oC ps,u.1=t.1:=by refine J4 λz=>h.nz t F ?_;rw[<-h1];exact cQ λu j e=>z ⟨u,j,e⟩
 obtain⟨p,B,h2⟩:=IE.mp j;obtain⟨x,hx,O⟩:=IE.mp h2;obtain⟨y,U,Y⟩:=IE.mp O;obtain⟨w,hw,rfl⟩:=HQ.mp Y;have o:=J p B;have a:=sR hx;have b:=sR U;have c:=sR hw;rw[o.l0]at a;rw[o.l1]at b;rw[o.l2]at c;have F2:w.1=t.1.1:=congrArg (·.1) e;have e2:x.1=t.1.2.1:=congrArg (·.2.1) e;have e3:y.1=t.1.2.2:=congrArg (·.2.2) e;exact⟨∅,∅,∅⟩
theorem Ao(z:Tin L R K ts)(B:(ts.map (·.1)).Nodup):ts.length<=K*(L*R):=by
 have h:=fH (l₂:=(HV K).flatMap λk=>(HV L).flatMap λi=>(HV R).map λj=>(((k:Nat):Int),((i:Nat):Int),((j:Nat):Int))) B λx hx=>by
  obtain⟨t,F,rfl⟩:=HQ.mp hx;obtain⟨⟨J,O⟩,⟨U,Y⟩,⟨F2,j1⟩⟩:=z t F;refine IE.mpr ⟨t.1.1.toNat,Io.mpr ∅,IE.mpr ⟨t.1.2.1.toNat,Io.mpr ∅,HQ.mpr ⟨t.1.2.2.toNat,Io.mpr ∅,?_⟩⟩⟩
  exact Ou (by show((t.1.1.toNat:Nat):Int)=_;lia) (Ou (by show((t.1.2.1.toNat:Nat):Int)=_;lia) (by show((t.1.2.2.toNat:Nat):Int)=_;lia))
 rw[hG]at h;refine IW h (Nat.le_of_eq ?_);have cst:∀(f:Nat->Nat) (c n:Nat),(∀k,f k=c)->((HV n).map f).sum=n*c:=λf c n hf=>by rw[show f=λ_=>c from funext hf,List.map_const',Ic,List.sum_replicate_nat]
 rw[PZ];refine cst _ _ _ λk=>?_;rw[PZ];exact cst _ _ _ λi=>by rw[hG,Ic]
noncomputable def fN(a i:Nat)(u:Int)(g:Nat->Int)(m:Nat):List Tm:=(HV m).map λj=>((((a:Nat):Int),((i:Nat):Int),((j:Nat):Int)),u*g j)
theorem lU{a:Nat}{u:Int}{g:Nat->Int}:fN a i u g (m+1)=fN a i u g m++[((((a:Nat):Int),((i:Nat):Int),((m:Nat):Int)),u*g m)]:=by unfold fN;rw[L6,HS];rfl
noncomputable def eh(a:Nat)(f g:Nat->Int)(R:Nat):Nat->List Tm
 |0=>[]
 |n+1=>eh a f g R n++fN a n (f n) g R
theorem vI{a i:Nat}{u:Int}{g:Nat->Int}{k i' j:Nat}:∀m,cf (fN a i u g m) ((k:Int),(i':Int),(j:Int))=if k=a/\i'=i/\j<m then u*g j else 0
 |0=>by rw[if_neg ∅];rfl
 |m+1=>by
  rw[lU,aQ,vI m,aB,bU]
  by_cases h:k=a/\i'=i
  ·obtain⟨rfl,rfl⟩:=h
   by_cases hj:j=m
   ·subst hj;rw[if_neg ∅,if_pos rfl,if_pos ∅];lia
   ·rw[if_neg (c:=((k:Int),(i':Int),(m:Int))=((k:Int),(i':Int),(j:Int))) λz=>hj (by have:=(Oh.inj (Oh.inj z).2).2;lia)]
    by_cases hl:j<m
    ·rw[if_pos ∅,if_pos ∅];lia
    ·rw[if_neg ∅,if_neg ∅];rfl
  ·have h':¬((a:Int),(i:Int),(m:Int))=((k:Int),(i':Int),(j:Int)):=fun z=>h (by
    have e:=Oh.inj z;have:=(Oh.inj e.2).1;exact⟨∅,∅⟩)
   rw[if_neg h',if_neg ∅,if_neg ∅]
   rfl
theorem vJ{a R:Nat}{f g:Nat->Int}{k i j:Nat}:∀n,cf (eh a f g R n) ((k:Int),(i:Int),(j:Int))=if k=a/\i<n/\j<R then f i*g j else 0
 |0=>by rw[if_neg ∅];rfl
 |n+1=>by
  rw[eh,aQ,vJ n,vI]
  by_cases hi:i=n
  ·subst hi;rw[if_neg ∅]
   by_cases h:k=a/\j<R
   ·rw[if_pos ∅,if_pos ∅];lia
   ·rw[if_neg ∅,if_neg ∅];rfl
  ·rw[if_neg (c:=k=a/\i=n/\j<R) ∅]
   by_cases h:k=a/\i<n/\j<R
   ·rw[if_pos h,if_pos ∅];lia
   ·rw[if_neg h,if_neg ∅];rfl
theorem kG{a R L K:Nat}{f g:Nat->Int}(B:a<K):∀n,n<=L->Tin L R K (eh a f g R n)/\(eh a f g R n).length=n*R
 |0,_=>⟨λ_ h=>(by cases h),by simp[eh]⟩
 |n+1,h=>by
  obtain⟨h1,h2⟩:=kG (f:=f) (g:=g) (R:=R) (L:=L) B n ∅
  refine⟨λt z=>?_,by rw[eh,hQ,h2,fN,hG,Ic,J1]⟩
  rw[eh]at z
  rcases Ie.mp z with h'|h'
  ·exact h1 t h'
  ·obtain⟨j,F,rfl⟩:=HQ.mp h';have:=Io.mp F;exact⟨by dsimp only;lia,by dsimp only;lia,by dsimp only;lia⟩
theorem Cn{n:Nat}{l r:List Nat}(e:HV n=l++x::r):x=l.length/\x<n:=by have h:=uU e;have j:=af e;rw[Ic]at j;rw[K8 j]at h;have:=Ir.inj h;exact⟨this.symm,∅⟩
theorem vK{xs:List Int}(h:i<xs.length):atI (xs.map D.int) ((i:Nat):Int)=E (.int (xs.getD i 0)):=bv (by rw[I8,r4 h,HY,r4 h];rfl)
theorem vL(q:Q (.bl N2) M):wEq (sD N2) (.str (IF "least")) M Q:=by
 have hs:QE (IF "least")=N2:=by decide +kernel
 refine⟨.str (IF "least"),.str (IF "least"),by simp[rb,hs],by simp[rb,hs],?_⟩
 rw[show Jz (.str (IF "least")) (.str (IF "least"))=N2 by simp[Jz]]
 exact q
theorem DH{xs:List Int}(h:dC xs):-1000<=xs.getD i 0/\xs.getD i 0<=1000:=by
 rw[HY]
 cases e:xs[i]? with
 |none=>exact⟨by decide,by decide⟩
 |some x=>exact h x (Ib e)
theorem law_holds(ns:List Int)(hl:ns.length<=63):phi tab 40 29 [.con (ns.map D.int)] (λ_=>Z) λd _=>d=.bl N2:=by
 refine ao ∅ rfl rfl (ρ:=[E _,Z,Z,Z,Z,Z,Z,Z,Z,Z,Z,Z,Z,Z,Z,Z,Z,Z]) rfl ?_
 unfold d29 b29;nofun;rw[hG];refine⟨by split<;>split<;>lia,by split<;>split<;>lia,?_⟩
 refine aI (I:=λl ρ M'=>∃o1 o2 o3 o4 o5 o6 o7 o8 o9 GC J Gp Gq Gr Gs O U,ρ=[E (.con (ns.map D.int)),o1,o2,o3,o4,o5,o6,o7,o8,o9,GC,J,Gp,Gq,Gr,Gs,O,U]) aK ⟨_,_,_,_,_,_,_,_,_,_,_,_,_,_,_,_,_,rfl⟩ (λ_ _ _ hI=>trivial) ?_ ?_
 ·rintro l k r ρ M8 e ⟨o1,o2,o3,o4,o5,o6,o7,o8,o9,GC,J,Gp,Gq,Gr,Gs,O,U,rfl⟩;refine⟨_,rfl,λF hF=>?_⟩;nofun;refine BU (s:=ai 24) (fc:=17) (fm:=18) (sc:=ai 22) rfl rfl (qF ∅) ∅ ∅ λb x y Hc=>?_
  have B:Box b (ad M8 b (.lst [.int x,.int y,.int 0])):=⟨_,_,_,aa⟩;generalize ad M8 b (.lst [.int x,.int y,.int 0])=M0 at B⊢;nofun;refine aP ∅ B (by decide) (by decide) λv M1 v0 v1 x1=>?_
  obtain⟨P,Hd,hP⟩:∃P:Nat,(2:Int)+v=(P:Int)/\(P=2∨P=3):=⟨(2+v).toNat,∅,∅⟩
  ac_nf;rw[Hd];have B:=x1.box;clear x1 Hc;nofun;have sz:∀n:Nat,n<=10->n<=HZ:=λn h=>by rw[z4];lia
  refine⟨sz _ (by decide),sz _ (by decide),sz _ (by decide),sz _ (by decide),sz _ (by decide),sz _ (by decide),λpa ha=>⟨sz _ (by decide),sz _ (by decide),sz _ (by decide),sz _ (by decide),sz _ (by decide),sz _ (by decide),λpb Gx=>⟨sz _ (by decide),λpc hc=>?_⟩⟩⟩
  have ga:=Ge.new (o:=.lst ((szs 2).map pnD)) ha;have ea:=aa (M:=M1) (a:=pa) (o:=.lst ((szs 2).map pnD));change ad M1 pa (.lst ((szs 2).map pnD)) pb=Z at Gx;change ad (ad M1 pa (.lst ((szs 2).map pnD))) pb (.lst ((szs 3).map pnD)) pc=Z at hc;change wIx _ _ (ad (ad (ad M1 pa (.lst ((szs 2).map pnD))) pb (.lst ((szs 3).map pnD))) pc (.lst [.ref pa,.ref pb])) _;generalize ad M1 pa (.lst ((szs 2).map pnD))=M2 at ga ea Gx hc⊢;have gb:=Ge.new (o:=.lst ((szs 3).map pnD)) Gx;have eb:=aa (M:=M2) (a:=pb) (o:=.lst ((szs 3).map pnD));generalize ad M2 pb (.lst ((szs 3).map pnD))=M3 at gb eb hc⊢;have gc:=Ge.new (o:=.lst [.ref pa,.ref pb]) hc;have ec:=aa (M:=M3) (a:=pc) (o:=.lst [.ref pa,.ref pb]);generalize ad M3 pc (.lst [.ref pa,.ref pb])=M4 at gc ec⊢;obtain⟨ps,Gy,eps⟩:∃ps,atI [D.ref pa,D.ref pb] ((P:Int)-2)=E (.ref ps)/\M4 ps=E (.lst ((szs P).map pnD)):=by
   rcases hP with rfl|rfl
   ·exact⟨pa,rfl,gc _ _ (gb _ _ ea)⟩
   ·exact⟨pb,rfl,gc _ _ eb⟩
  have GB:ps≠b:=by
   rcases hP with rfl|rfl
   ·have:ps=pa:=by have:=Ir.inj Gy;exact(D.ref.inj this).symm
    rw[this];exact bA B ha
   ·have:ps=pb:=by have:=Ir.inj Gy;exact(D.ref.inj this).symm
    rw[this];exact bA (Bx.of B ga).box Gx
  have B:=(Bx.of B (ga.trans (gb.trans gc))).box;refine av ec Gy ?_;clear ga gb gc ea eb ec ha Gx hc Gy;obtain⟨Hv,hsz⟩:=Ck P hP;nofun;refine aP ∅ B (by decide) (by decide) λw M5 w0 w1 x5=>?_
  obtain⟨i,rfl⟩:=IS w0;have hi:i<(szs P).length:=∅
  refine av (x5.keep _ _ GB eps) (d:=pnD (szs P)[i]) (bv (by rw[I8,r4 hi];rfl)) ?_
  have hx:=hsz _ (JO hi);generalize (szs P)[i]=LR at hx⊢;obtain⟨L,R⟩:=LR;dsimp only at hx;refine⟨_,rfl,?_⟩;have B:=x5.box;clear x5 eps GB;nofun;refine⟨sz _ (by decide),λpq GQ=>?_⟩
  have gq:=Ge.new (o:=.lst [.int 2,.int 1]) GQ;have eq:=aa (M:=M5) (a:=pq) (o:=.lst [.int 2,.int 1]);generalize ad M5 pq (.lst [.int 2,.int 1])=M6 at gq eq⊢;have B:=(Bx.of B gq).box;refine EA hP eq hx λmo m1 m3 GR=>?_;refine aP ∅ B ∅ ∅ λk' M7 k0 k1 x7=>?_
  obtain⟨K,hK,He,Hf⟩:∃K:Nat,(1:Int)+k'=(K:Int)/\1<=K/\K<=mo:=⟨(1+k').toNat,∅,∅,∅⟩
  ac_nf;rw[hK];have hz:=GR K He Hf;have Gv:=hz.self;have GS:=Gv.l;have GD:=Gv.r;have B:=x7.box;clear x7 gq eq GQ GR hK k0 k1;nofun;refine⟨sz _ (by decide),λpl GE=>?_⟩
  have npl:=bA B GE;have gl:=Ge.new (o:=.lst [.int L,.int R,.int K]) GE;have el:=aa (M:=M7) (a:=pl) (o:=.lst [.int L,.int R,.int K]);generalize ad M7 pl (.lst [.int L,.int R,.int K])=M8' at gl el⊢;have B:=(Bx.of B gl).box;refine aP ∅ B (by decide) (by decide) λc M9 c0 c1 x9=>?_
  obtain⟨c,rfl⟩:=IS c0;have el:=x9.keep _ _ npl el;have B:=x9.box;clear x9 gl GE;refine uY (s:=ai 27) (ft:=20) (fp:=21) rfl (aP ∅) (iH ∅) ∅ ∅ ∅ ∅ ∅ B npl el λps pr Hw Hu Gu GT npr epr=>?_
  have B:=GT.box;clear GT npr el npl;nofun;refine xO (f:=23) (s:=ai 28) rfl ∅ ∅ ∅ ∅ epr ?_ (λp hp=>⟨lM (Gu p hp).s0,lM (Gu p hp).s2,(Gu p hp).l0,(Gu p hp).l1,(Gu p hp).l2⟩) λlsd d Hx F2 Hg GU Hh GW=>?_
  ·have h1:L*(R*K)<=27*4:=IW (JI GS.2 (JI GD.2 Gv.k.2)) (by decide)
   have:=JI (show ps.length<=4 by lia) h1
   lia
  have GF:=Cl F2 Gu;have Hi:=Ao GF F2.nd;have Hy:K*(L*R)<=20:=by rcases hz.s with⟨rfl,rfl,h⟩|⟨rfl,rfl,rfl⟩|⟨rfl,rfl,rfl⟩|⟨rfl,rfl,h⟩|⟨rfl,rfl,h⟩|⟨rfl,rfl,h⟩|⟨rfl,rfl,h⟩<;>lia
  refine Cg ∅ F2.nd ∅ GW λts pt Hz Y GX Hj et=>?_
  have hT:Tin L R K ts:=λt ht=>GF t (Y.mem_iff.mp ht);have GY:(ts.map (·.1)).Nodup:=(Y.map (·.1)).nodup_iff.mpr F2.nd;have Hk:ts.length<=20:=by rw[Y.length_eq];lia
  have B:=((Bx.of B GU).ge GX).box;clear GU GX Hh Hj GW F2 Gu epr GF Hi Y Hg;nofun;refine⟨sz _ (by decide),?_⟩
  refine jF ∅ Gv hT GY et λcc d0 HA GG HB GH=>sQ ?_
  have et:=GH _ _ et;have B:=(Bx.of B GH).box;have nptb:=eJ B et;clear GH;nofun;refine Cj ∅ hz B et Hk hT GY λds pd Hl GZ Hm GI Hn GJ=>?_
  have et:=GI.keep _ _ nptb et;have B:=GI.box;clear GI Hn nptb;refine⟨_,ab GJ,?_⟩;refine aI (f:=id) (ys:=ds) (I:=λl ρ M'=>(∃o1 o4 o8 J Gp Gq Gr Gs O U,ρ=[E (.con (ns.map D.int)),o1,E (.ref b),E (.int P),o4,E (.int L),E (.int R),E (.int K),o8,E (.tup [.int L,.int R,.int K,.ref pt]),E (.tup [sD N2,.int cc]),J,Gp,Gq,Gr,Gs,O,U])/\Ge Hl M') (Rp ds).symm ⟨⟨_,_,_,_,_,_,_,_,_,_,rfl⟩,Ge.refl⟩ (λ_ _ _ h=>ab (h.2 _ _ GJ)) ?_ ?_
  ·rintro l1 d1 r1 ρ Gz e1 ⟨⟨o1,o4,o8,J,Gp,Gq,Gr,Gs,O,U,rfl⟩,Gw⟩;refine⟨_,rfl,λF' GK=>?_⟩;obtain⟨L',R',K',us,p',rfl,h2,h3,h4,h5,h6,h7⟩:=((GZ d1 (by rw[e1];simp)).ge λx o _ e=>Gw _ _ e).ex
   nofun;refine jF ∅ h6 h5 h4 h2 λc' d' Ho Hq _ Hr=>sQ ?_
   have ec:=GG.uniq Hq (λr=>(h7 r).mp) (λr=>(h7 r).mpr);rw[<-ec];refine yB (by decide +kernel) ⟨_,rfl,?_⟩
   rw[if_neg (by decide)]
   exact GK _ _ ⟨⟨_,_,_,_,_,_,_,_,_,_,rfl⟩,Gw.trans Hr⟩
  rintro ρ Gz ⟨⟨o1,o4,o8,J,Gp,Gq,Gr,Gs,O,U,rfl⟩,Gw⟩;have et:=Gw _ _ et;have B:=(Bx.of B Gw).box;clear Gw GJ GZ Hm;nofun;refine⟨sz _ (by decide),λpz H0=>⟨sz _ (by decide),?_⟩⟩
  have gz:=Ge.new (o:=.lst (([]:List Tm).map tmD)) H0;have ez:=aa (M:=Gz) (a:=pz) (o:=.lst (([]:List Tm).map tmD));have et:=gz _ _ et;have B:=(Bx.of B gz).box;change phi _ _ _ _ (ad Gz pz (.lst (([]:List Tm).map tmD))) _;generalize ad Gz pz (.lst (([]:List Tm).map tmD))=Ho at gz ez et B⊢;refine jF (ts:=[]) ∅ Gv (λ_ h=>(by cases h)) List.nodup_nil ez λc0 d0 HC H4 _ GL=>sQ ⟨sz _ (by decide),?_⟩
  have z0:c0=0:=Nat.le_zero.mp (H4.le 0 (Dc.none λ_ _ _ _ _ _=>rfl));subst z0;have et:=GL _ _ et;have B:=(Bx.of B GL).box;have nptb:=eJ B et;clear gz ez H0 GL H4;refine yB (by decide +kernel) ⟨_,rfl,?_⟩
  rw[if_neg (by decide)]
  nofun;refine iH ∅ ∅ B λxs HD HE Hs GM=>?_
  ac_nf;refine iH ∅ ∅ GM.box λys HF HG HH GN=>?_
  ac_nf;refine⟨sz _ (by decide),?_⟩
  nofun;refine aP ∅ GN.box ∅ ∅ λa GO a0 a1 H8=>?_
  obtain⟨a,rfl⟩:=IS a0;have et:=H8.keep _ _ nptb (GN.keep _ _ nptb (GM.keep _ _ nptb et));clear GM GN H8 B;nofun;refine⟨sz _ (by decide),λpa GP=>?_⟩
  have npta:pt≠pa:=λz=>by rw[z,GP]at et;cases et
  have ga:=Ge.new (o:=.lst (([]:List Tm).map tmD)) GP;have ea:=aa (M:=GO) (a:=pa) (o:=.lst (([]:List Tm).map tmD));have et:=ga _ _ et;change wSs _ _ _ _ (ad GO pa (.lst (([]:List Tm).map tmD)));generalize ad GO pa (.lst (([]:List Tm).map tmD))=M21 at ea et⊢;clear ga GP;nofun;refine⟨∅,∅,?_⟩
  refine aI (I:=λl ρ M'=>(∃o1 o4 o8 J O U,ρ=[E (.con (ns.map D.int)),o1,E (.ref b),E (.int P),o4,E (.int L),E (.int R),E (.int K),o8,E (.tup [.int L,.int R,.int K,.ref pt]),E (.tup [sD N2,.int cc]),J,E (.tup (xs.map D.int)),E (.tup (ys.map D.int)),E (.int (a:Nat)),E (.ref pa),O,U])/\M' pt=E (.lst (ts.map tmD))/\M' pa=E (.lst ((eh a (λi=>xs.getD i 0) (λj=>ys.getD j 0) R l.length).map tmD))) aK ⟨⟨_,_,_,_,_,_,rfl⟩,et,ea⟩ (λ_ _ _ _=>trivial) ?_ ?_
  ·rintro l1 i r1 ρ GA e1 ⟨⟨o1,o4,o8,J,O,U,rfl⟩,et,ea⟩;obtain⟨hi,HI⟩:=Cn e1;refine⟨_,rfl,λF' GK=>?_⟩;nofun;refine⟨⟨_,ea⟩,∅,∅,?_⟩
   refine ah (I:=λl ρ M' acc=>(∃o0,ρ=[o0,E (.int (a:Nat)),E (.int (i:Nat)),E (.tup (xs.map D.int)),E (.tup (ys.map D.int))])/\M'=GA/\acc=(fN a i (xs.getD i 0) (λj=>ys.getD j 0) l.length).map tmD) aK ⟨⟨_,rfl⟩,rfl,rfl⟩ (λ_ _ _ _ _=>trivial) ?_ ?_
   ·rintro l2 j r2 ρ M' acc e2 ⟨⟨o0,rfl⟩,rfl,rfl⟩;obtain⟨hj,HJ⟩:=Cn e2;refine⟨_,rfl,λN hN=>?_⟩;ac_nf;refine⟨_,vK ∅,_,vK ∅,?_⟩
    have hg:=DH Hs (i:=i);refine⟨cB ∅,sz _ (by decide),by rw[hG,fN,hG,Ic,z4];lia,?_⟩
    refine hN _ _ _ ⟨⟨_,rfl⟩,rfl,?_⟩;rw[hQ,IA,lU,HS,<-hj];rfl
   rintro ρ M' acc ⟨⟨o0,rfl⟩,rfl,rfl⟩ p2 H9;have h2:=(kG (R:=R) (f:=λi=>xs.getD i 0) (g:=λj=>ys.getD j 0) (a:=a) (K:=K) ∅ l1.length (by lia:l1.length<=L)).2
   have h3:l1.length*R<=3*3:=JI ∅ GD.2
   refine⟨pa,p2,_,_,rfl,rfl,Ge.new H9 _ _ ea,aa,by rw[hG,hG,h2,fN,hG,Ic,Ic,z4];lia,?_⟩
   refine GK _ _ ⟨⟨_,_,_,_,_,_,rfl⟩,by rw[ax npta];exact Ge.new H9 _ _ et,?_⟩
   rw[aa,<-HS,hQ,Ic,<-hi];rfl
  rintro ρ GA ⟨⟨o1,o4,o8,J,O,U,rfl⟩,et,ea⟩;nofun;refine⟨sz _ (by decide),_,rfl,?_⟩
  rw[Ic,Il]at ea;rw[uQ];obtain⟨Ht,Ha⟩:=kG (R:=R) (L:=L) (f:=λi=>xs.getD i 0) (g:=λj=>ys.getD j 0) (a:=a) (K:=K) ∅ L (HW _)
  have HK:L*R<=3*3:=JI GS.2 GD.2;refine⟨_,_,et,ea,by rw[hG,hG,Ha,z4];lia,λp hp=>?_⟩
  rw[<-HS];have ep:=aa (M:=GA) (a:=p) (o:=.lst ((ts++eh a (λi=>xs.getD i 0) (λj=>ys.getD j 0) R L).map tmD));generalize ad GA p (.lst ((ts++eh a (λi=>xs.getD i 0) (λj=>ys.getD j 0) R L).map tmD))=M23 at ep⊢;refine put ∅ ep (by rw[hQ,Ha];lia) (λt ht=>(Ie.mp ht).elim (hT t) (Ht t)) λus pu HL un ut ul uc _ _ eu=>?_
  refine jF ∅ Gv ut un eu λcm dm HM Hb _ _=>sQ ?_
  have key:∀k i j,k<K->i<L->j<R->tk us k i j=tk ts k i j+if k=a then xs.getD i 0*ys.getD j 0 else 0:=λk i j h1 h2 h3=>by
   unfold tk;rw[uc,aQ,vJ]
   by_cases h:k=a
   ·rw[if_pos h,if_pos ⟨h,h2,h3⟩]
   ·rw[if_neg h,if_neg λz=>h z.1]
  have c1:cm<=cc+1:=Hb.le _ (SQ key GG.is);have c2:cc<=cm+1:=GG.le _ (SQ (x:=λi=>-(xs.getD i 0)) (y:=λj=>ys.getD j 0) (a:=a) (λk i j h1 h2 h3=>by
   rw[key k i j h1 h2 h3]
   by_cases h:k=a
   ·rw[if_pos h,if_pos h,Rx];lia
   ·rw[if_neg h,if_neg h];lia) Hb.is)
  nofun;refine⟨_,rfl,vL ⟨_,rfl,?_⟩⟩;rw[if_pos rfl];refine⟨_,rfl,vL ⟨_,rfl,?_⟩⟩;rw[if_pos rfl];refine⟨_,rfl,_,rfl,?_⟩;refine⟨_,rfl,_,rfl,?_⟩;rw[if_neg (by simp;split<;>lia)]
  exact hF _ _ ⟨_,_,_,_,_,_,_,_,_,_,_,_,_,_,_,_,_,rfl⟩
 ·rintro ρ M8 ⟨o1,o2,o3,o4,o5,o6,o7,o8,o9,GC,J,Gp,Gq,Gr,Gs,O,U,rfl⟩;dsimp only;nofun
end K46
end
end
end Mi
end L2
end
namespace PySem.W.Fast
theorem tw15556632900305105556:True:=trivial
theorem tw11057674484538108602:True:=trivial
theorem tw1267830458843619361:True:=trivial
theorem tw7955904068663921760:True:=trivial
theorem tw9296047178148894937:True:=trivial
theorem tw16867746875080163871:True:=trivial
theorem tw1088993101284154452:True:=trivial
theorem tw15599879900667260398:True:=trivial
theorem tw12262251714972974422:True:=trivial
theorem tw6473216817298433862:True:=trivial
theorem tw14976823701864368667:True:=trivial
theorem tw1608796589378745366:True:=trivial
theorem tw13458369548033365103:True:=trivial
theorem tw3364044911177321616:True:=trivial
theorem tw13702638373979762558:True:=trivial
theorem tw8166896825506584357:True:=trivial
theorem tw8684392186006704994:True:=trivial
theorem tw6098609343745062798:True:=trivial
theorem tw9895581556890462958:True:=trivial
theorem tw4737646327440287899:True:=trivial
theorem tw10681252340607157076:True:=trivial
theorem tw15404164002001470726:True:=trivial
theorem tw11953365087545801005:True:=trivial
theorem tw3867359148593001792:True:=trivial
theorem tw15003710871906229480:True:=trivial
theorem tw8788285515563132259:True:=trivial
theorem tw11156240933391221788:True:=trivial
theorem tw9078289373745743214:True:=trivial
theorem tw18434811178717676864:True:=trivial
theorem tw9870852711571557822:True:=trivial
theorem tw13341647670429724382:True:=trivial
theorem tw14746457242851565818:True:=trivial
theorem tw4069568793136741263:True:=trivial
theorem tw764479316110290791:True:=trivial
theorem tw17010869047002739369:True:=trivial
theorem tw11140131969356587636:True:=trivial
theorem tw17874064122608972947:True:=trivial
theorem tw17792161348494126328:True:=trivial
theorem tw3863920001628439532:True:=trivial
theorem tw9445929025328493669:True:=trivial
theorem tw122526433159640205:True:=trivial
theorem tw1195765224063025367:True:=trivial
theorem tw15190189611027921735:True:=trivial
theorem tw12916517870106235233:True:=trivial
theorem tw2786180369385483977:True:=trivial
theorem tw520234731467029997:True:=trivial
theorem tw7146920244347263973:True:=trivial
theorem tw3420034780268386287:True:=trivial
theorem tw16994320200871965394:True:=trivial
theorem tw16618830667295541165:True:=trivial
theorem tw6076695175956014631:True:=trivial
theorem tw7369929449646737406:True:=trivial
theorem tw15009992682620114249:True:=trivial
theorem tw15276997240076789291:True:=trivial
theorem tw8198020678683573631:True:=trivial
theorem tw14249664576430754379:True:=trivial
theorem tw3204976965680964330:True:=trivial
theorem tw11285161494839754733:True:=trivial
theorem tw16305144553498288562:True:=trivial
theorem tw2128610279437781341:True:=trivial
theorem tw9231108911944758712:True:=trivial
theorem tw16409063921964223914:True:=trivial
theorem tw10952509272654732996:True:=trivial
theorem tw2107527793399139163:True:=trivial
theorem tw12111982700086697110:True:=trivial
theorem tw1809311876530223065:True:=trivial
theorem tw11522610843856293650:True:=trivial
theorem tw14365155839793360706:True:=trivial
theorem tw8153263220696663960:True:=trivial
theorem tw13332370262230343896:True:=trivial
theorem tw15852319143821408680:True:=trivial
theorem tw18429670810729179984:True:=trivial
theorem tw10369722281401523102:True:=trivial
end PySem.W.Fast
open PySem.W in
set_option maxRecDepth 100000 in
set_option maxHeartbeats 0 in
theorem PySem.Challenge.cw_fewtimes_k46_least_counts_kept_holds : PySem.Challenge.rw_fewtimes_k46_least_counts_kept.Holds := by
 w_on;o_law;k_head;(case hw=>w_witness2)
 k_fill
 refine L2.Mi.K46.walk (l:=PySem.Challenge.rw_fewtimes_k46_least_counts_kept) rfl rfl L2.Mi.K46.law_holds (fun w h Y=>PySem.W.kIn_of Y) ?F
 case F =>
  intro w mg fa h KX G hmg;refine' L2.Mi.K46.all_mk KX G hmg ?z ?_ ?_ ?_ ?_ ?_ ?_ ?_ ?_ ?_ ?_ ?_ ?_ ?_ ?_ ?_ ?_ ?_ ?_ ?_ ?_ ?_ ?_ ?_ ?_ ?_ ?_ ?_ ?_ ?_ ?_ ?_ ?_ ?_ ?_ ?_ ?_ ?_ ?_ ?_ ?_ ?_ ?_ ?_ ?_ ?_ ?_ ?_ ?_ ?_ ?_ ?_ ?_ ?_ ?_ ?_ ?_ ?_ ?_ ?_ ?_ ?_ ?_ ?_ ?_ ?_ ?_ ?_ ?_ ?_ ?_ ?_ ?_ ?_ ?_ ?_ ?_ ?_ ?_ ?_ ?_ ?_ ?_ ?_ ?_ ?_ ?_ ?_ ?_ ?_ ?_ ?_ ?_ ?_ ?_ ?_ ?_ ?_ ?_ ?_ ?_ ?_ ?_ ?_ ?_ ?_ ?_ ?_ ?_ ?_ ?_ ?_ ?_ ?_ ?_ ?_ ?_ ?_ ?_ ?_ ?_ ?_
  case z =>
   intro x hx;simp only [L2.Mi.bltNames,List.mem_cons,List.not_mem_nil,or_false] at hx
   rcases hx with rfl | rfl | rfl | rfl | rfl | rfl | rfl | rfl | rfl | rfl | rfl | rfl | rfl | rfl | rfl | rfl | rfl | rfl | rfl | rfl <;> k_is
  all_goals try (show _=_;k_is)
