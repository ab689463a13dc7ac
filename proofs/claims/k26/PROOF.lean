import PyProof.Rows.All
import Wide.All
import OpenK.AllK
import Wide.FinOn
import Lean
import PyProof.EqAt
import PyProof.EqKinds
import PyProof.TupleCall
import PyProof.StationsW
import PyProof.ExcClass3
import OpenK.KOwn
import PyProof.ExcBaseAll.ValueError
import PyProof.RulesAs
import PyProof.NsDelKeeps
import KE.KIsAll
import PyProof.ExcArgsOwn
import PyProof.ExcAttrAll.ValueError
import PyProof.ZipIter
import PyProof.EnumMake
import PyProof.EnumFor
import PyProof.CollectIter
import PyProof.TupleKey
import PyProof.DictRoadsH
import PyProof.P3Eq
import PyProof.Rows.SeqMore
import PyProof.ConsumeWalk
import PyProof.Rows.SortShellK
import PyProof.DictItems
import PyProof.DictWalks
import PyProof.AttrMissHeap
import PyProof.DictIter
import PyProof.MaxThree
import PyProof.SeqI3
import PyProof.DictTruth
import PyProof.Rows.TupDisplay
import PyProof.ListCopy
import PyProof.NeKinds
import PyProof.SetKind
import PyProof.IsRules
import PyProof.Rows.SetFrom
import PyProof.SetRoads
import PyProof.RaisesDict
import KE.KIntText
import PyProof.Rows.CallKwBuiltin
import PyProof.Rows.CountFlat
import KE.KDictOf
import PyProof.DelItemList
import PyProof.ObjNew
import OpenK.KCls
import PyProof.InstStoreFacts
import OpenK.KMore
import KE.IntBitsLaws
import PySem.Challenge.RW_fewtimes_k26_steps_that_can_not_be_done
set_option Elab.async false
set_option linter.all false
set_option compiler.extract_closed false
set_option genSizeOf false
set_option bootstrap.genMatcherCode false
set_option maxRecDepth 100000
set_option maxHeartbeats 4000000
open PySem.W (Frag)
open PySem renaming wpAny_bind->gV,Value->h6,Shared->i4,wpAny_pure->B1,sizeLine_eq->D0,sizeLine->D2,wpAny->JK,Program->JR,model->JT,starEach->JU,Around->K2,World->K8,compareOp->Kb,wpAny_mono->Kh,Paired->Kv,Comprehension->Kz,sysModules->KG,wpAny_holding->KO,wpAny_standAt->KP,PyData->KQ,mainGlobals->KR,wpAny_truthy_bool->L7,wpAny_callSpecial?_slot->L9,wpAny_call_entry->Ld,mem_of_lookup->Lf,binaryOp->Lj,wpAny_field->Lq,foldedSetIterable->Lv,backTo->LA,FuncData->LB,swapsWith->LD,assignEach->LF,wpAny_setField_rec->LG,wpAny_newObj_type->LR,cellsFrom->LU,wpAny_loadPart_at->LW,swappedStores->Mc,wpAny_rule->Me,cLine->Mj,wpAny_passesOwn->Mk,DictEntry->Mm,bootBuiltins->Mp,codeAny_call_builtin->Mu,behindInMarks->Mx,Builtin->MB,NameKind->MJ,Model->MP,excClassObj->MR,codeAny_mono->MU,wpAny_Call_Name_kw->MV,tupleKind_room_in1->MX,wpAny_pyIter_tuple->MY,wpAny_execs_nil->N6,wpAny_loadPart'->N8,swapsWithSole->Na,attributeBase->Nb,wpAny_bindName->Np,wpAny_setField->Nt,checkBuiltinCall->NB,rawInt->NH,bindName->NL,keywordEach->O3,standAt->O6,codeAny->O7,Keyword->Oa,Reads->Od,wpAny_call->Om,wpAny_isInstance->Ov,assignInOrder->OA,wpAny_attempt->OE,wpAny_of_eq->OJ,letOwnedTupleGo->ON,getAttrByItsOwn->OP,wpAny_isSubtype_exc->OX,call_meetsIn->P0,wpAny_richCompare_same_room->P2,tupleKind->P6,call_meets->P9,firstArgMember->Pc,wpAny_binaryOp_repeat_ref->Pn,wpAny_pyIter_list->PD,wpAny_dictEntries->PJ,wpAny_Call_ofName->PM,pyNext->PN,wpAny_newList->PR,wpAny_comprehension_free->PU,GenState->PZ,wpAny_execs_cons->Q0,lastMarks->Q1,noFill_tuple_add->Q3,backToKw->Q4,setFlight->Q8,builtinsNs->Qk,seqIndex_neg->Qm,wpAny_getItem_list_neg->Qo,typeIs_int->Qp,valueAt->Qq,IsEnum->Qt,pushCells_keeps->QB,builtinLookup_eq_fast->QF,wpAny_Expr_any->QJ,pyIter->QK,CmpOp->QL,seqIndex_of->QN,unbindBehindTheSuite->QO,newFunctionEnv->QP,ReadsAll->QR,isSubtype_type->QT,wpAny_ite_true->QU,intBits_mul_le->R0,PassesOwn->R4,BindsTo->R5,callerA->R6,noteFrame->R7,seq_tuple_add->Rf,mroOf_keyiter->Rh,foldedForSure->Rl,isInstance->Rz,intKind->RI,Operator->RN,concat_meets->RV,wpAny_Call_method->RZ,OwnTail->S1,wpAny_pyIter_enum->S4,wpAny_typeOf->Sg,ExcBaseFacts->Sj,wpAny_Dict_empty->Su,getAttrBy->Sv,pushCells->Sw,IsEnumOut->Sx,atKey->SS,wpAny_point->SU,richCompare->SX,getItem->Tn,OsState->Tp,wpAny_Name->Tr,bindL->Ts,bindC->Tt,typeLookup->Tu,call->Tv
open PySem.Str renaming ofString->i3,empty->TK
open Bool renaming and_eq_true->i5,false_ne_true->q7,not_eq_true'->Km,false_eq_true->KH,false_or->NP,not_eq_true->Ou,and_eq_true_iff->OK,or_eq_true->OS,or_true->Qs,beq_eq_decide_eq->QI,true_and->Rm
open PySem.Heap renaming get?_push_of_some->n6,lt_size->JJ,get?_push_size->JW,get?_update_other->Ko,get?_update_self->Kr,get?_update_ne->L3,SameBut->L6,size_push->LN,size_update->NA,get?_none_of_le->OH,ExtBut->SV
open List renaming length_map->B2,getElem?_append_right->D1,pairwise_append->I8,getElem?_eq_getElem->JF,length_append->JG,size_toArray->JN,getElem?_eq_some_iff->JO,getElem?_append_left->JP,append_assoc->JQ,mem_cons->JS,map_append->JX,replicate->JZ,mem_append->K0,mem_append_right->K1,mem_cons_of_mem->K5,map_cons->K7,toList_toArray->Kd,length_take->Kf,mem_of_getElem?->Kg,length_eq_zero_iff->Kl,length_cons->Kq,mem_cons_self->Ks,getElem?_set_self->Ku,append_nil->Kw,getElem?_map->KA,mem_map->KD,not_mem_nil->KL,range->L4,getD_eq_getElem?_getD->Lb,drop_eq_getElem_cons->Le,replicate_succ->Lg,take_append_drop->Li,find?_cons->Lm,length_nil->Ln,mem_append_left->Lp,lookup_cons->Lr,mem_iff_getElem->Ls,all_eq_true->Lu,mem_map_of_mem->Ly,filter_append->LH,any_cons->LJ,flatten_cons->LV,map_nil->LZ,drop_eq_nil_of_le->Ma,nil_append->Ml,getElem?_set_ne->Mq,pairwise_map->Mv,map_map->Mw,all_cons->My,eraseIdx_eq_take_drop_succ->MA,length_pos_iff->MD,getElem?_cons_succ->MK,filter_cons_of_neg->MM,filter_cons_of_pos->MN,length->MQ,take_of_length_le->MZ,length_singleton->Nc,length_filter_le->Nf,perm_append_comm->Nh,length_range->Nl,mem_range->Nm,mem_of_mem_drop->Nw,mem_of_mem_take->Nx,mem_reverse->NF,filterMap_cons->NG,zipIdx_map_fst->NJ,getElem?_take_of_lt->NM,nodup_cons->NS,contains_cons->NY,getElem?_drop->O0,Perm->O4,reverse_cons->Oc,extract->Oe,ext_getElem?->Of,reverse_perm->Og,foldl->Oq,length_drop->Ox,set_comm->OB,getElem?_zipIdx->OL,mem_filter->OM,forIn_cons->OQ,dropLast_concat_getLast->OT,filter_map->OW,pairwise_cons->Pf,drop_drop->Pg,getElem?_replicate->Q2,filter_cons->Q5,drop_length->Qc,getElem?_cons_zero->Qf,append_cancel_left->Qh,of_mem_zip->Qy,foldl_cons->Qz,length_replicate->QC,pairwise_reverse->QG,dropLast_eq_take->QH,getElem?_mapIdx->QS,length_reverse->Rb,map_congr_left->Rc,mem_filterMap->Rr,set_cons_zero->RC,set_cons_succ->RE,mem_singleton->RH,all_map->Sa,take_add_one->Sb,getElem_mem->Sy,cons_append->Sz,perm_middle->SD,map_snd_zip->SH,any_eq_true->SK,length_set->T9
open PyProof.Rows renaming Keyed->JH,wpS_bind->JI,arrOf->Ke,SortSt->KI,wpS_forRange->KJ,pendingOf->La,kindOf->Lk,failedOf->LO,assignInOrder_cons->Md,callWith_type1->Ni,wpS_modify->Ny,SortKind->NQ,get?_update_seq->NV,envOfC->NX,callWith_builtin1->Oo,wpS_get->OF,listUpdate_at->OG,AllBare->OZ,mem_zip_self->P4,assignInOrder_nil->Pu,seqSlot_of->Qa,intBits_le->Qg,subscriptTail_builtinR->Qn,unpackItems_tuple->RJ,listItems_at->Se,seqObj->SG,keyKind'_eq->SY,seqEpoch_at->T1,IntsAre->To
open Nat renaming le_refl->JL,ne_of_lt->K6,le_trans->Ka,lt_of_lt_of_le->Kc,lt_irrefl->Lc,zero_le->LM,ne_of_gt->Mr,le_of_lt->Nz,min_eq_left->NU,le_succ->Py,lt_succ_of_lt->Pz,succ_le_succ->Qb,add_sub_cancel->RA,one_le_two_pow->RF,lt_trans->RY,sub_self->Sd,add_zero->Si,not_lt_zero->Th,not_lt->Tw,succ->TJ
open Array renaming toList_append->JM,toList_push->JV,getElem?_toList->K9,toList_reverse->Kj,length_toList->Kn,getElem?_eq_getElem->KS,toList_extract->LQ,size_append->Nj,getD_eq_getD_getElem?->Nk,getElem?_eq_some_iff->Nu,getElem?_eq_none->Oi,toList_inj->Oy,map->Oz,size_push->OU,toList->Ql,append_assoc->Rq,find?_toList->Rt,all_eq_true->Sf,filterMap->Tg,replicate->Ti
open PySem.W renaming mg_of->JY,findIn->KY,kia_one->KZ,keepIn->Lw,InstAt->Mf,fnOf->Ms,kitOne->Nq,looks_findIn->Nv,nsIn->ND,findObj->NT,cellsFrom_some->O8,mroIn->OC,subIn->OD,codeIn->P8,isNs_of_in->Pa,methodObj->Pt,specialIn->Pw,excIn->PQ,instObj->Qx,OpenLaw->QA,lookIn->QM,kitAny->QX,looks_subIn->R9,clsIn->Rg,callWith_K->Ru,tail_of_in->Rx,looks_find->Ry,mg_none_of->RG,kitx_list->RP,kitx_dict->RQ,plainGet->So,takesIn->T8
open PySem.Value renaming ref->K3,none->Kx,type->KU,int->N9,str->PY,bool->Qj,float->SR
open PySem.NameKind renaming free->Ki,cell->LK
open PySem.PyData renaming eqv->Kk,canLayAll0->L8,depthAll->LY,depth->N5,eqvAll->NR,canLay0->Oh,strOk->S8,list->SW
open Option renaming bind_some->KN,isSome_iff_exists->Ll,some->Lo,map_some->Lz,isSome_map->Mt,isSome_some->Rw,join_some->SM,bind_none->SN,join_none->SO,getD_some->SQ
open List.Perm renaming append_right->KW,append_left->L5,refl->Ph,of_eq->Td
open Int renaming toNat_natCast->Lh,toNat_of_nonneg->NI,emod_lt_of_pos->O1,emod_nonneg->OV
open PySem.SeqAt renaming readOf->Lx,readOf_eq->Mo,eqAt_reads->SE
open PySem.Obj renaming isFreed_of_fields->LC,data_mapFields->Mg,mapFields->Mz,mapSeq->MW,cls_mapFields->S0
open True renaming intro->LX
open PySem.Paired renaming length->Mb
open PySem.F renaming slot_tuple_iterator_next->Mh,slot_enumerate_next->Ng,args_tuple_add_2->NN,entry_tuple_add->O2,slot_tuple_add->O9,slot_dict_get->Ol,slot_int_rmul->OO,args_tuple_iterator_next_1->OR,entry_tuple_iterator_next->P1,slot_dict_delitem->Po,slot_list_insert->PV,args_dict_get_3->Q6,plainAttrs_dict->Q7,args_enumerate_next_1->Q9,plainAttrs_list->Qe,entry_dict_get->Qr,entry_enumerate_next->Qu,slot_dict_pop->QE,slot_dict_ne->QV,excBase_ValueError->QW,args_int_rmul_2->RW,entry_int_rmul->Ss,slot_dict_iter->SJ,fills_int_mul->Ta,entry_bexc_ga->Tc,slot_tuple_lt->Tf,slot_dict_len->Tj
open LawfulBEq renaming eq_of_beq->Mn
open ForInStep renaming yield->N7
open PySem.Calls renaming evalArgs_plain->Nr,spliced_cons->NW,callWith_builtin->Ob,Name_function_global->P7,spliced_nil->Px
open PySem.Builtin.List renaming listTooLong->NO,listLengthHint->P5,listFitsIndex->Pm
open PySem.Around renaming in1_handled->NZ,under->RT
open Sum renaming inr->O5,inl->Qi
open PySem.Builtin.Tuple renaming tupleCompareSizes->Oj,tupleTooMany->Pe,tupleHashOf->Pq
open And renaming intro->Ot
open PyProof.Rows.SortSt renaming mk'->Ow
open PySem.Data renaming seq->OI
open PySem.Builtin.Int renaming intBits->OY
open PySem.Builtin.Dict_items renaming isOneOf->Pj
open PySem.Code renaming quiet_builtin->Pk,isFrame->RU
open PySem.Builtin.ObjectAttr renaming bindTo->Pp
open PySem.Builtin.Dict renaming dictSlotArgs->Pr,samePairs->Qw
open Option.some renaming injEq->PH
open PySem.Env renaming blockKind->PX,kindOf->RB
open Exists renaming intro->Qv
open PySem.Expr renaming Subscript->QY,Attribute->QZ,Constant->Ri,ListComp->Rj,UnaryOp->Sk,Compare->Sl,BoolOp->T3,BinOp->Tx,IfExp->Tz,Tuple->TB,Name->TL,List->TM,Call->TN,Dict->TQ
open PyProof.Rows.IsTup renaming new->R1
open PySem.EntryCells renaming newEntry->R8
open PySem.Heap.SameBut renaming update->Ra
open PySem.Stmt renaming Continue->Rk,Assign->T5,Delete->T6,Return->T7,While->TF,Break->TH,Expr->TR,Pass->TU
open PySem.SeqAt.EqAt renaming int_str->Ro,str_int->Rp
open List.Pairwise renaming nil->RX
open PySem.Flow renaming next->Sn
open List.cons renaming injEq->Te
open Iff renaming rfl->Tq
open Option renaming some->S,none->Z
open Bool renaming true->Uo,false->Up
open PySem renaming Addr->Uq
section
theorem Ur{a b c:Nat}(h:b<=c)(k:a<=b):a<=c:=Nat.le_trans k h
theorem Us{a b c:Nat}(h:b<=c)(k:a+1<=b):a<=c-1:=Nat.le_sub_of_add_le (Nat.le_trans k h)
theorem Ut{a b:Nat}(h:Nat.ble (a+1) b=true):a<b:=Nat.le_of_ble_eq_true h
local macro_rules|`(∅)=>`(by first|with_reducible assumption|with_reducible exact Nat.le_of_ble_eq_true rfl|with_reducible exact Ut rfl|exact Ur (by with_reducible assumption) (by with_reducible exact Nat.le_of_ble_eq_true rfl)|exact Us (by with_reducible assumption) (by with_reducible exact Nat.le_of_ble_eq_true rfl)|lia)
namespace L2
open PySem PySem.Spec PyProof.Rows
section
noncomputable abbrev Key:=Sum Int Str
noncomputable def gR:Key->h6->Bool
 |.inl k,v=>Value.isInt k v
 |.inr x,v=>Value.isStrOf x v
noncomputable def Ez(w:K8):Key->Int
 |.inl k=>hashInt k
 |.inr x=>hashStr w x
theorem b7:∀{k:Key} {v:h6},gR k v=Uo->(∃i t,k=Qi i/\v=N9 i t)∨(∃x t,k=O5 x/\v=PY x t)
 |.inl i,v,h=>by obtain⟨t,e⟩:=Value.isInt_shape (k:=i) (v:=v) h;exact .inl ⟨i,t,rfl,e⟩
 |.inr x,v,h=>by obtain⟨t,e⟩:=Value.isStrOf_shape (x:=x) (v:=v) h;exact .inr ⟨x,t,rfl,e⟩
theorem ub(i:Int)(t:Tok):gR (.inl i) (.int i t)=Uo:=by simp[gR,Value.isInt]
theorem uc(x:Str)(t:Tok):gR (.inr x) (.str x t)=Uo:=by simp[gR,Value.isStrOf]
theorem Bp(a b:Int):decide ((Qi a:Key)=Qi b)=(a==b):=by
 by_cases e:a=b
 ·subst e;simp
 ·have h:¬(Qi a:Key)=Qi b:=λq=>e (Qi.inj q);rw[decide_eq_false h];exact(beq_eq_false_iff_ne.mpr e).symm
theorem Bq(a b:Str):decide ((O5 a:Key)=O5 b)=decide (a=b):=by
 by_cases e:a=b
 ·subst e;simp
 ·have h:¬(O5 a:Key)=O5 b:=λq=>e (O5.inj q);rw[decide_eq_false h,decide_eq_false e]
theorem Br(a:Int)(b:Str):decide ((Qi a:Key)=O5 b)=Up:=decide_eq_false (λq=>nomatch q)
theorem Bs(a:Str)(b:Int):decide ((O5 a:Key)=Qi b)=Up:=decide_eq_false (λq=>nomatch q)
noncomputable def aH(prog:JR)(w:K8):PySem.KeyKind prog w Key where
 is:=gR
 hash:=Ez w
 inj:=λv a b ha hb=>by
  rcases b7 ha with⟨i,t,rfl,rfl⟩|⟨x,t,rfl,rfl⟩
  ·rcases b7 hb with⟨j,u,rfl,e⟩|⟨y,u,rfl,e⟩
   ·injection e with e1 _;rw[e1]
   ·exact nomatch e
  ·rcases b7 hb with⟨j,u,rfl,e⟩|⟨y,u,rfl,e⟩
   ·exact nomatch e
   ·injection e with e1 _;rw[e1]
 byValue:=λk v h=>by rcases b7 h with⟨i,t,rfl,rfl⟩|⟨x,t,rfl,rfl⟩<;>rfl
 pyHash:=λhv h=>by
  rcases b7 hv with⟨i,t,rfl,rfl⟩|⟨x,t,rfl,rfl⟩
  ·exact wpAny_pyHash_int h
  ·exact wpAny_pyHash_str h
 eqBool:=λhu hv h=>by
  rcases b7 hu with⟨i,t,rfl,rfl⟩|⟨x,t,rfl,rfl⟩
  ·rcases b7 hv with⟨j,u,rfl,rfl⟩|⟨y,u,rfl,rfl⟩
   ·rw[Bp]at h;exact wpAny_eqBool_int h
   ·rw[Br]at h;exact Ro i t y u _ _ _ _ h
  ·rcases b7 hv with⟨j,u,rfl,rfl⟩|⟨y,u,rfl,rfl⟩
   ·rw[Bs]at h;exact Rp x t j u _ _ _ _ h
   ·rw[Bq]at h;exact wpAny_eqBool_str h
 «strs»:=λk x t v h=>by
  rcases b7 h with⟨i,u,rfl,e⟩|⟨y,u,rfl,e⟩
  ·exact nomatch e
  ·injection e with e1 _
   subst e1
   cases v<;>rfl
theorem qG(prog:JR)(w:K8)(i:Int)(t:Tok):(aH prog w).is (.inl i) (.int i t)=Uo:=ub i t
theorem qH(prog:JR)(w:K8)(x:Str)(t:Tok):(aH prog w).is (.inr x) (.str x t)=Uo:=uc x t
end
variable{us:List h6}{a b:Uq}{P:JR}{w:K8}{h:Heap}
section
inductive V where
 |non|bl (b:Bool)|int (i:Int)|str (x:Str)|byt (b:Array UInt8)|flt (b:UInt64)|ref (a:Uq)|ty (n:String)
 deriving DecidableEq
noncomputable def RelV:V->h6->Prop
 |.non,u=>u=Kx
 |.bl b,u=>u=Qj b
 |.int i,u=>∃t,u=N9 i t
 |.str x,u=>∃t,u=PY x t
 |.byt b,u=>∃t,u=Value.bytes b t
 |.flt b,u=>∃t,u=SR b t
 |.ref a,u=>u=K3 a
 |.ty n,u=>u=KU n
noncomputable abbrev Vals:List V->List h6->Prop:=Kv RelV
theorem Vals.length{xs:List V}(r:Vals xs us):xs.length=us.length:=Mb r
theorem Vals.get:∀{xs:List V} {us:List h6} {i:Nat} {x:V},Vals xs us->xs[i]?=S x->∃u,us[i]?=S u/\RelV x u
 |_,_,_,_,.nil,e=>by simp at e
 |_,_,0,_,.cons r _,e=>by simp at e;subst e;exact⟨_,rfl,r⟩
 |_,_,i+1,x,.cons _ t,e=>by
  obtain⟨u,h1,h2⟩:=Vals.get (i:=i) (x:=x) t (by simpa using e)
  exact⟨u,by simpa using h1,h2⟩
theorem Vals.set{x:V}{u:h6}(r:RelV x u):∀{xs:List V} {us:List h6} (i:Nat),Vals xs us->Vals (xs.set i x) (us.set i u)
 |_,_,_,.nil=>.nil
 |_,_,0,.cons _ t=>.cons r t
 |_,_,i+1,.cons q t=>.cons q (Vals.set r i t)
theorem Vals.append:∀{xs ys:List V} {us ws:List h6},Vals xs us->Vals ys ws->Vals (xs++ys) (us++ws)
 |_,_,_,_,.nil,s=>s
 |_,_,_,_,.cons r t,s=>.cons r (Vals.append t s)
theorem Vals.take:∀{xs:List V} {us:List h6} (n:Nat),Vals xs us->Vals (xs.take n) (us.take n)
 |_,_,0,_=>.nil
 |_,_,_+1,.nil=>.nil
 |_,_,n+1,.cons r t=>.cons r (Vals.take n t)
theorem Vals.drop:∀{xs:List V} {us:List h6} (n:Nat),Vals xs us->Vals (xs.drop n) (us.drop n)
 |_,_,0,r=>r
 |_,_,_+1,.nil=>.nil
 |_,_,n+1,.cons _ t=>Vals.drop n t
noncomputable def RelO:Option V->Option h6->Prop
 |some v,S u=>RelV v u
 |none,Z=>True
 |_,_=>False
noncomputable def KV{κ:Type}:List (κ×V)->List (κ×h6)->Prop:=Kv λ(p:κ×V) (q:κ×h6)=>p.1=q.1/\RelV p.2 q.2
noncomputable def kV:Key->V
 |.inl i=>.int i
 |.inr x=>.str x
inductive HO where
 |lst (xs:List V)
 |tup (xs:List V)
 |dK (kvs:List (Key×V))|dT (kvs:List (List Key×V))
 |set (F3:Int->Bool) (n:Nat)
 |ins (C dx:Uq) (fs:List (Str×V))
 |own (x:Uq)
 |xd (fs:List (Str×V))
 |met (f x:Uq)
 |rng (lo hi:Int)
 |frz (o:Obj) (u:HO)
 |tbl (ps:Array h6)
 |ext (φ:Heap->Prop)
noncomputable abbrev Hp:=Uq->Option HO
noncomputable def upd(H:Hp)(a:Uq)(o:HO):Hp:=λb=>if b=a then S o else H b
theorem ar{H:Hp}{o:HO}:upd H a o a=S o:=by unfold upd;rw[if_pos rfl]
theorem aj{H:Hp}{o:HO}(h:b≠a):upd H a o b=H b:=by unfold upd;rw[if_neg h]
theorem Dl{H:Hp}{o u:HO}(h:H a=S o)(h':H b=S u)(d:o≠u):a≠b:=by intro e;subst e;rw[h]at h';exact d (Lo.inj h')
theorem bh{H:Hp}{o:HO}(h:H a=S o)(h':H b=Z):a≠b:=by intro e;subst e;rw[h]at h';cases h'
section
variable(P:JR)(w:K8)
noncomputable def ObjOk(H:Hp)(h:Heap)(a:Uq):HO->Prop
 |.lst xs=>xs.length<=D2/\∃(its:List h6) (n:Nat),Vals xs its/\h.get? a=S {cls:=.type "list",data:=.seq its.toArray n}
 |.tup xs=>xs.length<=D2/\∃its:List h6,Vals xs its/\IsTup h a its.toArray
 |.dK kvs=>kvs.length<=D2/\(a==KG)=Up/\∃vs,KV kvs vs/\h.DictOf (aH P w) a vs
 |.dT kvs=>kvs.length<=D2/\(a==KG)=Up/\∃xs:List (List Key×Uq×h6),
  Kv (λ(p:List Key×V) (q:List Key×Uq×h6)=>p.1=q.1/\H q.2.1=S (.tup (p.1.map kV))/\RelV p.2 q.2.2) kvs xs /\
  ∃o es ep,h.get? a=S o/\o.ExactDict/\o.data=.dict es ep/\es.toList=xs.map (entryOfKey (P6 (aH P w)))/\(xs.map (·.1)).Nodup
 |.set F3 n=>h.SetOf (RI P w) a F3 n
 |.ins C dx fs=>H dx=S (.own a)/\fs.length<=1000/\dx≠a/\h.get? a=S (Qx C dx) /\
  ∃mA,h.Ns1 dx mA/\(∀f,RelO (fs.lookup f) (mA f))/\PySem.Within mA (fs.map (·.1))
 |.own _=>∃o,h.get? a=S o
 |.xd fs=>∃mA,h.Ns1 a mA/\∀f,RelO (fs.lookup f) (mA f)
 |.rng lo hi=>∃t u v,h.get? a=S {cls:=.type "range",data:=.fields #[.int lo t,.int hi u,.int 1 v]}
 |.frz o u=>h.get? a=S o/\ObjOk H h a u
 |.tbl ps=>h.get? a=S {cls:=.none,data:=.fields ps}
 |.met f x=>h.get? a=S (Pt (.ref f) (.ref x))
 |.ext φ=>φ h/\(∃o,h.get? a=S o)/\∀h1 h2:Heap,φ h1->(∀o,h1.get? a=S o->h2.get? a=S o)->φ h2
def HOk(H:Hp)(h:Heap):Prop:=∀a o,H a=S o->ObjOk P w H h a o
end
section
variable{P:JR}{w:K8}{H H':Hp}{h h':Heap}{a:Uq}{o:HO}
theorem ObjOk.lt(x:ObjOk P w H h a o):a<h.objs.size:=by
 cases o with
 |lst xs=>obtain⟨_,_,_,_,e⟩:=x;exact JJ e
 |tup xs=>obtain⟨_,_,_,p⟩:=x;exact p.lt
 |dK kvs=>obtain⟨_,_,_,_,o,_,_,e,_⟩:=x;exact JJ e
 |dT kvs=>obtain⟨_,_,_,_,o,_,_,e,_⟩:=x;exact JJ e
 |set F3 n=>obtain⟨o,_,_,_,e,_⟩:=x;exact JJ e
 |ins C dx fs=>obtain⟨_,_,_,e,_⟩:=x;exact JJ e
 |own y=>obtain⟨_,e⟩:=x;exact JJ e
 |xd fs=>obtain⟨_,⟨_,_,_,e,_⟩,_⟩:=x;exact JJ e
 |rng lo hi=>obtain⟨_,_,_,e⟩:=x;exact JJ e
 |frz ob u=>obtain⟨e,_⟩:=x;exact JJ e
 |tbl ps=>exact JJ (show h.get? a=S _ from x)
 |met f y=>exact JJ (show h.get? a=S _ from x)
 |ext φ=>obtain⟨_,⟨_,e⟩,_⟩:=x;exact JJ e
theorem U0{α β:Type}{F G:α->β->Prop}:∀{l₁:List α} {l₂:List β},Kv F l₁ l₂->(∀a b,F a b->G a b)->Kv G l₁ l₂
 |_,_,.nil,_=>.nil
 |_,_,.cons r t,f=>.cons (f _ _ r) (U0 t f)
theorem Uh{α β:Type}{F G:α->β->Prop}(f:∀a b,F a b->G a b){l₁:List α}{l₂:List β}(r:Kv F l₁ l₂):Kv G l₁ l₂:=U0 r f
theorem ObjOk.stay(x:ObjOk P w H h a o)(k:∀b u,(b=a∨H b=S (.own a))->h.get? b=S u->h'.get? b=S u)(ho:∀b,H b=S (.own a)->H' b=S (.own a))(j:∀b xs,H b=S (.tup xs)->H' b=S (.tup xs)):ObjOk P w H' h' a o:=by
 induction o with
 |lst xs=>obtain⟨z,its,n,r,e⟩:=x;exact⟨z,its,n,r,k _ _ (.inl rfl) e⟩
 |tup xs=>obtain⟨z,its,r,ob,e,c⟩:=x;exact⟨z,its,r,ob,k _ _ (.inl rfl) e,c⟩
 |dK kvs=>obtain⟨z,y,vs,r,ob,es,ep,e,c⟩:=x;exact⟨z,y,vs,r,ob,es,ep,k _ _ (.inl rfl) e,c⟩
 |dT kvs=>obtain⟨z,y,xs,r,ob,es,ep,e,c⟩:=x;exact⟨z,y,xs,U0 r λp q z=>⟨z.1,j _ _ z.2.1,z.2.2⟩,ob,es,ep,k _ _ (.inl rfl) e,c⟩
 |set F3 n=>obtain⟨ob,es,ep,t,e,c⟩:=x;exact⟨ob,es,ep,t,k _ _ (.inl rfl) e,c⟩
 |ins C dx fs=>obtain⟨d,z,ne,e,mA,⟨od,es,ep,F,c⟩,r⟩:=x;exact⟨ho _ d,z,ne,k _ _ (.inl rfl) e,mA,⟨od,es,ep,k _ _ (.inr d) F,c⟩,r⟩
 |own y=>obtain⟨ob,e⟩:=x;exact⟨ob,k _ _ (.inl rfl) e⟩
 |xd fs=>obtain⟨mA,⟨od,es,ep,e,c⟩,r⟩:=x;exact⟨mA,⟨od,es,ep,k _ _ (.inl rfl) e,c⟩,r⟩
 |rng lo hi=>obtain⟨t,u,v,e⟩:=x;exact⟨t,u,v,k _ _ (.inl rfl) e⟩
 |frz ob u ih=>obtain⟨e,q⟩:=x;exact⟨k _ _ (.inl rfl) e,ih q⟩
 |tbl ps=>have e:h.get? a=S {cls:=.none,data:=.fields ps}:=x;show h'.get? a=S {cls:=.none,data:=.fields ps};exact k a _ (.inl rfl) e
 |met f y=>have e:h.get? a=S (Pt (.ref f) (.ref y)):=x;show h'.get? a=S (Pt (.ref f) (.ref y));exact k a _ (.inl rfl) e
 |ext φ=>obtain⟨p,⟨o,e⟩,st⟩:=x;exact⟨st _ _ p λo q=>k _ _ (.inl rfl) q,⟨o,k _ _ (.inl rfl) e⟩,st⟩
theorem HOk.lt(x:HOk P w H h)(e:H a=S o):a<h.objs.size:=(x a o e).lt
theorem HOk.fresh(x:HOk P w H h)(e:h.objs.size<=a):H a=Z:=by
 cases q:H a with
 |none=>rfl
 |some u=>exact absurd (Kc (x.lt q) e) (Lc _)
theorem HOk.kept(x:HOk P w H h)(k:∀b u,h.get? b=S u->h'.get? b=S u):HOk P w H h':=λa o e=>(x a o e).stay (λb u _ q=>k b u q) (λ_ q=>q) λ_ _ q=>q
theorem HOk.laid(x:HOk P w H h)(k:∀b u,h.get? b=S u->h'.get? b=S u)(j:h.objs.size<=a)(new:ObjOk P w (upd H a o) h' a o):HOk P w (upd H a o) h':=λb u e=>by
 have hn:=x.fresh j
 by_cases hb:b=a
 ·subst hb;rw[ar]at e;cases e;exact new
 ·rw[aj hb]at e;exact(x b u e).stay (λc v _ q=>k c v q) (λc q=>by rw[aj (bh q hn)];exact q) λc xs q=>by rw[aj (bh q hn)];exact q
end
def Rd(H:Hp)(a:Uq)(u:HO):Prop:=H a=S u∨∃o,H a=S (.frz o u)
theorem Rd.of{H:Hp}{u:HO}(h:H a=S u):Rd H a u:=.inl h
theorem Rd.ok{H:Hp}{u:HO}(r:Rd H a u)(x:HOk P w H h):ObjOk P w H h a u:=by
 rcases r with r|⟨o,r⟩
 ·exact x a u r
 ·obtain⟨_,q⟩:=x a _ r;exact q
noncomputable def Mut:Option HO->Prop
 |some (.lst _)=>True
 |some (.dK _)=>True
 |some (.dT _)=>True
 |some (.set _ _)=>True
 |some (.ins _ _ _)=>True
 |some (.ext _)=>True
 |_=>False
section
variable{P:JR}{w:K8}{H:Hp}{h h':Heap}{x e:Uq}{o':HO}
theorem HOk.write(ok:HOk P w H h)(mu:Mut (H x))(he:e=x∨H e=S (.own x))(k:∀b u,b≠e->h.get? b=S u->h'.get? b=S u)(J:∃u,h'.get? e=S u)(new:ObjOk P w (upd H x o') h' x o'):HOk P w (upd H x o') h':=λb u q=>by
 have nown:∀c y,H c=S (.own y)->c≠x:=λc y r z=>by subst z;rw[r]at mu;exact mu
 have ntup:∀c xs,H c=S (.tup xs)->c≠x:=λc xs r z=>by subst z;rw[r]at mu;exact mu
 by_cases hb:b=x
 ·subst hb;rw[ar]at q;cases q;exact new
 ·rw[aj hb]at q
  by_cases j:b=e
  ·have q':H b=S (.own x):=by
    rcases he with z|z
    ·exact absurd (j.trans z) hb
    ·rw[j];exact z
   rw[q]at q';cases q';obtain⟨v,L⟩:=J;exact⟨v,by rw[j];exact L⟩
  ·refine(ok b u q).stay (λc v F r=>k c v ?_ r) (λc r=>by rw[aj (nown c b r)];exact r) λc xs r=>by rw[aj (ntup c xs r)];exact r
   rcases F with rfl|F
   ·exact j
   ·rintro rfl
    rcases he with z|z
    ·exact nown c b F z
    ·rw[F]at z;cases z;exact hb rfl
end
structure Un(fs ex:List Uq)(H H':Hp)(h h':Heap):Prop where
 keep:∀b o,h.get? b=S o->H b=Z->b∉fs->b∉ex->h'.get? b=S o
 slot:∀b o,h.get? b=S o->H b=Z->b∈fs->b∉ex->∃sl,h'.get? b=S {o with slots:=sl}
 free:∀b o,h.get? b=S o->H b=Z->b∉ex->H' b=Z
 there:∀b o,h.get? b=S o->b∉ex->∃o',h'.get? b=S o'
 tups:∀b xs,H b=S (.tup xs)->H' b=S (.tup xs)
 frzs:∀b o u,H b=S (.frz o u)->H' b=S (.frz o u)
 tbls:∀b ps,H b=S (.tbl ps)->∃more,H' b=S (.tbl (ps++more))
section
variable{fs fs' ex ex':List Uq}{H H1 H2:Hp}{h h1 h2 h':Heap}{a x e:Uq}{o:HO}
theorem Un.any(u:Un fs ex H H1 h h1){ob:Obj}(q:h.get? b=S ob)(n:H b=Z)(hx:b∉ex):∃sl,h1.get? b=S {ob with slots:=sl}:=by
 by_cases j:b∈fs
 ·exact u.slot b ob q n j hx
 ·exact⟨ob.slots,u.keep b ob q n j hx⟩
theorem Un.trans(a:Un fs ex H H1 h h1)(b:Un fs ex H1 H2 h1 h2):Un fs ex H H2 h h2 where
 keep:=λc ob q n z hx=>b.keep c ob (a.keep c ob q n z hx) (a.free c ob q n hx) z hx
 slot:=λc ob q n z hx=>by obtain⟨sl,j⟩:=a.slot c ob q n z hx;obtain⟨sl',F⟩:=b.slot c _ j (a.free c ob q n hx) z hx;exact⟨sl',F⟩
 free:=λc ob q n hx=>by obtain⟨o',j⟩:=a.there c ob q hx;exact b.free c o' j (a.free c ob q n hx) hx
 there:=λc ob q hx=>by obtain⟨o',j⟩:=a.there c ob q hx;exact b.there c o' j hx
 tups:=λc xs q=>b.tups c xs (a.tups c xs q)
 frzs:=λc ob xs q=>b.frzs c ob xs (a.frzs c ob xs q)
 tbls:=λc ps q=>by obtain⟨J,j⟩:=a.tbls c ps q;obtain⟨L,F⟩:=b.tbls c _ j;exact⟨J++L,by rw[F,Rq]⟩
theorem Un.kept(k:∀b u,h.get? b=S u->h'.get? b=S u):Un fs ex H H h h':=⟨λb ob q _ _ _=>k b ob q,λb ob q _ _ _=>⟨ob.slots,k b ob q⟩,λ_ _ _ n _=>n,λb ob q _=>⟨ob,k b ob q⟩,λ_ _ q=>q,λ_ _ _ q=>q,λ_ ps q=>⟨#[],by rw[q];simp⟩⟩
theorem Un.refl:Un fs ex H H h h:=Un.kept λ_ _ q=>q
theorem Un.laid(k:∀b u,h.get? b=S u->h'.get? b=S u)(j:h.objs.size<=a)(hn:H a=Z):Un fs ex H (upd H a o) h h' where
 keep:=λb u q _ _ _=>k b u q
 slot:=λb u q _ _ _=>⟨u.slots,k b u q⟩
 free:=λb u q n _=>by rw[aj (K6 (Kc (JJ q) j))];exact n
 there:=λb u q _=>⟨u,k b u q⟩
 tups:=λb xs q=>by rw[aj (bh q hn)];exact q
 frzs:=λb u xs q=>by rw[aj (bh q hn)];exact q
 tbls:=λb ps q=>⟨#[],by rw[aj (bh q hn),q];simp⟩
theorem Un.write(mu:Mut (H x))(he:e=x∨H e=S (.own x))(k:∀b u,b≠e->h.get? b=S u->h'.get? b=S u)(F:∃u,h'.get? e=S u):Un fs ex H (upd H x o) h h':=by
 have hx:∀b,H b=Z->b≠x:=λb n z=>by subst z;rw[n]at mu;exact mu
 have J:∀b,H b=Z->b≠e:=λb n z=>by
  subst z
  rcases he with r|r
  ·exact hx b n r
  ·rw[n]at r;cases r
 have hm:∀b u,H b=S u->¬Mut (S u)->b≠x:=λb u q nm z=>by subst z;rw[q]at mu;exact nm mu
 refine⟨λb u q n _ _=>k b u (J b n) q,λb u q n _ _=>⟨u.slots,k b u (J b n) q⟩,λb u q n _=>by rw[aj (hx b n)];exact n,λb u q _=>?_,
  λb xs q=>by rw[aj (hm b _ q λz=>z)];exact q,λb u xs q=>by rw[aj (hm b _ q λz=>z)];exact q,λb ps q=>⟨#[],by rw[aj (hm b _ q λz=>z),q];simp⟩⟩
 by_cases j:b=e
 ·subst j;exact F
 ·exact⟨u,k b u j q⟩
end
noncomputable def trk(h:Heap)(H:Hp):List Uq:=(L4 h.objs.size).filter λa=>(H a).isSome
noncomputable def fS(h:Heap)(H:Hp):Heap:=PySem.W.hideAll h (trk h H)
theorem ud(h:Heap)(H:Hp):(fS h H).objs.size=h.objs.size:=PySem.W.hideAll_size _ _
theorem wJ{H:Hp}{o:Obj}(e:h.get? b=S o)(n:H b=Z):(fS h H).get? b=S o:=
 PySem.W.hideAll_get _ e λhm=>by have q:(H b).isSome=Uo:=(OM.mp hm).2;rw[n]at q;simp at q
theorem zL{H:Hp}{o:Obj}(e:(fS h H).get? b=S o):h.get? b=S o/\H b=Z:=by
 have e':h.get? b=S o:=PySem.W.of_hideAll (trk h H) e;refine⟨e',?_⟩
 cases q:H b with
 |none=>rfl
 |some x=>
  have hm:b∈trk h H:=OM.mpr ⟨Nm.mpr (JJ e'),by simp[q]⟩
  have z:(fS h H).get? b=Z:=PySem.W.hideAll_none (trk h H) hm;rw[z]at e;cases e
noncomputable def zM(g h:Heap)(L:Uq):List (Uq×Obj):=(L4 h.objs.size).filterMap λa=>if a=L∨(g.get? a).isSome=Uo then Z else(h.get? a).map λo=>(a,o)
noncomputable def rest(g h:Heap)(L d:Uq):List (Uq×Obj):=(zM g h L).filter λp=>decide (p.1≠d)
end
variable{H:Hp}{o:HO}{u:h6}{t' i j:Nat}{ch:List Uq}{x:Str}{e:Expr}{N:List Str}{M:MP}{A:K2}{v:V}{s:i4}
section
structure Mod(K:Frag)(mg:Str->Option h6)(base:Heap):Prop where
 kin:K.In base
 glob:base.Ns KR mg
 blt:∃mb,base.Ns Qk mb/\∀x:Str,x≠"__name__"->mb x=Mp x
 nolimit:base.NoLimit
structure Cx where
 prog:JR
 w:K8
 K:Frag
 mg:Str->Option h6
 base:Heap
 A:K2
 N:List Str
 s₀:i4
 H₀:Hp
 env:Env
 outer:List Env
 stack:List Env
 ex:List Uq
 fn:Str->Bool
 calm:Bool
 pn:List (Uq×Obj)
 xe:h6->i4->Prop
noncomputable def frs(l:List Env):List Uq:=l.filterMap (·.frame)
noncomputable abbrev Cx.fs(X:Cx):List Uq:=frs X.outer
def Vis(sc:Scope)(x:Str):Prop:=sc.names.lookup x=S .local∨sc.names.lookup x=S .cell∨sc.names.lookup x=S .free
def Loc(sc:Scope)(x:Str):Prop:=sc.names.lookup x=S .local∨sc.names.lookup x=S .cell
def Bt(env:Env)(h:Heap)(m:Str->Option h6)(x:Str)(u:h6):Prop:=(env.kindOf x=S .local/\m x=S u)∨((env.kindOf x=S .cell∨env.kindOf x=S .free)/\∃c,env.cells.lookup x=S c/\h.IsCell c (S u))
structure Cx.Ok(X:Cx):Prop where
 mod:Mod X.K X.mg X.base
 kind:X.env.scope.kind=.function
 glob:X.env.globals=KR
 blt:X.env.builtins=Qk
 above:X.s₀.heap.objs.size<=X.env.locals
 inj:∀x y c,X.env.cells.lookup x=S c->X.env.cells.lookup y=S c->x=y
 has:∀x,(X.env.kindOf x=S .cell∨X.env.kindOf x=S .free)->∃c,X.env.cells.lookup x=S c
 cab:∀x c,X.fn x=Uo->X.env.cells.lookup x=S c->X.s₀.heap.objs.size<=c
 hd:X.calm=Uo->X.A.handled=Z
 frames:X.A.frames=S X.stack
 stk:X.stack=X.outer∨(X.stack=X.env::X.outer/\X.env.frame=S X.env.locals)
 exf:∀b∈X.ex,b≠X.env.locals/\∀x c,X.env.cells.lookup x=S c->c≠b
 bs:∀b o,X.base.get? b=S o->X.s₀.heap.get? b=S o/\X.H₀ b=Z
 bsz:X.base.objs.size<=X.s₀.heap.objs.size
 noex:∀b o,X.base.get? b=S o->b∉X.ex
 exfs:∀b∈X.ex,b∉X.fs
 funs:X.s₀.heap.FunFrames X.base X.outer
 frf:∀b∈X.fs,X.H₀ b=Z
structure Inv(X:Cx)(pins:List (Uq×Obj))(σ:List (Option V))(H:Hp)(s:i4):Prop where
 ok:X.Ok
 os:s.os=X.s₀.os
 bare:OZ s.gens
 base:Un X.fs X.ex X.H₀ H X.s₀.heap s.heap
 loc:∃m,s.heap.Ns X.env.locals m/\∀(i:Nat) (x:Str) (v:V),X.N[i]?=S x->σ[i]?=S (S v)->Vis X.env.scope x->∃u,RelV v u/\Bt X.env s.heap m x u
 cell:∀x c,X.env.cells.lookup x=S c->∃v,s.heap.IsCell c v
 free:H X.env.locals=Z
 freeC:∀x c,X.env.cells.lookup x=S c->H c=Z
 pin:∀p∈X.pn++pins,s.heap.get? p.1=S p.2/\H p.1=Z/\p.1≠X.env.locals/\p.1∉X.fs/\∀v,p.2.data≠.cell v
 hok:HOk X.prog X.w H s.heap
 len:σ.length=X.N.length
section
variable{X:Cx}{pins:List (Uq×Obj)}{σ:List (Option V)}{H H':Hp}{s:i4}{h':Heap}
theorem Cx.Ok.nofr(ok:X.Ok){o:Obj}(e:X.base.get? b=S o):b∉X.fs:=λj=>by have:=(ok.funs.mem j).1;rw[e]at this;cases this
theorem Inv.bs(I:Inv X pins σ H s):∀b o,X.base.get? b=S o->s.heap.get? b=S o/\H b=Z:=λb o e=>⟨I.base.keep b o (I.ok.bs b o e).1 (I.ok.bs b o e).2 (I.ok.nofr e) (I.ok.noex b o e),I.base.free b o (I.ok.bs b o e).1 (I.ok.bs b o e).2 (I.ok.noex b o e)⟩
theorem Inv.bk(I:Inv X pins σ H s):∀b o,X.base.get? b=S o->s.heap.get? b=S o:=λb o e=>(I.bs b o e).1
theorem Inv.mod(I:Inv X pins σ H s):Mod X.K X.mg X.base:=I.ok.mod
theorem Inv.kIn(I:Inv X pins σ H s):X.K.In s.heap:=I.ok.mod.kin.keeps I.bk
theorem Inv.lt(I:Inv X pins σ H s):X.env.locals<s.heap.objs.size:=let⟨_,hn,_⟩:=I.loc;hn.lt
theorem Inv.sz(I:Inv X pins σ H s):X.s₀.heap.objs.size<=s.heap.objs.size:=Ka I.ok.above (Nz I.lt)
theorem Inv.nofs(I:Inv X pins σ H s)(h:s.heap.objs.size<=a):a∉X.fs:=λj=>by obtain⟨_,o,ho,_⟩:=I.ok.funs.mem j;exact absurd (Kc (JJ ho) (Ka I.sz h)) (Lc _)
theorem Inv.cne(I:Inv X pins σ H s):∀x c,X.env.cells.lookup x=S c->c≠X.env.locals:=λx c e z=>by obtain⟨v,o,ho,hd⟩:=I.cell x c e;obtain⟨m,⟨o',es,ep,j,F,_⟩,_⟩:=I.loc;rw[z,j]at ho;cases ho;rw[F]at hd;cases hd
theorem Inv.funs(I:Inv X pins σ H s):s.heap.FunFrames X.base X.outer:=by
 have all:∀(l:List Env),(∀b∈frs l,b∈X.fs)->X.s₀.heap.FunFrames X.base l->s.heap.FunFrames X.base l:=by
  intro l
  induction l with
  |nil=>intro _ _;trivial
  |cons env r ih=>
   intro hs J;obtain⟨hk,⟨L,o,hf,hn,ho,hd⟩,hr⟩:=J;have j:L∈X.fs:=hs L (by unfold frs;rw[NG,hf];exact Ks)
   obtain⟨sl,e⟩:=I.base.slot L o ho (I.ok.frf L j) j λz=>I.ok.exfs L z j;exact⟨hk,⟨L,_,hf,hn,e,hd⟩,ih (λb F=>hs b (by unfold frs;rw[NG,hf];exact K5 _ F)) hr⟩
 exact all X.outer (λ_ F=>F) I.ok.funs
theorem Inv.stack(I:Inv X pins σ H s):s.heap.FunFrames X.base X.stack:=by
 rcases I.ok.stk with e|⟨e,hf⟩
 ·rw[e];exact I.funs
 ·rw[e];obtain⟨m,hn,_⟩:=I.loc;refine .cons (by rw[I.ok.kind];decide) hf hn ?_ I.funs
  exact OH (Ka I.ok.bsz I.ok.above)
theorem Inv.stkSub(I:Inv X pins σ H s):∀b∈frs X.stack,b∈X.env.locals::X.fs:=λb j=>by
 rcases I.ok.stk with e|⟨e,hf⟩
 ·rw[e]at j;exact K5 _ j
 ·rw[e]at j;unfold frs at j;rw[NG,hf]at j;exact j
theorem Inv.stkFree(I:Inv X pins σ H s):∀b∈frs X.stack,H b=Z:=λb j=>by
 rcases JS.mp (I.stkSub b j)with e|j
 ·rw[e];exact I.free
 ·obtain⟨_,o,ho,_⟩:=I.ok.funs.mem j;exact I.base.free b o ho (I.ok.frf b j) λz=>I.ok.exfs b z j
theorem Inv.step{g':Array PZ}{d':Drawn}(I:Inv X pins σ H s)(j:∀b∈ch,(b∈X.ex∨X.s₀.heap.objs.size<=b)/\b≠X.env.locals/\(∀x c,X.env.cells.lookup x=S c->c≠b)/\∀p∈X.pn++pins,p.1≠b)(keep:∀b o,b≠X.env.locals->b∉X.fs->b∉ch->s.heap.get? b=S o->H b=Z->h'.get? b=S o)(slot:∀b o,b≠X.env.locals->b∈X.fs->b∉ch->s.heap.get? b=S o->H b=Z->∃sl,h'.get? b=S {o with slots:=sl})(free:∀b o,b∉ch->s.heap.get? b=S o->H b=Z->H' b=Z)(there:∀b o,b∉ch->s.heap.get? b=S o->∃o',h'.get? b=S o')(tups:∀b xs,H b=S (.tup xs)->H' b=S (.tup xs))(frzs:∀b o u,H b=S (.frz o u)->H' b=S (.frz o u))(tbls:∀b ps,H b=S (.tbl ps)->∃more,H' b=S (.tbl (ps++more)))(ns:∀m,s.heap.Ns X.env.locals m->h'.Ns X.env.locals m)(hok:HOk X.prog X.w H' h')(Y:OZ g'):
 Inv X pins σ H' {s with heap:=h',gens:=g',drawn:=d',toks:=t'}:=by
 have neL:∀b o,X.s₀.heap.get? b=S o->b≠X.env.locals:=λb o e=>K6 (Kc (JJ e) I.ok.above);have neC:∀b o,X.s₀.heap.get? b=S o->b∉X.ex->b∉ch:=λb o e hx J=>by
  rcases(j b J).1 with z|z
  ·exact hx z
  ·exact absurd (Kc (JJ e) z) (Lc _)
 have cellK:∀x c,X.env.cells.lookup x=S c->∀v,s.heap.IsCell c v->h'.IsCell c v:=λx c e v ⟨o,ho,hd⟩=>by
  have nch:c∉ch:=λz=>(j c z).2.2.1 x c e rfl
  by_cases O:c∈X.fs
  ·obtain⟨sl,q⟩:=slot c o (I.cne x c e) O nch ho (I.freeC x c e);exact⟨_,q,hd⟩
  ·exact⟨o,keep c o (I.cne x c e) O nch ho (I.freeC x c e),hd⟩
 refine⟨I.ok,I.os,Y,⟨λb o e n J hx=>?_,λb o e n J hx=>?_,λb o e n hx=>?_,λb o e hx=>?_,λb xs e=>tups b xs (I.base.tups b xs e),λb o xs e=>frzs b o xs (I.base.frzs b o xs e),λb ps e=>?_⟩,?_,λx c e=>?_,?_,λx c e=>?_,λp U=>?_,hok,I.len⟩
 ·exact keep b o (neL b o e) J (neC b o e hx) (I.base.keep b o e n J hx) (I.base.free b o e n hx)
 ·obtain⟨sl,F⟩:=I.base.slot b o e n J hx;obtain⟨sl',L⟩:=slot b _ (neL b o e) J (neC b o e hx) F (I.base.free b o e n hx);exact⟨sl',L⟩
 ·obtain⟨o',F⟩:=I.base.there b o e hx;exact free b o' (neC b o e hx) F (I.base.free b o e n hx)
 ·obtain⟨o',F⟩:=I.base.there b o e hx;exact there b o' (neC b o e hx) F
 ·obtain⟨Um,F⟩:=I.base.tbls b ps e;obtain⟨m2,L⟩:=tbls b _ F;exact⟨Um++m2,by rw[L,Rq]⟩
 ·obtain⟨m,hn,hl⟩:=I.loc;refine⟨m,ns m hn,λi x v F L e3=>?_⟩;obtain⟨u,r,l⟩:=hl i x v F L e3;refine⟨u,r,?_⟩
  rcases l with l|⟨k,c,e,z⟩
  ·exact .inl l
  ·exact .inr ⟨k,c,e,cellK x c e _ z⟩
 ·obtain⟨v,z⟩:=I.cell x c e;exact⟨v,cellK x c e v z⟩
 ·obtain⟨m,⟨o,_,_,ho,_⟩,_⟩:=I.loc;exact free _ o (λz=>(j _ z).2.1 rfl) ho I.free
 ·obtain⟨v,o,ho,hd⟩:=I.cell x c e;exact free c o (λz=>(j c z).2.2.1 x c e rfl) ho (I.freeC x c e)
 ·obtain⟨e,n,ne,nf,d⟩:=I.pin p U;have nch:p.1∉ch:=λz=>(j p.1 z).2.2.2 p U rfl;exact⟨keep p.1 p.2 ne nf nch e n,free p.1 p.2 nch e n,ne,nf,d⟩
theorem Inv.un(I:Inv X pins σ H s)(u:Un X.fs [] H H' s.heap h')(hok:HOk X.prog X.w H' h'):Inv X pins σ H' {s with heap:=h',toks:=t'}:=by
 obtain⟨m,⟨o,es,ep,ho,r⟩,_⟩:=id I.loc;obtain⟨sl,J⟩:=u.any ho I.free (by simp)
 exact I.step (g':=s.gens) (d':=s.drawn) (ch:=[]) (λ_ z=>nomatch z) (λb o _ F _ e n=>u.keep b o e n F (by simp)) (λb o _ F _ e n=>u.slot b o e n F (by simp)) (λb o _ e n=>u.free b o e n (by simp)) (λb o _ e=>u.there b o e (by simp)) u.tups u.frzs u.tbls (λm' hm=>by obtain⟨o',es',ep',j,r'⟩:=hm;rw[ho]at j;cases j;exact⟨_,es',ep',J,r'⟩) hok I.bare
theorem Inv.call{g':Array PZ}{d':Drawn}(I:Inv X pins σ H s)(u:Un (frs X.stack) ch H H' s.heap h')(hok:HOk X.prog X.w H' h')(O:OZ g')(F:∀b∈ch,(b∈X.ex∨X.s₀.heap.objs.size<=b)/\b≠X.env.locals/\(∀x c,X.env.cells.lookup x=S c->c≠b)/\∀p∈X.pn++pins,p.1≠b):
 Inv X pins σ H' {s with heap:=h',gens:=g',drawn:=d',toks:=t'}:=by
 obtain⟨m,⟨o,es,ep,ho,r⟩,_⟩:=id I.loc;obtain⟨sl,L⟩:=u.any ho I.free λz=>(F _ z).2.1 rfl;exact I.step (ch:=ch) F (λb o L U j e n=>u.keep b o e n (λz=>(JS.mp (I.stkSub b z)).elim L U) j) (λb o _ _ j e n=>u.any e n j) (λb o j e n=>u.free b o e n j) (λb o j e=>u.there b o e j) u.tups u.frzs u.tbls (λm' hm=>by obtain⟨o',es',ep',J,r'⟩:=hm;rw[ho]at J;cases J;exact⟨_,es',ep',L,r'⟩) hok O
theorem Inv.turned{it:Uq}(I:Inv X pins σ H s)(k:∀b o,b≠it->s.heap.get? b=S o->h'.get? b=S o)(hn:H it=Z)(F:it≠X.env.locals)(h1:it∈X.ex∨X.s₀.heap.objs.size<=it)(h2:∀x c,X.env.cells.lookup x=S c->c≠it)(J:∀p∈X.pn++pins,p.1≠it):Inv X pins σ H {s with heap:=h',toks:=t'}:=by
 have nit:∀b u,H b=S u->b≠it:=λb u e z=>by rw[z,hn]at e;cases e
 refine I.step (g':=s.gens) (d':=s.drawn) (ch:=[it]) (λb L=>?_) (λb o _ _ j e _=>k b o (λz=>j (by simp[z])) e) (λb o _ _ j e _=>⟨o.slots,k b o (λz=>j (by simp[z])) e⟩) (λ_ _ _ _ n=>n)
  (λb o j e=>⟨o,k b o (λz=>j (by simp[z])) e⟩) (λ_ _ e=>e) (λ_ _ _ e=>e) (λb ps e=>⟨#[],by rw[e];simp⟩) (λm hm=>?_) (λb u e=>?_) I.bare
 ·have e:b=it:=by simpa using L
  subst e;exact⟨h1,F,h2,J⟩
 ·obtain⟨o,es,ep,ho,r⟩:=hm;exact⟨o,es,ep,k _ o (Ne.symm F) ho,r⟩
 ·refine(I.hok b u e).stay (λc v j q=>k c v ?_ q) (λ_ q=>q) λ_ _ q=>q
  rcases j with z|z
  ·rw[z];exact nit b u e
  ·exact nit c _ z
theorem Inv.tok(I:Inv X pins σ H s)(t:Nat):Inv X pins σ H {s with toks:=t}:=I.un (h':=s.heap) (t':=t) Un.refl I.hok
theorem Inv.kept(I:Inv X pins σ H s)(k:∀b u,s.heap.get? b=S u->h'.get? b=S u):Inv X pins σ H {s with heap:=h',toks:=t'}:=I.un (Un.kept k) (I.hok.kept k)
theorem Inv.laid(I:Inv X pins σ H s)(k:∀b u,s.heap.get? b=S u->h'.get? b=S u)(j:s.heap.objs.size<=a)(new:ObjOk X.prog X.w (upd H a o) h' a o):Inv X pins σ (upd H a o) {s with heap:=h',toks:=t'}:=I.un (Un.laid k j (I.hok.fresh j)) (I.hok.laid k j new)
theorem Inv.write{x e:Uq}(I:Inv X pins σ H s)(mu:Mut (H x))(he:e=x∨H e=S (.own x))(k:∀b u,b≠e->s.heap.get? b=S u->h'.get? b=S u)(j:∃u,h'.get? e=S u)(new:ObjOk X.prog X.w (upd H x o) h' x o):Inv X pins σ (upd H x o) {s with heap:=h',toks:=t'}:=I.un (Un.write mu he k j) (I.hok.write mu he k j new)
theorem Inv.pins_of{pins':List (Uq×Obj)}(I:Inv X pins σ H s)(h:∀p∈pins',s.heap.get? p.1=S p.2/\H p.1=Z/\p.1≠X.env.locals/\p.1∉X.fs/\∀v,p.2.data≠.cell v):Inv X pins' σ H s:=⟨I.ok,I.os,I.bare,I.base,I.loc,I.cell,I.free,I.freeC,λp j=>(K0.mp j).elim (λz=>I.pin p (Lp _ z)) (h p),I.hok,I.len⟩
theorem iI(z:N.Nodup)(a:N[i]?=S x)(b:N[j]?=S x):i=j:=by obtain⟨h1,F⟩:=JO.mp a;obtain⟨h2,J⟩:=JO.mp b;exact(List.getElem_inj z).mp (F.trans J.symm)
theorem kP{E:h6->i4->Prop}{Q:Unit->i4->Prop}(I:Inv X pins σ H s)(hN:X.N.Nodup)(hi:X.N[i]?=S x)(hx:Loc X.env.scope x)(r:RelV v u)(h:∀s',Inv X pins (σ.set i (S v)) H s'->(∃a,L6 a s.heap s'.heap/\(a=X.env.locals∨X.env.cells.lookup x=S a))->Q () s')(hf:X.fn x=Uo∨X.env.scope.names.lookup x=S .local:=by first|exact .inl rfl|exact .inr rfl|assumption):JK M A (storeName X.env x u) Q E s:=by
 obtain⟨m,hn,hl⟩:=id I.loc;have Hf:(X.env.scope.kind==.class || (X.env.scope.kind==.module&&X.env.locals != X.env.globals))=Up:=by rw[I.ok.kind];rfl
 have Hg:i<σ.length:=by rw[I.len];exact(JO.mp hi).1
 have cne:=I.cne;have tracked:∀{a:Uq} {h':Heap},(∃o,s.heap.get? a=S o/\H a=Z)->L6 a s.heap h'->HOk X.prog X.w H h':=λ{a h'} ha hs b ob e=>by
  obtain⟨_,_,L⟩:=ha;refine(I.hok b ob e).stay (λc w' J q=>(hs.2 c ?_).trans q) (λ_ q=>q) λ_ _ q=>q;rintro rfl
  rcases J with rfl|J
  ·rw[L]at e;cases e
  ·rw[L]at J;cases J
 rcases hx with hk|hk
 ·refine wpAny_storeName_local hk hn (λh' Hl hs=>?_) Hf;obtain⟨oL,_,_,Hm,_⟩:=id hn;refine h _ ⟨I.ok,I.os,I.bare,⟨λb o e n U hx=>?_,λb o e n U hx=>?_,I.base.free,λb o e hx=>?_,I.base.tups,I.base.frzs,I.base.tbls⟩,⟨_,Hl,λj y v' F O e3=>?_⟩,λy c e=>?_,I.free,I.freeC,λp hp=>?_,tracked ⟨oL,Hm,I.free⟩ hs,by simpa using I.len⟩ ⟨_,hs,.inl rfl⟩
  ·exact(hs.2 b (K6 (Kc (JJ e) I.ok.above))).trans (I.base.keep b o e n U hx)
  ·obtain⟨sl,F⟩:=I.base.slot b o e n U hx;exact⟨sl,(hs.2 b (K6 (Kc (JJ e) I.ok.above))).trans F⟩
  ·obtain⟨o',F⟩:=I.base.there b o e hx;exact⟨o',(hs.2 b (K6 (Kc (JJ e) I.ok.above))).trans F⟩
  ·by_cases Y:j=i
   ·subst Y;rw[hi]at F;cases F;rw[Ku Hg]at O
    cases O
    exact⟨u,r,.inl ⟨hk,by simp⟩⟩
   ·rw[Mq (Ne.symm Y)]at O;obtain⟨u',r',q⟩:=hl j y v' F O e3;refine⟨u',r',?_⟩
    rcases q with⟨k,e⟩|⟨k,c,e,z⟩
    ·refine .inl ⟨k,?_⟩;have:y≠x:=λe=>Y (iI hN F (e▸hi));simp[this,e]
    ·exact .inr ⟨k,c,e,z.sameBut hs (cne y c e)⟩
  ·obtain⟨w',z⟩:=I.cell y c e;exact⟨w',z.sameBut hs (cne y c e)⟩
  ·obtain⟨e,n,ne,nf,d⟩:=I.pin p hp;exact⟨(hs.2 p.1 ne).trans e,n,ne,nf,d⟩
 ·have Um:X.fn x=Uo:=by
   rcases hf with z|z
   ·exact z
   ·rw[z]at hk;cases hk
  obtain⟨c,J⟩:=I.ok.has x (.inl hk);obtain⟨w',z⟩:=I.cell x c J;refine wpAny_storeName_cell I.ok.kind hk J z (λh' Hh hs=>?_);obtain⟨oc,Hi,Hj⟩:=id z;refine h {s with heap:=h'} ⟨I.ok,I.os,I.bare,⟨λb o e n U hx=>?_,λb o e n U hx=>?_,I.base.free,λb o e hx=>?_,I.base.tups,I.base.frzs,I.base.tbls⟩,⟨m,hn.sameBut hs (Ne.symm (cne x c J)),λj y v' F O e3=>?_⟩,λy c' e=>?_,I.free,I.freeC,λp hp=>?_,tracked ⟨oc,Hi,I.freeC x c J⟩ hs,by simpa using I.len⟩ ⟨c,hs,.inr J⟩
  ·exact(hs.2 b (K6 (Kc (JJ e) (I.ok.cab x c Um J)))).trans (I.base.keep b o e n U hx)
  ·obtain⟨sl,F⟩:=I.base.slot b o e n U hx;exact⟨sl,(hs.2 b (K6 (Kc (JJ e) (I.ok.cab x c Um J)))).trans F⟩
  ·obtain⟨o',F⟩:=I.base.there b o e hx;exact⟨o',(hs.2 b (K6 (Kc (JJ e) (I.ok.cab x c Um J)))).trans F⟩
  ·by_cases Y:j=i
   ·subst Y;rw[hi]at F;cases F;rw[Ku Hg]at O
    cases O
    exact⟨u,r,.inr ⟨.inl hk,c,J,Hh⟩⟩
   ·rw[Mq (Ne.symm Y)]at O;obtain⟨u',r',q⟩:=hl j y v' F O e3;refine⟨u',r',?_⟩
    rcases q with q|⟨k,c',e,z'⟩
    ·exact .inl q
    ·refine .inr ⟨k,c',e,z'.sameBut hs ?_⟩;rintro rfl;exact Y (iI hN F (I.ok.inj _ _ _ e J▸hi))
  ·by_cases Hk:c'=c
   ·subst Hk;exact⟨_,Hh⟩
   ·obtain⟨w2,z2⟩:=I.cell y c' e;exact⟨w2,z2.sameBut hs Hk⟩
  ·obtain⟨e,n,ne,nf,d⟩:=I.pin p hp;refine⟨(hs.2 p.1 ?_).trans e,n,ne,nf,d⟩;intro q;rw[q,Hi]at e;have q':oc=p.2:=Lo.inj e;exact d w' (by rw[<-q'];exact Hj)
theorem bT{E:h6->i4->Prop}{Q:Unit->i4->Prop}(I:Inv X pins σ H s)(j:X.N.Nodup)(hi:X.N[i]?=S x)(hx:Loc X.env.scope x)(r:RelV v u)(h:∀s',Inv X pins (σ.set i (S v)) H s'->Q () s')(hf:X.fn x=Uo∨X.env.scope.names.lookup x=S .local:=by first|exact .inl rfl|exact .inr rfl|assumption):JK M A (storeName X.env x u) Q E s:=kP I j hi hx r (λs' I' _=>h s' I') hf
theorem Inv.call'{s':i4}(I:Inv X pins σ H s)(ho:s'.os=s.os)(u:Un (frs X.stack) ch H H' s.heap s'.heap)(hok:HOk X.prog X.w H' s'.heap)(z:OZ s'.gens)(j:∀b∈ch,(b∈X.ex∨X.s₀.heap.objs.size<=b)/\b≠X.env.locals/\(∀x c,X.env.cells.lookup x=S c->c≠b)/\∀p∈X.pn++pins,p.1≠b):Inv X pins σ H' s':=by obtain⟨h',g',d',t',o'⟩:=s';have e:o'=s.os:=ho;subst e;exact I.call (g':=g') (t':=t') (d':=d') u hok z j
end
noncomputable abbrev XK:=h6->Option Uq->Hp->Prop
noncomputable abbrev St:=List (Option V)
noncomputable abbrev VK:=V->Hp->Prop
noncomputable abbrev TE:=St->Hp->VK->Prop
noncomputable abbrev TT:=St->Hp->(Bool->Hp->Prop)->Prop
noncomputable abbrev TA:=St->Hp->(List V->Hp->Prop)->Prop
structure bJ where
 nx:St->Hp->Prop
 rt:VK
 bk:St->Hp->Prop:=λ_ _=>False
 ct:St->Hp->Prop:=λ_ _=>False
noncomputable abbrev TS:=bJ->St->Hp->Prop
def EP(X:Cx)(pins:List (Uq×Obj))(σ:St)(Q:VK)(u:h6)(s':i4):Prop:=∃v H',Inv X pins σ H' s'/\RelV v u/\Q v H'
def TP(X:Cx)(pins:List (Uq×Obj))(σ:St)(Q:Bool->Hp->Prop)(b:Bool)(s':i4):Prop:=∃H',Inv X pins σ H' s'/\Q b H'
def AP(X:Cx)(pins:List (Uq×Obj))(σ:St)(Q:List V->Hp->Prop)(us:List h6)(s':i4):Prop:=∃vs H',Inv X pins σ H' s'/\Vals vs us/\Q vs H'
def SP(X:Cx)(pins:List (Uq×Obj))(D:bJ)(f:Flow)(s':i4):Prop:=
 match f with
 |.next=>∃σ' H',Inv X pins σ' H' s'/\D.nx σ' H'
 |.brk=>∃σ' H',Inv X pins σ' H' s'/\D.bk σ' H'
 |.cont=>∃σ' H',Inv X pins σ' H' s'/\D.ct σ' H'
 |.ret u=>∃v σ' H',Inv X pins σ' H' s'/\RelV v u/\D.rt v H'
def PE(X:Cx)(e:Expr)(t:TE):Prop:=∀(pins:List (Uq×Obj)) (s:i4) (σ:St) (H:Hp) (Q:VK),Inv X pins σ H s->t σ H Q->JK (model X.prog X.w) X.A (eval e X.env) (EP X pins σ Q) X.xe s
def PT(X:Cx)(e:Expr)(t:TT):Prop:=∀(pins:List (Uq×Obj)) (s:i4) (σ:St) (H:Hp) (Q:Bool->Hp->Prop),Inv X pins σ H s->t σ H Q->JK (model X.prog X.w) X.A (isTrue e X.env (eval e X.env)) (TP X pins σ Q) X.xe s
def PW(X:Cx)(e:Expr)(t:TT):Prop:=∀(whole:Sem h6) (pins:List (Uq×Obj)) (s:i4) (σ:St) (H:Hp) (Q:Bool->Hp->Prop),Inv X pins σ H s->t σ H Q->JK (model X.prog X.w) X.A (isTrue e X.env whole) (TP X pins σ Q) X.xe s
theorem PW.pt{X:Cx}{t:TT}(h:PW X e t):PT X e t:=h _
def PA(X:Cx)(es:List Expr)(t:TA):Prop:=∀(pos:Pos) (pins:List (Uq×Obj)) (s:i4) (σ:St) (H:Hp) (Q:List V->Hp->Prop),Inv X pins σ H s->t σ H Q->JK (model X.prog X.w) X.A (spliced (LA pos (JU es X.env))) (AP X pins σ Q) X.xe s
def PS(X:Cx)(st:Stmt)(t:TS):Prop:=∀(pins:List (Uq×Obj)) (s:i4) (σ:St) (H:Hp) (D:bJ),Inv X pins σ H s->t D σ H->JK (model X.prog X.w) X.A (exec st X.env) (SP X pins D) X.xe s
def PSs(X:Cx)(st:List Stmt)(t:TS):Prop:=∀(pins:List (Uq×Obj)) (s:i4) (σ:St) (H:Hp) (D:bJ),Inv X pins σ H s->t D σ H->JK (model X.prog X.w) X.A (execs st X.env) (SP X pins D) X.xe s
theorem thn{α:Type}{t:Sem α}{Q Q':α->i4->Prop}{E:h6->i4->Prop}(h:JK M A t Q E s)(j:∀a s,Q a s->Q' a s):JK M A t Q' E s:=Kh h j λ_ _ x=>x
end
variable{X:Cx}{pos:Pos}{pins:List (Uq×Obj)}{σ:St}{c:Expr}
section
section
variable{X:Cx}
noncomputable def sf(i:Nat):TE:=λσ H Q=>∃v,σ[i]?=S (S v)/\Q v H
noncomputable def tC(v:V):TE:=λ_ H Q=>Q v H
theorem gp(J:X.N[i]?=S x)(L:Vis X.env.scope x)(hd:(x==("__debug__":Str))=Up:=by decide)(z:(x==("__classdict__":Str))=Up:=by decide):PE X (.Name x pos) (sf i):=by
 intro pins s σ H Q I h;obtain⟨v,e,h⟩:=h;obtain⟨m,hn,O⟩:=I.loc;obtain⟨u,r,l⟩:=O i x v J e L;have fin:EP X pins σ Q u s:=⟨v,H,I,r,h⟩
 rcases l with⟨hk,hm⟩|⟨hk,c,F,j⟩
 ·exact Tr (wpAny_loadName_local I.ok.kind hk hn hm fin) hd
 ·rcases hk with hk|hk
  ·exact Tr (wpAny_loadName_cell I.ok.kind hk F j fin) hd
  ·exact Tr (wpAny_loadName_free I.ok.kind hk F j fin z) hd
theorem Bu{i j pos}:PE X (.Constant (.int i) j pos) (tC (.int i)):=λ_ _ _ H _ I h=>wpAny_Constant_int ⟨.int i,H,I.tok _,⟨_,rfl⟩,h⟩
theorem Dm{b j pos}:PE X (.Constant (.bool b) j pos) (tC (.bl b)):=λ_ _ _ H _ I h=>Constant_bool ⟨.bl b,H,I,rfl,h⟩
theorem ja{j pos}:PE X (.Constant .none j pos) (tC .non):=λ_ _ _ H _ I h=>Constant_none ⟨.non,H,I,rfl,h⟩
theorem jb{x j pos}:PE X (.Constant (.str x) j pos) (tC (.str x)):=λ_ _ _ H _ I h=>Calls.Constant_str ⟨.str x,H,I.tok _,⟨_,rfl⟩,h⟩
def Gl(X:Cx)(x:Str):Prop:=X.env.kindOf x=S .globalImplicit
theorem cO{E Q:h6->i4->Prop}(I:Inv X pins σ H s)(j:Gl X x)(hm:X.mg x=S u)(h:Q u s)(hd:(x==("__debug__":Str))=Up:=by decide):JK (model X.prog X.w) X.A (eval (.Name x pos) X.env) Q E s:=P7 I.ok.kind j (Calls.loadGlobal_global (by rw[I.ok.glob];exact I.mod.glob.keeps I.bk) hm h) hd
theorem gr{E Q:h6->i4->Prop}(I:Inv X pins σ H s)(j:Gl X x)(hm:X.mg x=Z)(z:Mp x=S u)(h:Q u s)(hn:x≠"__name__":=by decide)(hd:(x==("__debug__":Str))=Up:=by decide):JK (model X.prog X.w) X.A (eval (.Name x pos) X.env) Q E s:=by obtain⟨mb,h1,h2⟩:=I.mod.blt;exact P7 I.ok.kind j (Calls.loadGlobal_builtin (by rw[I.ok.glob];exact I.mod.glob.keeps I.bk) hm (by rw[I.ok.blt];exact h1.keeps I.bk) ((h2 x hn).trans z) h) hd
theorem qW(j:Gl X x)(hm:X.mg x=Z)(z:Mp x=S u)(r:RelV v u)(hn:x≠"__name__":=by decide)(hd:(x==("__debug__":Str))=Up:=by decide):PE X (.Name x pos) (tC v):=λ_ _ _ H _ I h=>gr I j hm z ⟨v,H,I,r,h⟩ hn hd
variable{a b:Expr}{ta tb:TE}{pos:Pos}
noncomputable def tB(t:TE):TT:=λσ H Q=>t σ H λx H1=>∃c,x=.bl c/\Q c H1
theorem nN{t:TE}(h:PE X e t)(he:∀whole,isTrue e X.env whole=(do let v <-whole;O6 e.pos;holding [v] (truthy v)):=by intro _;rfl):PT X e (tB t):=by
 intro pins s σ H Q I hw;refine isTrue_plain (thn (h pins s σ H _ I hw) λv s1 g9=>?_) (he _);obtain⟨x,H1,j,z,F⟩:=g9;obtain⟨d,rfl,q⟩:=F
 cases z
 exact L7 ⟨H1,j,q⟩
variable{tA tB':TT}{rest:List Expr}
noncomputable def EA(t u:TT):TT:=λσ H Q=>t σ H λc H1=>if c=Uo then u σ H1 Q else Q Up H1
noncomputable def tOr(t u:TT):TT:=λσ H Q=>t σ H λc H1=>if c=Uo then Q Uo H1 else u σ H1 Q
noncomputable def EB(t:TT):TT:=λσ H Q=>t σ H λc H1=>Q (!c) H1
theorem zN(j:PT X a tA):PW X (.BoolOp .And [a] pos) tA:=by
 intro wh pins s σ H Q I h;refine isTrue_and (thn (j pins s σ H Q I h) λc s1 e=>?_)
 cases c with
 |true=>exact isTrue_and_nil e
 |false=>exact e
theorem ue(j:PT X a tA):PW X (.BoolOp .Or [a] pos) tA:=by
 intro wh pins s σ H Q I h;refine isTrue_or (thn (j pins s σ H Q I h) λc s1 e=>?_)
 cases c with
 |false=>exact isTrue_or_nil e
 |true=>exact e
theorem Bv(F:PT X a tA)(J:PW X (.BoolOp .And (b::rest) pos) tB'):PW X (.BoolOp .And (a::b::rest) pos) (EA tA tB'):=by
 intro wh pins s σ H Q I h;refine isTrue_and (thn (F pins s σ H _ I h) λc s1 L=>?_);obtain⟨H1,j,z⟩:=L
 cases c with
 |true=>exact J wh pins s1 σ H1 Q j z
 |false=>exact⟨H1,j,z⟩
theorem sg(F:PT X a tA)(J:PW X (.BoolOp .Or (b::rest) pos) tB'):PW X (.BoolOp .Or (a::b::rest) pos) (tOr tA tB'):=by
 intro wh pins s σ H Q I h;refine isTrue_or (thn (F pins s σ H _ I h) λc s1 L=>?_);obtain⟨H1,j,z⟩:=L
 cases c with
 |true=>exact⟨H1,j,z⟩
 |false=>exact J wh pins s1 σ H1 Q j z
theorem nO(j:PT X a tA):PT X (.UnaryOp .Not a pos) (EB tA):=by intro pins s σ H Q I h;exact isTrue_not (j pins s σ H (λc H1=>Q (!c) H1) I h)
noncomputable def Dn(ta tb:TE):TE:=λσ H Q=>ta σ H λx H1=>∃c,x=.bl c/\if c=Uo then tb σ H1 Q else Q (.bl Up) H1
noncomputable def EC(ta tb:TE):TE:=λσ H Q=>ta σ H λx H1=>∃c,x=.bl c/\if c=Uo then Q (.bl Uo) H1 else tb σ H1 Q
noncomputable def Do(ta:TE):TE:=λσ H Q=>ta σ H λx H1=>∃c,x=.bl c/\Q (.bl (!c)) H1
theorem Bw{op}{t:TE}(h:PE X a t):PE X (.BoolOp op [a] pos) t:=λpins s σ H Q I hw=>BoolOp_one (h pins s σ H Q I hw)
theorem By(F:PE X a ta)(J:PE X (.BoolOp .And (b::rest) pos) tb):PE X (.BoolOp .And (a::b::rest) pos) (Dn ta tb):=by
 intro pins s σ H Q I h;refine BoolOp_and (thn (F pins s σ H _ I h) λv s1 L=>?_);obtain⟨x,H1,z,O,j⟩:=L;obtain⟨c,rfl,j⟩:=j
 cases O
 refine L7 ?_
 cases c with
 |true=>exact J pins s1 σ H1 Q z j
 |false=>exact⟨.bl Up,H1,z,rfl,j⟩
theorem Dp(F:PE X a ta)(J:PE X (.BoolOp .Or (b::rest) pos) tb):PE X (.BoolOp .Or (a::b::rest) pos) (EC ta tb):=by
 intro pins s σ H Q I h;refine BoolOp_or (thn (F pins s σ H _ I h) λv s1 L=>?_);obtain⟨x,H1,z,O,j⟩:=L;obtain⟨c,rfl,j⟩:=j
 cases O
 refine L7 ?_
 cases c with
 |false=>exact J pins s1 σ H1 Q z j
 |true=>exact⟨.bl Uo,H1,z,rfl,j⟩
theorem Bz(z:PE X a ta):PE X (.UnaryOp .Not a pos) (Do ta):=by
 intro pins s σ H Q I h;refine UnaryOp_ (thn (z pins s σ H _ I h) λv s1 F=>?_);obtain⟨x,H1,J,L,j⟩:=F;obtain⟨c,rfl,j⟩:=j
 cases L
 exact not_of (L7 ⟨.bl (!c),H1,J,rfl,j⟩)
noncomputable def tIf(t:TT)(ta tb:TE):TE:=λσ H Q=>t σ H λc H1=>if c=Uo then ta σ H1 Q else tb σ H1 Q
theorem wK(F:PT X c tA)(J:PE X a ta)(L:PE X b tb):PE X (.IfExp c a b pos) (tIf tA ta tb):=by
 intro pins s σ H Q I h;refine wpAny_IfExp (thn (F pins s σ H _ I h) λd s1 O=>?_);obtain⟨H1,j,z⟩:=O
 cases d with
 |true=>exact J pins s1 σ H1 Q j z
 |false=>exact L pins s1 σ H1 Q j z
end
end
variable{K:Frag}{tg:Expr}{body:List Stmt}
section
def SqL(K:Frag)(H:Hp)(a:Uq)(xs:List V):Prop:=
 Rd H a (.lst xs) ∨
  ∃(o:Obj) (its:Array h6) (n:Nat),K.lookup a=S o/\o.cls=.type "list"/\o.dict=Z/\o.data=.seq its n/\its.size<=D2/\Vals xs its.toList
def SqT(K:Frag)(H:Hp)(a:Uq)(xs:List V):Prop:=
 Rd H a (.tup xs) ∨
  ∃(o:Obj) (its:Array h6) (n:Nat),K.lookup a=S o/\o.cls=.type "tuple"/\o.data=.seq its n/\its.size<=D2/\Vals xs its.toList
noncomputable def ED:h6->Option V
 |.none=>S .non
 |.bool b=>S (.bl b)
 |.int i _=>S (.int i)
 |.str x _=>S (.str x)
 |.bytes b _=>S (.byt b)
 |.float b _=>S (.flt b)
 |.ref a=>S (.ref a)
 |.type n=>S (.ty n)
 |_=>Z
theorem RelV.abs{x:V}(r:RelV x u):ED u=S x:=by
 cases x with
 |non=>cases r;rfl
 |bl _=>cases r;rfl
 |int _=>obtain⟨t,rfl⟩:=r;rfl
 |str _=>obtain⟨t,rfl⟩:=r;rfl
 |byt _=>obtain⟨t,rfl⟩:=r;rfl
 |flt _=>obtain⟨t,rfl⟩:=r;rfl
 |ref _=>cases r;rfl
 |ty _=>cases r;rfl
theorem RelV.inj{x y:V}(r:RelV x u)(q:RelV y u):x=y:=Lo.inj (r.abs.symm.trans q.abs)
theorem Vals.inj:∀{xs ys:List V} {us:List h6},Vals xs us->Vals ys us->xs=ys
 |_,_,_,.nil,.nil=>rfl
 |_,_,_,.cons r t,.cons r' t'=>by rw[r.inj r',Vals.inj t t']
section
variable{X:Cx}{pins:List (Uq×Obj)}{σ:St}{H:Hp}{s:i4}{a:Uq}{xs ys:List V}
theorem SqL.of(h:H a=S (.lst xs)):SqL K H a xs:=.inl (.inl h)
theorem SqT.of(h:H a=S (.tup xs)):SqT K H a xs:=.inl (.inl h)
theorem Inv.list(I:Inv X pins σ H s)(h:SqL X.K H a xs):∃its:List h6,Vals xs its/\PlainL s.heap a its.toArray/\xs.length<=D2:=by
 rcases h with h|⟨o,its,n,hk,j,hd,hs,F,r⟩
 ·obtain⟨z,its,n,r,e⟩:=h.ok I.hok;exact⟨its,r,⟨_,n,e,rfl,rfl,rfl⟩,z⟩
 ·refine⟨its.toList,r,⟨o,n,I.kIn a o hk,j,hd,by simpa using hs⟩,?_⟩
  have e:=r.length;simp only[Kn]at e;lia
theorem Inv.tuple(I:Inv X pins σ H s)(h:SqT X.K H a xs):∃its:List h6,Vals xs its/\IsTup s.heap a its.toArray/\xs.length<=D2:=by
 rcases h with h|⟨o,its,n,hk,j,hs,F,r⟩
 ·obtain⟨z,its,r,p⟩:=h.ok I.hok;exact⟨its,r,p,z⟩
 ·refine⟨its.toList,r,⟨o,I.kIn a o hk,j,n,by simpa using hs⟩,?_⟩
  have e:=r.length;simp only[Kn]at e;lia
theorem Inv.list_inj(I:Inv X pins σ H s)(h:SqL X.K H a xs)(h':SqL X.K H a ys):xs=ys:=by
 obtain⟨its,r,⟨o,n,e,_,_,d⟩,_⟩:=I.list h;obtain⟨its',r',⟨o',n',e',_,_,d'⟩,_⟩:=I.list h';rw[e]at e';cases e';rw[d]at d'
 injection d' with d1 _
 have:its=its':=by simpa using congrArg Ql d1
 subst this;exact r.inj r'
theorem Inv.tuple_inj(I:Inv X pins σ H s)(h:SqT X.K H a xs)(h':SqT X.K H a ys):xs=ys:=by
 obtain⟨its,r,⟨o,e,_,n,d⟩,_⟩:=I.tuple h;obtain⟨its',r',⟨o',e',_,n',d'⟩,_⟩:=I.tuple h';rw[e]at e';cases e';rw[d]at d'
 injection d' with d1 _
 have:its=its':=by simpa using congrArg Ql d1
 subst this;exact r.inj r'
end
noncomputable abbrev Cx.wish(X:Cx)(E:h6->i4->Prop):Cx:={X with xe:=E}
noncomputable abbrev Cx.nox(X:Cx):Cx:=X.wish λ_ _=>False
theorem Cx.Ok.wish(ok:X.Ok)(E:h6->i4->Prop):(X.wish E).Ok:=⟨ok.mod,ok.kind,ok.glob,ok.blt,ok.above,ok.inj,ok.has,ok.cab,ok.hd,ok.frames,ok.stk,ok.exf,ok.bs,ok.bsz,ok.noex,ok.exfs,ok.funs,ok.frf⟩
theorem Cx.Ok.unwish{E:h6->i4->Prop}(ok:(X.wish E).Ok):X.Ok:=⟨ok.mod,ok.kind,ok.glob,ok.blt,ok.above,ok.inj,ok.has,ok.cab,ok.hd,ok.frames,ok.stk,ok.exf,ok.bs,ok.bsz,ok.noex,ok.exfs,ok.funs,ok.frf⟩
section
variable{X:Cx}{pins:List (Uq×Obj)}{σ:St}{H:Hp}{s:i4}{E:h6->i4->Prop}
theorem Inv.wish(I:Inv X pins σ H s)(E:h6->i4->Prop):Inv (X.wish E) pins σ H s:=⟨I.ok.wish E,I.os,I.bare,I.base,I.loc,I.cell,I.free,I.freeC,I.pin,I.hok,I.len⟩
theorem Inv.unwish(I:Inv (X.wish E) pins σ H s):Inv X pins σ H s:=⟨I.ok.unwish,I.os,I.bare,I.base,I.loc,I.cell,I.free,I.freeC,I.pin,I.hok,I.len⟩
theorem SP.unwish{D:bJ}{f:Flow}{s':i4}(h:SP (X.wish E) pins D f s'):SP X pins D f s':=by
 cases f with
 |next=>obtain⟨σ',H',I,q⟩:=h;exact⟨σ',H',I.unwish,q⟩
 |brk=>obtain⟨σ',H',I,q⟩:=h;exact⟨σ',H',I.unwish,q⟩
 |cont=>obtain⟨σ',H',I,q⟩:=h;exact⟨σ',H',I.unwish,q⟩
 |ret u=>obtain⟨v,σ',H',I,r,q⟩:=h;exact⟨v,σ',H',I.unwish,r,q⟩
theorem PE.nox{t:TE}(h:PE X.nox e t):PE X e t:=λpins s σ H Q I hw=>Kh (h pins s σ H Q (I.wish _) hw) (λ_ _ j=>(by obtain⟨v,H',I',r,q⟩:=j;exact⟨v,H',I'.unwish,r,q⟩)) λ_ _ z=>False.elim z
theorem PT.nox{t:TT}(h:PT X.nox e t):PT X e t:=λpins s σ H Q I hw=>Kh (h pins s σ H Q (I.wish _) hw) (λ_ _ j=>(by obtain⟨H',I',q⟩:=j;exact⟨H',I'.unwish,q⟩)) λ_ _ z=>False.elim z
theorem PSs.nox{st:List Stmt}{t:TS}(h:PSs X.nox st t):PSs X st t:=λpins s σ H D I hw=>Kh (h pins s σ H D (I.wish _) hw) (λ_ _ q=>q.unwish) λ_ _ z=>False.elim z
end
section
variable{X:Cx}{st:Stmt}{rest:List Stmt}{t u:TS}{e:Expr}{te:TE}{pos:Pos}
noncomputable def si:TS:=λD σ H=>D.nx σ H
noncomputable def BA(t u:TS):TS:=λD σ H=>t {D with nx:=u D} σ H
theorem gT:PSs X [] si:=λ_ _ σ H _ I h=>N6 ⟨σ,H,I,h⟩
theorem cr(h1:PS X st t)(h2:PSs X rest u):PSs X (st::rest) (BA t u):=by
 intro pins s σ H D I h;refine Q0 (thn (h1 pins s σ H {D with nx:=u D} I h) λf s1 q=>?_)
 cases f with
 |next=>obtain⟨σ',H',I',q⟩:=q;exact h2 pins s1 σ' H' D I' q
 |ret v=>exact q
 |brk=>exact q
 |cont=>exact q
theorem cP(h1:PS X st t):PSs X [st] t:=by
 intro pins s σ H D I h;refine Q0 (thn (h1 pins s σ H D I h) λf s1 q=>?_)
 cases f with
 |next=>exact N6 q
 |ret v=>exact q
 |brk=>exact q
 |cont=>exact q
noncomputable def uf:TS:=λD σ H=>D.bk σ H
noncomputable def zd:TS:=λD σ H=>D.ct σ H
theorem zO:PS X (.Pass pos) si:=λ_ _ σ H _ I h=>wpAny_Pass ⟨σ,H,I,h⟩
theorem wL:PS X (.Break pos) uf:=λ_ _ σ H _ I h=>wpAny_Break ⟨σ,H,I,h⟩
theorem qI:PS X (.Continue pos) zd:=λ_ _ σ H _ I h=>wpAny_Continue ⟨σ,H,I,h⟩
theorem Inv.quiet(I:Inv X pins σ H s):interactive X.env=Up:=by simp[interactive,I.ok.kind]
noncomputable def ze(te:TE):TS:=λD σ H=>te σ H λ_ H1=>D.nx σ H1
theorem zP(he:PE X e te)(hs:LD e Z pos.line X.env=pure Up:=by rfl):PS X (.Expr e pos) (ze te):=by intro pins s σ H D I h;exact QJ (thn (he pins s σ H _ I h) λv s1 j=>(by obtain⟨x,H1,z,J,F⟩:=j;exact⟨σ,H1,z,F⟩)) I.quiet hs
noncomputable def BB(te:TE):TS:=λD σ H=>te σ H D.rt
theorem gu(he:PE X e te):PS X (.Return (S e) pos) (BB te):=by intro pins s σ H D I h;exact wpAny_Return_some (thn (he pins s σ H _ I h) λv s1 j=>(by obtain⟨x,H1,z,F,J⟩:=j;exact⟨x,σ,H1,z,F,J⟩))
noncomputable def BC(c:TT)(t u:TS):TS:=λD σ H=>c σ H λb H1=>if b=Uo then t D σ H1 else u D σ H1
theorem mM{a b:List Stmt}{tc:TT}(F:PT X c tc)(J:PSs X a t)(L:PSs X b u):PS X (.If c a b pos) (BC tc t u):=by
 intro pins s σ H D I h;refine wpAny_If (thn (F pins s σ H _ I h) λd s1 O=>?_);obtain⟨H1,j,z⟩:=O
 cases d with
 |true=>exact J pins s1 σ H1 D j z
 |false=>exact L pins s1 σ H1 D j z
end
noncomputable abbrev TG:=V->St->Hp->(St->Hp->Prop)->Prop
noncomputable abbrev TGs:=List V->St->Hp->(St->Hp->Prop)->Prop
def PG(X:Cx)(target:Expr)(t:TG):Prop:=
 ∀(pins:List (Uq×Obj)) (s:i4) (σ:St) (H:Hp) (v:V) (u:h6) (Q:St->Hp->Prop),Inv X pins σ H s->RelV v u->t v σ H Q->
  JK (model X.prog X.w) X.A (assign target X.env u) (λ_ s'=>∃σ' H',Inv X pins σ' H' s'/\Q σ' H') X.xe s
def PGs(X:Cx)(ts:List Expr)(t:TGs):Prop:=
 ∀(pins:List (Uq×Obj)) (s:i4) (σ:St) (H:Hp) (vs:List V) (us:List h6) (Q:St->Hp->Prop),Inv X pins σ H s->Vals vs us->t vs σ H Q->
  JK (model X.prog X.w) X.A (OA ((LF ts X.env).map (·.2)) us) (λ_ s'=>∃σ' H',Inv X pins σ' H' s'/\Q σ' H') X.xe s
noncomputable abbrev sj:=V->V->V->Hp->(Hp->Prop)->Prop
def PSet(X:Cx)(t:sj):Prop:=
 ∀(pins:List (Uq×Obj)) (s:i4) (σ:St) (H:Hp) (o i v:V) (ov iv u:h6) (Q:Hp->Prop),Inv X pins σ H s->RelV o ov->RelV i iv->RelV v u->t o i v H Q->
  JK (model X.prog X.w) X.A (setItem ov iv u) (λ_ s'=>∃H',Inv X pins σ H' s'/\Q H') X.xe s
section
variable{X:Cx}{pos:Pos}
noncomputable def gU(i:Nat):TG:=λv σ H Q=>Q (σ.set i (S v)) H
theorem qX(j:X.N.Nodup)(hi:X.N[i]?=S x)(hx:Loc X.env.scope x)(hf:X.fn x=Uo∨X.env.scope.names.lookup x=S .local:=by first|exact .inl rfl|exact .inr rfl|assumption):PG X (.Name x pos) (gU i):=by intro pins s σ H v u Q I r h;exact wpAny_assign_Name (bT I j hi hx r (λs' I'=>⟨_,H,I',h⟩) hf)
noncomputable def EE:TGs:=λvs σ H Q=>vs=[]/\Q σ H
noncomputable def Dq(t:TG)(u:TGs):TGs:=λvs σ H Q=>∃v r,vs=v::r/\t v σ H λσ' H'=>u r σ' H' Q
theorem zQ:PGs X [] EE:=by
 intro pins s σ H vs us Q I r h;obtain⟨e,h⟩:=h;subst e
 cases r
 exact Pu ⟨σ,H,I,h⟩
theorem wM{es:List Expr}{t:TG}{u:TGs}(h1:PG X e t)(h2:PGs X es u)(hs:(LF (e::es) X.env).map (·.2)=assign e X.env::(LF es X.env).map (·.2):=by rfl):PGs X (e::es) (Dq t u):=by
 intro pins s σ H vs us Q I r h;obtain⟨v,vr,j,h⟩:=h;subst j
 cases r with
 |cons r rr=>rw[hs];refine Md (thn (h1 pins s σ H _ _ _ I r h) λ_ s1 z=>?_);obtain⟨σ1,H1,F,J⟩:=z;exact h2 pins s1 σ1 H1 _ _ Q F rr J
noncomputable def EF(K:Frag)(n:Nat)(t:TGs):TG:=λv σ H Q=>∃a xs,v=.ref a/\SqT K H a xs/\xs.length=n/\t xs σ H Q
theorem BD{es:List Expr}{k:Nat}{t:TGs}{n:Nat}(z:X.calm=Uo)(h:PGs X es t)(hn:(LF es X.env).length=n:=by rfl)(j:(LF es X.env).findIdx? (·.1)=Z:=by rfl):PG X (.Tuple es k pos) (EF X.K n t):=by
 intro pins s σ H v u Q I r hw;obtain⟨a,xs,F,J,L,hw⟩:=hw;subst F
 cases r
 obtain⟨its,rv,O,Y⟩:=I.tuple J;refine assign_Tuple_tuple (I.ok.hd z) O (by simp[hn,<-L,rv.length]) j λh' hx=>?_
 have U:Inv X pins σ H {s with heap:=h'}:=I.kept (t':=s.toks) λb o e=>hx b o (K6 (JJ e)) e
 exact h pins _ σ H xs _ Q U (by simpa using rv) hw
noncomputable def EG(to ti:TE)(t:sj):TG:=λv σ H Q=>to σ H λo H1=>ti σ H1 λi H2=>t o i v H2 λH3=>Q σ H3
theorem BE {o i:Expr}{to ti:TE}{t:sj}(ho:PE X o to)(hi:PE X i ti)(hs:PSet X t)(z:∀v,assign (.Subscript o i pos) X.env v=(do
   let ov <-holding [v] (eval o X.env)
   let iv <-holding [v,ov] (eval i X.env)
   O6 pos
   holding [v,ov,iv] (setItem ov iv v)
   release [v,ov,iv] []):=by intro _;rfl):PG X (.Subscript o i pos) (EG to ti t):=by
 intro pins s σ H v u Q I r h;rw[z];refine gV (KO (thn (ho pins s σ H _ I h) λov s1 j=>?_));obtain⟨x,H1,F,J,L⟩:=j;refine gV (KO (thn (hi pins s1 σ H1 _ F L) λiv s2 j=>?_));obtain⟨y,H2,O,U,Y⟩:=j;refine gV (KP (gV (KO (thn (hs pins s2 σ H2 x y v ov iv u _ O J U r Y) λ_ s3 j=>?_))));obtain⟨Um,I3,q3⟩:=j;exact wpAny_release ⟨σ,Um,I3,q3⟩
noncomputable def nP(te:TE)(g:TG):TS:=λD σ H=>te σ H λx H1=>g x σ H1 D.nx
theorem ug{te:TE}{g:TG}(he:PE X e te)(j:PG X tg g)(hs:Na [tg] e pos.line X.env=pure Up:=by rfl)(hw:Mc [tg] e X.env=pure Z:=by rfl)(h1:(LF [tg] X.env).map (·.2)=[assign tg X.env]:=by rfl):PS X (.Assign [tg] e pos) (nP te g):=by intro pins s σ H D I h;refine wpAny_Assign_stores (thn (he pins s σ H _ I h) λv s1 g9=>?_) hs hw;obtain⟨x,H1,z,F,J⟩:=g9;rw[h1];exact thn (j pins s1 σ H1 x v _ z F J) λ_ s2 q=>q
theorem uh{te:TE}{pos':Pos}(j:X.N.Nodup)(hi:X.N[i]?=S x)(hx:Loc X.env.scope x)(he:PE X e te)(hs:LD e (S (.Name x pos')) pos.line X.env=pure Up:=by rfl)(hf:X.fn x=Uo∨X.env.scope.names.lookup x=S .local:=by first|exact .inl rfl|exact .inr rfl|assumption):
 PS X (.Assign [.Name x pos'] e pos) (nP te (gU i)):=by
 intro pins s σ H D I h;refine wpAny_Assign_Name (thn (he pins s σ H _ I h) λv s1 g9=>?_) hs;obtain⟨y,H1,z,F,J⟩:=g9;exact bT z j hi hx F (λs2 L=>⟨_,H1,L,J⟩) hf
noncomputable def BG(i j:Nat)(ta:TA):TS:=λD σ H=>ta σ H λvs H1=>∃v w,vs=[v,w]/\D.nx ((σ.set i (S v)).set j (S w)) H1
theorem BH{y:Str}{a b:Expr}{ta:TA}{px py pt:Pos}{kt k2 z}(Um:X.calm=Uo)(O:X.N.Nodup)(hi:X.N[i]?=S x)(hj:X.N[j]?=S y)(F:i≠j)(hx:X.env.scope.names.lookup x=S .local)(U:X.env.scope.names.lookup y=S .local)(ha:PA X [a,b] ta)(hw:Mc [.Tuple [.Name x px,.Name y py] kt pt] (.Tuple [a,b] k2 z) X.env=pure (S [x,y]))(hs:Na [.Tuple [.Name x px,.Name y py] kt pt] (.Tuple [a,b] k2 z) pos.line X.env=pure Up:=by rfl):
 PS X (.Assign [.Tuple [.Name x px,.Name y py] kt pt] (.Tuple [a,b] k2 z) pos) (BG i j ta):=by
 intro pins s σ H D I h;rw[exec_Assign_arm];refine gV (KP ?_);rw[hs];refine gV (B1 ?_);rw[if_neg (by decide)]
 refine gV (Tuple_ (thn (ha _ pins s σ H _ I h) λus s1 g9=>?_));obtain⟨vs,H1,I1,r1,J⟩:=g9;obtain⟨v,w,e1,J⟩:=J;subst e1;obtain⟨u1,u2,rfl,rv,rw'⟩:∃u1 u2,us=[u1,u2]/\RelV v u1/\RelV w u2:=by
  cases r1 with
  |cons p q=>
   cases q with
   |cons p' q'=>
    cases q'
    exact⟨_,_,rfl,p,p'⟩
 refine LR ?_ (by show 2<=D2;decide)
 have I2:Inv X pins σ H1 {s1 with heap:=s1.heap.push {cls:=.type "tuple",data:=.seq [u1,u2].toArray}}:=I1.kept (t':=s1.toks) λb o e=>n6 _ e
 rw[hw];refine gV (B1 ?_);show JK (model X.prog X.w) X.A (do rule "assign.swapped-stores";let items <-unpackItems (.ref s1.heap.objs.size) 2 Z;OA [λv=>NL X.env y v,λv=>NL X.env x v] items.reverse;pure Sn) _ _ _
 refine gV (Me (gV (RJ (items:=#[u1,u2]) (I.ok.hd Um) (R1 s1.heap _) λh' L=>?_)));have I3:=I2.kept (h':=h') (t':=s1.toks) λb o e=>L b o (K6 (JJ e)) e;show JK _ _ (OA [λv=>NL X.env y v,λv=>NL X.env x v] [u2,u1]>>=λ_=>pure Sn) _ _ _;refine gV (Md (Np (bT I3 O hj (.inl U) rw' (λs2 I4=>?_) (.inr U))));refine Md (Np (bT I4 O hi (.inl hx) rv (λs3 Y=>Pu (B1 ?_)) (.inr hx)));rw[OB _ _ (Ne.symm F)]at Y;exact⟨_,H1,Y,J⟩
def EH(X:Cx)(t:V->V->Hp->VK->Prop):Prop:=
 ∀(pins:List (Uq×Obj)) (s:i4) (σ:St) (H:Hp) (o i:V) (ov iv:h6) (Q:VK),Inv X pins σ H s->RelV o ov->RelV i iv->t o i H Q->
  JK (model X.prog X.w) X.A (Tn ov iv) (EP X pins σ Q) X.xe s
end
section
variable{X:Cx}{pos:Pos}
noncomputable def ui(c:TT)(tb:TS):TS:=λD σ H=>∃W:Nat->St->Hp->Prop,(∃m,W m σ H)/\∀m σ H,W m σ H->
 c σ H λb H1=>if b=Uo then ∃N:St->Hp->Prop,(∀σ' H',N σ' H'->∃m',m'<m/\W m' σ' H')/\tb {D with nx:=N,ct:=N,bk:=D.nx} σ H1 else D.nx σ H1
theorem wN{tc:TT}{tb:TS}(U:R4 (model X.prog X.w) X.A X.env X.xe)(hc:PT X c tc)(hb:PSs X body tb):PS X (.While c body [] pos) (ui tc tb):=by
 intro pins s σ H D I h;obtain⟨W,⟨m0,w0⟩,turn⟩:=h;refine wpAny_While (codeAny_whileLoop (λn s'=>∃σ' H',Inv X pins σ' H' s'/\W n σ' H') ?_ m0 ⟨σ,H,I,w0⟩);rintro n s1 ⟨σ1,H1,I1,w1⟩;refine Mk U (thn (hc pins s1 σ1 H1 _ I1 (turn n σ1 H1 w1)) λb s2 g9=>?_);obtain⟨H2,Y,z⟩:=g9
 cases b with
 |true=>
  obtain⟨N,Um,z⟩:=z;rw[if_pos rfl];refine Mk U (thn (hb pins s2 σ1 H2 _ Y z) λf s3 F=>?_)
  cases f with
  |next=>obtain⟨σ3,j,J,L⟩:=F;obtain⟨m',hm,O⟩:=Um σ3 j L;exact⟨m',hm,σ3,j,J,O⟩
  |cont=>obtain⟨σ3,j,J,L⟩:=F;obtain⟨m',hm,O⟩:=Um σ3 j L;exact⟨m',hm,σ3,j,J,O⟩
  |brk=>exact F
  |ret v=>exact F
 |false=>rw[if_neg q7];exact N6 ⟨σ1,H2,Y,z⟩
end
structure It where
 go:Nat->Hp->Prop
 yld:Nat->Hp->V->Hp->Prop
 stop:Nat->Hp->Prop
def cA(X:Cx)(pins:List (Uq×Obj))(H:Hp)(b:Uq):Prop:=H b=Z/\b≠X.env.locals/\b∉X.fs/\(b∈X.ex∨X.s₀.heap.objs.size<=b)/\(∀x c,X.env.cells.lookup x=S c->c≠b)/\∀p∈X.pn++pins,p.1≠b
theorem Inv.fpOk{H':Hp}(I:Inv X pins σ H s)(j:s.heap.objs.size<=b)(hn:H' b=Z):cA X pins H' b:=by
 refine⟨hn,Mr (Kc I.lt j),I.nofs j,.inr (Ka I.sz j),λx c e z=>?_,λp F z=>?_⟩
 ·obtain⟨v,q⟩:=I.cell x c e;exact absurd (Kc q.lt (by rw[z];exact j)) (Lc _)
 ·exact absurd (Kc (JJ (I.pin p F).1) (by rw[z];exact j)) (Lc _)
structure jQ(P:JR)(w:K8)(K:Frag)(tg:Expr)(J:It)(fp:List Uq)(it:Uq)(tn:Nat->Heap->Prop):Prop where
 mem:it∈fp
 obj:∀i h,tn i h->∀b∈fp,∃o,h.get? b=S o/\∀v,o.data≠.cell v
 keep:∀i h h',tn i h->(∀b∈fp,∀o,h.get? b=S o->h'.get? b=S o)->tn i h'
 item:∀(X:Cx),X.prog=P->X.w=w->X.K=K->X.calm=Uo->∀(i:Nat) (pins:List (Uq×Obj)) (s:i4) (σ:St) (H:Hp) (E:h6->i4->Prop),Inv X pins σ H s->(∀b∈fp,cA X pins H b)->tn i s.heap->J.go i H->
  JK (model P w) X.A (PN (.ref it)) (λr s1=>∃u,r=S u /\
   JK (model P w) X.A (ON tg (.ref it) u) (λ_ s2=>∃x H',Inv X pins σ H' s2/\RelV x u/\J.yld i H x H'/\tn (i+1) s2.heap/\∀b∈fp,H' b=Z) E s1) E s
 done:∀(X:Cx),X.prog=P->X.w=w->X.K=K->X.calm=Uo->∀(i:Nat) (pins:List (Uq×Obj)) (s:i4) (σ:St) (H:Hp) (E:h6->i4->Prop),Inv X pins σ H s->(∀b∈fp,cA X pins H b)->tn i s.heap->J.stop i H->
  JK (model P w) X.A (PN (.ref it)) (λr s1=>r=Z/\Inv X pins σ H s1) E s
 self:∀(A:K2) (i:Nat) (s:i4) (Q:h6->i4->Prop) (E:h6->i4->Prop),tn i s.heap->Q (.ref it) s->JK (model P w) A (QK (.ref it)) Q E s
noncomputable abbrev TI:=St->Hp->(It->Hp->Prop)->Prop
def PIE(X:Cx)(pins:List (Uq×Obj))(σ:St)(tg:Expr)(R:It->Hp->Prop)(itv:h6)(s2:i4):Prop:=∃(it:Uq) (fp:List Uq) (tn:Nat->Heap->Prop) (J:It) (H':Hp),itv=.ref it/\Inv X pins σ H' s2/\jQ X.prog X.w X.K tg J fp it tn/\tn 0 s2.heap/\(∀b∈fp,cA X pins H' b)/\R J H'
def PI(X:Cx)(tg iter:Expr)(wi:TI):Prop:=
 ∀(pins:List (Uq×Obj)) (s:i4) (σ:St) (H:Hp) (R:It->Hp->Prop),Inv X pins σ H s->wi σ H R->
  JK (model X.prog X.w) X.A (eval iter X.env) (λv s1=>JK (model X.prog X.w) X.A (QK v) (PIE X pins σ tg R) X.xe s1) X.xe s
theorem sk{E:h6->i4->Prop}{it:Uq}{o:Obj}{n:String}{vs:Array h6}{Q:Unit->i4->Prop}(ho:s.heap.get? it=S o)(z:o.cls=.type n)(hd:o.data=.fields vs)(hn:["enumerate","zip","dict_itemiterator","dict_reverseitemiterator","odict_iterator","itertools.zip_longest","itertools.pairwise"].contains n=Up)(j:Q () s):JK M A (ON tg (.ref it) u) Q E s:=by
 unfold ON
 cases tg<;>first
  |exact B1 j
  | (cases u<;>first
      |exact B1 j
      | (refine gV (wpAny_load ho ?_)
         rw[z,hd];show JK M A (if(["enumerate","zip","dict_itemiterator","dict_reverseitemiterator","odict_iterator","itertools.zip_longest","itertools.pairwise"].contains n&&vs[0]?==S (NH _))=Uo then _ else _) Q E s
         rw[if_neg (by intro h;rw[hn,Bool.false_and]at h;cases h)]
         exact B1 j))
noncomputable def Itl(K:Frag)(a:Uq):It:=⟨λi H=>∃xs x,SqL K H a xs/\xs[i]?=S x,λi H x H'=>H'=H/\∀xs,SqL K H a xs->xs[i]?=S x,λi H=>∃xs,SqL K H a xs/\xs.length<=i⟩
noncomputable def Itt(K:Frag)(a:Uq):It:=⟨λi H=>∃xs x,SqT K H a xs/\xs[i]?=S x,λi H x H'=>H'=H/\∀xs,SqT K H a xs->xs[i]?=S x,λi H=>∃xs,SqT K H a xs/\xs.length<=i⟩
noncomputable def Itr(lo:Int)(n:Nat):It:=⟨λi _=>i<n,λi H x H'=>H'=H/\x=.int (lo+i),λi _=>n<=i⟩
theorem uj(a it:Uq):jQ P w K tg (Itl K a) [it] it (λi h=>h.IsListIter it a i) where
 mem:=by simp
 obj:=λi h st b j=>by
  have e:b=it:=by simpa using j
  subst e;obtain⟨o,e,c,d⟩:=st;exact⟨o,e,λv z=>by rw[d]at z;cases z⟩
 keep:=λi h h' st k=>st.at λo e=>k it (by simp) o e
 item:=by
  intro X J hw L Y i pins s σ H E I hf st hg;subst J hw L;obtain⟨xs,x,F,hx⟩:=hg;obtain⟨its,rv,p,Um⟩:=I.list F;obtain⟨u,hu,ru⟩:=rv.get hx;obtain⟨f0,f1,f2,O,f4,U⟩:=hf it (by simp)
  refine wpAny_pyNext_list_item st p.isList (x:=u) (by simpa using hu) λh' st' sb=>?_
  have I1:Inv X pins σ H {s with heap:=h'}:=I.turned (t':=s.toks) (λb o j e=>(sb.2 b j).trans e) f0 f1 O f4 U
  obtain⟨o,e,c,d⟩:=id st';exact⟨u,rfl,sk (s:={s with heap:=h'}) e c d (by decide) ⟨x,H,I1,ru,⟨rfl,λys hy=>by rw[I.list_inj hy F];exact hx⟩,st',λb j=>(hf b j).1⟩⟩
 done:=by
  intro X J hw L Y i pins s σ H E I hf st hg;subst J hw L;obtain⟨xs,F,hx⟩:=hg;obtain⟨its,rv,p,Um⟩:=I.list F;obtain⟨f0,f1,f2,O,f4,U⟩:=hf it (by simp)
  have hl:=rv.length;exact wpAny_pyNext_list_end (I.ok.hd Y) st p.isList (by simp;lia) λh' eb=>⟨rfl,I.turned (t':=s.toks) (λb o j e=>eb b o j e) f0 f1 O f4 U⟩
 self:=λ_ _ _ _ _ st h=>wpAny_pyIter_listiter st h
theorem su(a it:Uq):jQ P w K tg (Itt K a) [it] it (λi h=>h.IsTupleIter it a i) where
 mem:=by simp
 obj:=λi h st b j=>by
  have e:b=it:=by simpa using j
  subst e;obtain⟨o,e,c,d⟩:=st;exact⟨o,e,λv z=>by rw[d]at z;cases z⟩
 keep:=λi h h' st k=>st.at λo e=>k it (by simp) o e
 item:=by
  intro X J hw L Y i pins s σ H E I hf st hg;subst J hw L;obtain⟨xs,x,F,hx⟩:=hg;obtain⟨its,rv,p,Um⟩:=I.tuple F;obtain⟨u,hu,ru⟩:=rv.get hx;obtain⟨f0,f1,f2,O,f4,U⟩:=hf it (by simp)
  refine wpAny_pyNext_tuple_item st (show s.heap.IsTuple a its.toArray from p) (x:=u) (by simpa using hu) λh' st' sb=>?_
  have I1:Inv X pins σ H {s with heap:=h'}:=I.turned (t':=s.toks) (λb o j e=>(sb.2 b j).trans e) f0 f1 O f4 U
  obtain⟨o,e,c,d⟩:=id st';exact⟨u,rfl,sk (s:={s with heap:=h'}) e c d (by decide) ⟨x,H,I1,ru,⟨rfl,λys hy=>by rw[I.tuple_inj hy F];exact hx⟩,st',λb j=>(hf b j).1⟩⟩
 done:=by
  intro X J hw L Y i pins s σ H E I hf st hg;subst J hw L;obtain⟨xs,F,hx⟩:=hg;obtain⟨its,rv,p,Um⟩:=I.tuple F;obtain⟨f0,f1,f2,O,f4,U⟩:=hf it (by simp)
  have hl:=rv.length;exact wpAny_pyNext_tuple_end (I.ok.hd Y) st (show s.heap.IsTuple a its.toArray from p) (by simp;lia) λh' eb=>⟨rfl,I.turned (t':=s.toks) (λb o j e=>eb b o j e) f0 f1 O f4 U⟩
 self:=λ_ _ _ _ _ st h=>wpAny_pyIter_tupleiter st h
theorem sx(it:Uq)(lo:Int)(n:Nat):jQ P w K tg (Itr lo n) [it] it (λi h=>IsRangeIter h it (lo+(i:Nat)*1) ((n:Int)-(i:Nat)) 1) where
 mem:=by simp
 obj:=λi h st b j=>by
  have e:b=it:=by simpa using j
  subst e;exact⟨_,st,λv z=>by
   have z':Data.fields _=Data.cell v:=z
   cases z'⟩
 keep:=λi h h' st k=>k it (by simp) _ st
 item:=by
  intro X F hw J L i pins s σ H E I hf st hg;subst F hw J;obtain⟨f0,f1,f2,O,f4,U⟩:=hf it (by simp)
  have W:=Walks.range (prog:=X.prog) (w:=X.w) (I.ok.hd L) it lo 1 n;refine W.item i s _ _ hg st λv h' tk Y st' kk=>?_;obtain⟨t,rfl⟩:=Y;have Um:Inv X pins σ H {s with heap:=h',toks:=tk}:=I.turned (λb o j e=>kk b o (by simpa using j) e) f0 f1 O f4 U
  refine⟨_,rfl,sk (s:={s with heap:=h',toks:=tk}) (n:="range_iterator") st' rfl rfl (by decide) ⟨.int (lo+i),H,Um,⟨t,?_⟩,⟨rfl,rfl⟩,st',λb j=>(hf b j).1⟩⟩
  rw[Int.mul_one]
 done:=by
  intro X F hw J L i pins s σ H E I hf st hg;subst F hw J;obtain⟨f0,f1,f2,O,f4,U⟩:=hf it (by simp)
  exact wpAny_pyNext_range_end (I.ok.hd L) st (by have:n<=i:=hg;lia) λh' eb=>⟨rfl,I.turned (t':=s.toks) (λb o j e=>eb b o j e) f0 f1 O f4 U⟩
 self:=λ_ _ _ _ _ st h=>wpAny_pyIter_rangeiter st h
end
variable{fp:List Uq}
section
section
variable{X:Cx}{tg:Expr}
theorem wP{R:It->Hp->Prop}{E:h6->i4->Prop}{lo hi:Int}{t u v:Tok}{tk:Nat}(I:Inv X pins σ H s)(h1:-(2^62)<=lo)(h2:lo<2^62)(z:-(2^62)<=hi)(F:hi<2^62)(q:R (Itr lo (hi-lo).toNat) H):JK (model X.prog X.w) X.A (QK (.ref s.heap.objs.size)) (PIE X pins σ tg R) E {s with heap:=s.heap.push {cls:=.type "range",data:=.fields #[.int lo t,.int hi u,.int 1 v]},toks:=tk}:=by
 refine wpAny_pyIter_range (IsRange.new ..) (small_one h1 h2 z F) ?_;have j:Inv X pins σ H {s with heap:=s.heap.push {cls:=.type "range",data:=.fields #[.int lo t,.int hi u,.int 1 v]},toks:=tk}:=I.kept λb o e=>n6 _ e
 refine⟨(s.heap.push {cls:=.type "range",data:=.fields #[.int lo t,.int hi u,.int 1 v]}).objs.size,[(s.heap.push {cls:=.type "range",data:=.fields #[.int lo t,.int hi u,.int 1 v]}).objs.size],_,_,H,rfl,
  j.kept (t':=tk) λb o e=>n6 _ e,sx _ lo (hi-lo).toNat,?_,λb J=>?_,q⟩
 ·have L:lo+((0:Nat):Int)*1=lo:=by simp
  have O:(((hi-lo).toNat:Nat):Int)-((0:Nat):Int)=Builtin.Range.rangeSize lo hi 1:=by rw[rangeSize_one];split<;>lia
  show IsRangeIter _ _ (lo+((0:Nat):Int)*1) ((((hi-lo).toNat:Nat):Int)-((0:Nat):Int)) 1;rw[L,O];exact JW _ rfl
 ·have e:b=(s.heap.push {cls:=.type "range",data:=.fields #[.int lo t,.int hi u,.int 1 v]}).objs.size:=by simpa using J
  subst e;exact j.fpOk (JL _) (j.hok.fresh (JL _))
noncomputable def Dr(ta:TA):TI:=λσ H R=>ta σ H λvs H1=>∃j:Int,vs=[.int j] /\ -(2^62)<=j/\j<2^62/\R (Itr 0 j.toNat) H1
theorem uk{a:Expr}{ta:TA}{p:Pos}(F:Gl X "range")(hm:X.mg "range"=Z)(J:PA X [a] ta)(hs:JU [a] X.env=[(Up,eval a X.env)]:=by rfl):PI X tg (.Call (.Name "range" p) [a] [] pos) (Dr ta):=by
 intro pins s σ H R I h;refine Call_ (gr I F hm boot_range (Ni (thn (J pos pins s σ H _ I h) λus s1 g9=>?_) hs rfl));obtain⟨vs,H1,L,O,z⟩:=g9;obtain⟨j,e,z,U,q⟩:=z;subst e
 cases O with
 |cons r rr=>
  cases rr
  obtain⟨t,rfl⟩:=r;exact call_range_1 (wP L ∅ ∅ z U (by simpa using q))
noncomputable def wQ(wi:TI)(g:TG)(tb:TS):TS:=λD σ H=>wi σ H λJ H1=>∃W:Nat->Nat->St->Hp->Prop,(∃m,W 0 m σ H1)/\∀i m σ H,W i m σ H->
 (J.stop i H/\D.nx σ H)∨(J.go i H/\∃N:St->Hp->Prop,(∀σ' H',N σ' H'->∃m',m'<m/\W (i+1) m' σ' H')/\∀x H',J.yld i H x H'->g x σ H' λσ2 H2=>tb {D with nx:=N,ct:=N,bk:=D.nx} σ2 H2)
noncomputable def jc(fp:List Uq)(h:Heap):List (Uq×Obj):=fp.filterMap λb=>(h.get? b).map λo=>(b,o)
theorem dB{o:Obj}(j:b∈fp)(e:h.get? b=S o):(b,o)∈jc fp h:=Rr.mpr ⟨b,j,by rw[e];rfl⟩
theorem um{p:Uq×Obj}(j:p∈jc fp h):p.1∈fp/\h.get? p.1=S p.2:=by
 obtain⟨b,z,e⟩:=Rr.mp j
 cases q:h.get? b with
 |none=>rw[q]at e;cases e
 |some o=>rw[q]at e;have e':(b,o)=p:=Lo.inj e;subst e';exact⟨z,q⟩
theorem Inv.pinned(I:Inv X pins σ H s)(hf:∀b∈fp,cA X pins H b)(ho:∀b∈fp,∃o,s.heap.get? b=S o/\∀v,o.data≠.cell v):Inv X (pins++jc fp s.heap) σ H s:=
 I.pins_of λp F=>(K0.mp F).elim (λz=>I.pin p (K1 _ z)) λz=>by obtain⟨j,e⟩:=um z;obtain⟨f0,f1,f2,_⟩:=hf p.1 j;obtain⟨o,e',d⟩:=ho p.1 j;rw[e]at e';cases e';exact⟨e,f0,f1,f2,d⟩
theorem Inv.unpinned{pl:List (Uq×Obj)}(I:Inv X (pins++pl) σ H s):Inv X pins σ H s:=I.pins_of λp j=>I.pin p (K1 _ (Lp _ j))
theorem uo{iter:Expr}{wi:TI}{g:TG}{tb:TS}(Y:R4 (model X.prog X.w) X.A X.env X.xe)(hc:X.calm=Uo)(hi:PI X tg iter wi)(hg:PG X tg g)(j:PSs X body tb)(hs:∀x,Lv iter X.env x=pure x:=by intro _;rfl):PS X (.For tg iter body [] pos) (wQ wi g tb):=by
 intro pins s σ H D I h;refine wpAny_For (thn (hi pins s σ H _ I h) λv s1 h1=>thn h1 λitv s2 h2=>?_) hs;obtain⟨it,fp,tn,J,H2,e,I2,T,Hg,f2,W,⟨m0,w0⟩,turn⟩:=h2;subst e;have stat:∀{H':Hp},(∀b∈fp,H' b=Z)->∀b∈fp,cA X pins H' b:=λhn b j=>⟨hn b j,(f2 b j).2⟩;refine codeAny_forLoop_any (λn s'=>∃i σ' H',Inv X pins σ' H' s'/\tn i s'.heap/\(∀b∈fp,H' b=Z)/\W i n σ' H') ?_ m0 ⟨0,σ,H2,I2,Hg,λb j=>(f2 b j).1,w0⟩;rintro n s3 ⟨i,σ3,H3,I3,Um,Hf,w3⟩
 rcases turn i n σ3 H3 w3 with⟨stop,qn⟩|⟨go,N,hN,step⟩
 ·refine Mk Y (thn (T.done X rfl rfl rfl hc i pins s3 σ3 H3 X.xe I3 (stat Hf) Um stop) λr s4 O=>?_);obtain⟨hr,I4⟩:=O;subst hr;exact N6 ⟨σ3,H3,I4,qn⟩
 ·refine Mk Y (thn (T.item X rfl rfl rfl hc i pins s3 σ3 H3 X.xe I3 (stat Hf) Um go) fun r s4 O=>?_);obtain⟨u,hr,h4⟩:=O;subst hr;refine Mk Y (thn h4 fun _ s5 O=>?_);obtain⟨x,H5,I5,r5,y5,U,Hh⟩:=O;have Hi:=I5.pinned (stat Hh) (T.obj _ _ U);refine Mk Y (thn (hg _ s5 σ3 H5 x u _ Hi r5 (step x H5 y5)) fun _ s6 O=>?_);obtain⟨σ6,H6,I6,q6⟩:=O;refine Mk Y (thn (j _ s6 σ6 H6 _ I6 q6) fun f s7 L=>?_);have again:∀{σ7:St} {z:Hp},Inv X (pins++jc fp s5.heap) σ7 z s7->N σ7 z->∃m,m<n/\∃i σ' H',Inv X pins σ' H' s7/\tn i s7.heap/\(∀b∈fp,H' b=Z)/\W i m σ' H':=fun {σ7 z} F n7=>by
   obtain⟨m',hm,w7⟩:=hN σ7 z n7;refine⟨m',hm,i+1,σ7,z,F.unpinned,T.keep _ _ _ U λb j o e=>(F.pin (b,o) (K1 _ (K1 _ (dB j e)))).1,λb j=>?_,w7⟩;obtain⟨o,e,d⟩:=T.obj _ _ U b j;exact(F.pin (b,o) (K1 _ (K1 _ (dB j e)))).2.1
  cases f with
  |next=>obtain⟨σ7,z,F,n7⟩:=L;exact again F n7
  |cont=>obtain⟨σ7,z,F,n7⟩:=L;exact again F n7
  |brk=>obtain⟨σ7,z,F,L⟩:=L;exact⟨σ7,z,F.unpinned,L⟩
  |ret v=>obtain⟨x7,σ7,z,F,r7,L⟩:=L;exact⟨x7,σ7,z,F.unpinned,r7,L⟩
end
end
variable{f:h6->h6->Sem h6}{op:QL}{Q:VK}
section
noncomputable abbrev R2:=V->V->Hp->VK->Prop
def OpR(X:Cx)(f:h6->h6->Sem h6)(r:R2):Prop:=
 ∀(pins:List (Uq×Obj)) (s:i4) (σ:St) (H:Hp) (x y:V) (v u:h6) (Q:VK),Inv X pins σ H s->RelV x v->RelV y u->r x y H Q->
  JK (model X.prog X.w) X.A (f v u) (EP X pins σ Q) X.xe s
def UnR(X:Cx)(f:h6->Sem h6)(r:V->Hp->VK->Prop):Prop:=
 ∀(pins:List (Uq×Obj)) (s:i4) (σ:St) (H:Hp) (x:V) (v:h6) (Q:VK),Inv X pins σ H s->RelV x v->r x H Q->
  JK (model X.prog X.w) X.A (f v) (EP X pins σ Q) X.xe s
def CallR(X:Cx)(f:h6)(r:List V->Hp->VK->Prop):Prop:=
 ∀(pins:List (Uq×Obj)) (s:i4) (σ:St) (H:Hp) (xs:List V) (us:List h6) (Q:VK),Inv X pins σ H s->Vals xs us->r xs H Q->
  JK (model X.prog X.w) X.A (call f us) (EP X pins σ Q) X.xe s
def EI(X:Cx)(r:V->Hp->(Bool->Hp->Prop)->Prop):Prop:=
 ∀(pins:List (Uq×Obj)) (s:i4) (σ:St) (H:Hp) (x:V) (v:h6) (Q:Bool->Hp->Prop),Inv X pins σ H s->RelV x v->r x H Q->
  JK (model X.prog X.w) X.A (truthy v) (TP X pins σ Q) X.xe s
noncomputable def tOp(r:R2)(ta tb:TE):TE:=λσ H Q=>ta σ H λx H1=>tb σ H1 λy H2=>r x y H2 Q
noncomputable def tUn(r:V->Hp->VK->Prop)(ta:TE):TE:=λσ H Q=>ta σ H λx H1=>r x H1 Q
noncomputable def rI(C:Int->Int->Prop)(g:Int->Int->V):R2:=λx y H Q=>∃i j,x=.int i/\y=.int j/\C i j/\Q (g i j) H
noncomputable def rI0(g:Int->Int->V):R2:=λx y H Q=>∃i j,x=.int i/\y=.int j/\Q (g i j) H
noncomputable def rU(g:Int->V):V->Hp->VK->Prop:=λx H Q=>∃i,x=.int i/\Q (g i) H
section
variable{X:Cx}{a b c:Expr}{ta tb tc:TE}{pos:Pos}
theorem wR(z:PE X a ta)(F:PE X b tb){R:V->V->Hp->Prop}(I:Inv X pins σ H s)(h:ta σ H λx H1=>tb σ H1 λy H2=>R x y H2){Q:h6->i4->Prop}(hf:∀v u s2 x y H2,Inv X pins σ H2 s2->RelV x v->RelV y u->R x y H2->JK (model X.prog X.w) X.A (f v u) Q X.xe s2):
 JK (model X.prog X.w) X.A (eval a X.env) (λv s₁=>JK (model X.prog X.w) X.A (eval b X.env) (λu s₂=>JK (model X.prog X.w) X.A (f v u) Q X.xe s₂) X.xe s₁) X.xe s:=by
 refine thn (z pins s σ H _ I h) λv s1 j=>?_;obtain⟨x,H1,J,L,O⟩:=j;refine thn (F pins s1 σ H1 _ J O) λu s2 j=>?_;obtain⟨y,H2,U,Y,Um⟩:=j;exact hf v u s2 x y H2 U L Y Um
theorem Ds{op:RN}{r:R2}(ho:OpR X (Lj op) r)(j:PE X a ta)(z:PE X b tb):PE X (.BinOp a op b pos) (tOp r ta tb):=by intro pins s σ H Q I h;exact wpAny_BinOp (wR j z I h λv u s2 x y H2 F rx ry q=>ho pins s2 σ H2 x y v u Q F rx ry q)
theorem Dt{op:UnaryOp}{r:V->Hp->VK->Prop}(ho:UnR X (unaryOp op) r)(j:PE X a ta):PE X (.UnaryOp op a pos) (tUn r ta):=by intro pins s σ H Q I h;exact UnaryOp_ (thn (j pins s σ H _ I h) λv s1 z=>(by obtain⟨x,H1,F,J,L⟩:=z;exact ho pins s1 σ H1 x v Q F J L))
theorem opI{C:Int->Int->Prop}{g:Int->Int->Int}(rule:∀(i j:Int) (t u:Tok) (s:i4) (Q:h6->i4->Prop) (E:h6->i4->Prop),C i j->Q (.int (g i j) s.toks) {s with toks:=s.toks+1}->JK (model X.prog X.w) X.A (f (.int i t) (.int j u)) Q E s):
 OpR X f (rI C λi j=>.int (g i j)):=by
 intro pins s σ H x y v u Q I rx ry h;obtain⟨i,j,rfl,rfl,z,q⟩:=h;obtain⟨t,rfl⟩:=rx;obtain⟨t',rfl⟩:=ry;exact rule i j t t' s _ _ z ⟨.int (g i j),H,I.tok _,⟨_,rfl⟩,q⟩
theorem BJ{g:Int->Int->Int}(rule:∀(i j:Int) (t u:Tok) (s:i4) (Q:h6->i4->Prop) (E:h6->i4->Prop),Q (.int (g i j) s.toks) {s with toks:=s.toks+1}->JK (model X.prog X.w) X.A (f (.int i t) (.int j u)) Q E s):
 OpR X f (rI0 λi j=>.int (g i j)):=by
 intro pins s σ H x y v u Q I rx ry h;obtain⟨i,j,rfl,rfl,q⟩:=h;obtain⟨t,rfl⟩:=rx;obtain⟨t',rfl⟩:=ry;exact rule i j t t' s _ _ ⟨.int (g i j),H,I.tok _,⟨_,rfl⟩,q⟩
theorem sB{g:Int->Int->Bool}(rule:∀(i j:Int) (t u:Tok) (s:i4) (Q:h6->i4->Prop) (E:h6->i4->Prop),Q (.bool (g i j)) s->JK (model X.prog X.w) X.A (f (.int i t) (.int j u)) Q E s):
 OpR X f (rI0 λi j=>.bl (g i j)):=by
 intro pins s σ H x y v u Q I rx ry h;obtain⟨i,j,rfl,rfl,q⟩:=h;obtain⟨t,rfl⟩:=rx;obtain⟨t',rfl⟩:=ry;exact rule i j t t' s _ _ ⟨.bl (g i j),H,I,rfl,q⟩
def EJ(i j:Int):Prop:=0<=j/\j<=1000000/\i.natAbs<2^64
theorem op_add:OpR X (Lj .Add) (rI0 λi j=>.int (i+j)):=BJ λ_ _ _ _ _ _ _ q=>add_int q
theorem BK:OpR X (Lj .Sub) (rI0 λi j=>.int (i-j)):=BJ λ_ _ _ _ _ _ _ q=>sub_int q
theorem BL:OpR X (Lj .Mod) (rI (λ_ j=>0<j) λi j=>.int (i%j)):=opI λi j _ _ _ _ _ z q=>by have h1:(0:Int)<j:=z;exact mod_int' ∅ (by rw[Int.fmod_eq_emod_of_nonneg i ∅];exact q)
theorem BM:OpR X (Lj .Pow) (rI EJ λi j=>.int (i^j.toNat)):=opI λ_ _ _ _ _ _ _ z q=>pow_int_small z.1 z.2.1 z.2.2 q
theorem unI{f:h6->Sem h6}{g:Int->Int}(rule:∀(i:Int) (t:Tok) (s:i4) (Q:h6->i4->Prop) (E:h6->i4->Prop),Q (.int (g i) s.toks) {s with toks:=s.toks+1}->JK (model X.prog X.w) X.A (f (.int i t)) Q E s):
 UnR X f (rU λi=>.int (g i)):=by
 intro pins s σ H x v Q I rx h;obtain⟨i,rfl,q⟩:=h;obtain⟨t,rfl⟩:=rx;exact rule i t s _ _ ⟨.int (g i),H,I.tok _,⟨_,rfl⟩,q⟩
theorem BN:UnR X (unaryOp .USub) (rU λi=>.int (-i)):=unI λ_ _ _ _ _ q=>neg_int q
end
section
variable{X:Cx}{a b c:Expr}{ta tb tc:TE}{pos:Pos}
theorem BO{k k':Bool}(I:Inv X pins σ H s)(q:Q (.bl k) H)(e:k=k'):EP X pins σ Q (.bool k') s:=by subst e;exact⟨.bl k,H,I,rfl,q⟩
theorem Du:OpR X (Kb .Lt) (rI0 λi j=>.bl (decide (i<j))):=sB λ_ _ _ _ _ _ _ q=>lt_int q
theorem Dv:OpR X (Kb .LtE) (rI0 λi j=>.bl (decide (i<=j))):=sB λ_ _ _ _ _ _ _ q=>le_int q
theorem Dw:OpR X (Kb .Gt) (rI0 λi j=>.bl (decide (j<i))):=sB λ_ _ _ _ _ _ _ q=>gt_int q
theorem Dx:OpR X (Kb .GtE) (rI0 λi j=>.bl (decide (j<=i))):=sB λ_ _ _ _ _ _ _ q=>ge_int q
theorem BP:OpR X (Kb .Is) (λx y H Q=>y=.non/\Q (.bl (decide (x=.non))) H):=by
 intro pins s σ H x y v u Q I rx ry h;obtain⟨rfl,q⟩:=h
 cases ry
 refine is_none_gen (BO I q ?_)
 cases x<;>first
  |(cases rx;rfl)
  |(obtain⟨t,rfl⟩:=rx;rfl)
theorem OpR.or{r r':R2}(h:OpR X f r)(h':OpR X f r'):OpR X f (λx y H Q=>r x y H Q∨r' x y H Q):=by
 intro pins s σ H x y v u Q I rx ry q
 rcases q with q|q
 ·exact h pins s σ H x y v u Q I rx ry q
 ·exact h' pins s σ H x y v u Q I rx ry q
theorem BQ(b:Expr)(h:op≠.In:=by decide)(h2:op≠.NotIn:=by decide):Mx op b=Up:=by
 have j:(op==CmpOp.In)=Up:=by cases op<;>first|rfl|exact absurd rfl h
 have z:(op==CmpOp.NotIn)=Up:=by cases op<;>first|rfl|exact absurd rfl h2
 cases b<;>simp[Mx,j,z]
theorem zR{r:R2}(ho:OpR X (Kb op) r)(j:PE X a ta)(z:PE X b tb)(hm:Mx op b=Up):PE X (.Compare a [op] [b] pos) (tOp r ta tb):=by intro pins s σ H Q I h;exact wpAny_Compare1 (wR j z I h λv u s2 x y H2 F rx ry q=>ho pins s2 σ H2 x y v u Q F rx ry q) hm
noncomputable def sC(t:TE):TT:=λσ H Q=>t σ H λx H'=>∃k,x=.bl k/\Q k H'
theorem qY{r:R2}(ho:OpR X (Kb op) r)(j:PE X a ta)(F:PE X b tb)(hm:Mx op b=Up):PT X (.Compare a [op] [b] pos) (sC (tOp r ta tb)):=by
 intro pins s σ H Q I h;refine wpAny_isTrue_Compare1 (thn (j pins s σ H _ I h) λv s1 ⟨x,H1,J,L,O⟩=>thn (F pins s1 σ H1 _ J O) λu s2 ⟨y,H2,U,Y,Um⟩=>thn (ho pins s2 σ H2 x y v u _ U L Y Um) λc s3 ⟨z,H3,I3,r3,k,e,q3⟩=>?_) hm
 subst e
 cases r3
 exact L7 ⟨H3,I3,q3⟩
noncomputable def nQ(r r':R2)(ta tb tc:TE):TE:=λσ H Q=>ta σ H λx H1=>tb σ H1 λy H2=>r x y H2 λz H3=>∃k,z=.bl k /\
 (if k=Uo then tc σ H3 λw' H4=>r' y w' H4 Q else Q (.bl Up) H3)
theorem wU{op':QL}{r r':R2}(ho:OpR X (Kb op) r)(j:OpR X (Kb op') r')(U:PE X a ta)(Y:PE X b tb)(Um:PE X c tc)(hm:Q1 [op,op'] [b,c]=Up:=by with_unfolding_all rfl):PE X (.Compare a [op,op'] [b,c] pos) (nQ r r' ta tb tc):=by
 intro pins s σ H Q I h;refine Compare_chain (thn (U pins s σ H _ I h) λv s1 ⟨x,H1,I1,r1,q1⟩=>chain_link (thn (Y pins s1 σ H1 _ I1 q1) λu s2 ⟨y,H2,I2,F,q2⟩=>thn (ho pins s2 σ H2 x y v u _ I2 r1 F q2) λd s3 ⟨z,J,L,r3,k,e,O⟩=>?_)) hm
 subst e
 cases r3
 refine L7 ?_
 cases k with
 |false=>exact ite_ff ⟨.bl Up,J,L,rfl,O⟩
 |true=>exact ite_tt (chain_last (thn (Um pins s3 σ J _ L O) λw' s4 g9=>(by obtain⟨z',H4,I4,r4,q4⟩:=g9;exact j pins s4 σ H4 y z' u w' Q I4 F r4 q4)))
theorem wV{op':QL}{r r':R2}(ho:OpR X (Kb op) r)(j:OpR X (Kb op') r')(U:PE X a ta)(Y:PE X b tb)(Um:PE X c tc)(hm:Q1 [op,op'] [b,c]=Up:=by with_unfolding_all rfl):PT X (.Compare a [op,op'] [b,c] pos) (sC (nQ r r' ta tb tc)):=by
 intro pins s σ H Q I h;refine isTrue_chain (thn (U pins s σ H _ I h) λv s1 ⟨x,H1,I1,r1,q1⟩=>test_link (thn (Y pins s1 σ H1 _ I1 q1) λu s2 ⟨y,H2,I2,F,q2⟩=>thn (ho pins s2 σ H2 x y v u _ I2 r1 F q2) λd s3 ⟨z,J,L,r3,k,e,O⟩=>?_)) hm
 subst e
 cases r3
 refine L7 ?_
 cases k with
 |false=>
  obtain⟨k',e',q'⟩:=O
  cases e'
  exact ite_ff ⟨J,L,q'⟩
 |true=>
  refine ite_tt (test_last (thn (Um pins s3 σ J _ L O) λw' s4 ⟨z',H4,I4,r4,q4⟩=>thn (j pins s4 σ H4 y z' u w' _ I4 F r4 q4) λd' s5 g9=>?_));obtain⟨z2,H5,I5,r5,k2,e2,q5⟩:=g9;subst e2
  cases r5
  exact L7 ⟨H5,I5,q5⟩
def wW(K:Frag)(x:V)(H:Hp)(k:Bool):Prop:=
 match x with
 |.non=>k=Up
 |.bl b=>k=b
 |.int i=>k=(i != 0)
 |.str y=>y.length<=D2/\k=((y.length:Int) != 0)
 |.byt y=>y.size<=D2/\k=((y.size:Int) != 0)
 |.ref p=>(∃xs,SqL K H p xs/\k = !xs.isEmpty)∨(∃xs,SqT K H p xs/\k = !xs.isEmpty)∨∃kvs,H p=S (.dK kvs)/\k = !kvs.isEmpty
 |_=>False
theorem sF{κ:Type}{kvs:List (κ×V)}{vs:List (κ×h6)}(r:KV kvs vs):(!vs.isEmpty) = !kvs.isEmpty:=by cases r<;>rfl
theorem jd{xs:List V}{its:List h6}(r:Vals xs its):(!its.toArray.isEmpty) = !xs.isEmpty:=by cases r<;>simp
theorem dY:(D2:Nat)<2^63:=by rw[D0];decide
theorem BR:EI X (λx H Q=>∃k,wW X.K x H k/\Q k H):=by
 intro pins s σ H x v Q I rx h;obtain⟨k,e,q⟩:=h;have J:=dY;have hs:D2=16777216:=D0
 cases x with
 |non=>
  cases rx
  have e':k=Up:=e;subst e';exact truthy_none ⟨H,I,q⟩
 |bl b=>
  cases rx
  have e':k=b:=e;subst e';exact L7 ⟨H,I,q⟩
 |int i=>obtain⟨t,rfl⟩:=rx;have e':k=(i != 0):=e;subst e';exact PySem.P.truthy_int ⟨H,I,q⟩
 |str y=>obtain⟨t,rfl⟩:=rx;obtain⟨z,e'⟩:y.length<=D2/\k=((y.length:Int) != 0):=e;subst e';exact PySem.P.truthy_str ∅ ⟨H,I.tok _,q⟩
 |byt y=>obtain⟨t,rfl⟩:=rx;obtain⟨z,e'⟩:y.size<=D2/\k=((y.size:Int) != 0):=e;subst e';exact PySem.W.truthy_bytes ∅ ⟨H,I.tok _,q⟩
 |ref p=>
  cases rx
  have e':(∃xs,SqL X.K H p xs/\k = !xs.isEmpty)∨(∃xs,SqT X.K H p xs/\k = !xs.isEmpty)∨∃kvs,H p=S (.dK kvs)/\k = !kvs.isEmpty:=e
  rcases e' with⟨xs,hx,e'⟩|⟨xs,hx,e'⟩|⟨kvs,hx,e'⟩
  ·subst e';obtain⟨its,r,pl,j⟩:=I.list hx;have hlen:=r.length;exact wpAny_truthy_list pl.isList (by simp only[JN];lia) ⟨H,I.tok _,by rw[jd r];exact q⟩
  ·subst e';obtain⟨its,r,pl,j⟩:=I.tuple hx;have hlen:=r.length;exact truthy_tuple pl (by simp only[JN];lia) ⟨H,I.tok _,by rw[jd r];exact q⟩
  ·subst e';obtain⟨j,F,vs,r,m⟩:kvs.length<=D2/\(p==KG)=Up/\∃vs,KV kvs vs/\s.heap.DictOf (aH X.prog X.w) p vs:=I.hok p _ hx;have hlen:kvs.length=vs.length:=Mb r;exact wpAny_truthy_dict F m ∅ ⟨H,I.tok _,by rw[sF r];exact q⟩
 |_=>exact(show False from e).elim
theorem wX(j:PE X a ta)(he:∀whole,isTrue a X.env whole=(do let v <-whole;O6 a.pos;holding [v] (truthy v))):
 PT X a (λσ H Q=>ta σ H λx H'=>∃k,wW X.K x H' k/\Q k H'):=by
 intro pins s σ H Q I h;exact isTrue_plain (thn (j pins s σ H _ I h) λv s1 z=>(by obtain⟨x,H1,F,J,L⟩:=z;exact BR pins s1 σ H1 x v Q F J L)) (he _)
theorem sH:OpR X (Lj .Add) (λx y H Q=>∃i j,x=.str i/\y=.str j/\i.length+j.length<=D2/\Q (.str (i++j)) H):=by intro pins s σ H x y v u Q I rx ry h;obtain⟨i,j,rfl,rfl,z,q⟩:=h;obtain⟨t,rfl⟩:=rx;obtain⟨t',rfl⟩:=ry;exact add_str (λt' tk=>⟨.str (i++j),H,I.tok _,⟨_,rfl⟩,q⟩) z
theorem dC{x:V}(r:Vals [x] us):∃u,us=[u]/\RelV x u:=by
 cases r with
 |cons j z=>cases z;exact⟨_,rfl,j⟩
theorem mP{x y:V}(r:Vals [x,y] us):∃u w',us=[u,w']/\RelV x u/\RelV y w':=by
 cases r with
 |cons j z=>
  cases z with
  |cons F J=>cases J;exact⟨_,_,rfl,j,F⟩
theorem wY:CallR X (.builtin "abs") (λxs H Q=>∃i,xs=[.int i]/\Q (.int (if i<0 then -i else i)) H):=by intro pins s σ H xs us Q I r h;obtain⟨i,rfl,q⟩:=h;obtain⟨u,rfl,t,rfl⟩:=dC r;exact call_abs_int λu tk=>⟨.int (if i<0 then -i else i),H,I.tok _,⟨_,rfl⟩,q⟩
theorem uq(F:X.calm=Uo):CallR X (.builtin "max") (λxs H Q=>∃i j,xs=[.int i,.int j]/\Q (.int (if j > i then j else i)) H):=by
 intro pins s σ H xs us Q I r h;obtain⟨i,j,rfl,q⟩:=h;obtain⟨u,w',rfl,⟨t,rfl⟩,⟨t',rfl⟩⟩:=mP r;refine max_two_ints (I.ok.hd F) λh' tk k=>⟨_,H,I.kept k,?_,q⟩
 by_cases z:j > i
 ·rw[if_pos z,if_pos z];exact⟨_,rfl⟩
 ·rw[if_neg z,if_neg z];exact⟨_,rfl⟩
theorem ur(F:X.calm=Uo):CallR X (.builtin "min") (λxs H Q=>∃i j,xs=[.int i,.int j]/\Q (.int (if j<i then j else i)) H):=by
 intro pins s σ H xs us Q I r h;obtain⟨i,j,rfl,q⟩:=h;obtain⟨u,w',rfl,⟨t,rfl⟩,⟨t',rfl⟩⟩:=mP r;refine min_two_ints (I.ok.hd F) λh' tk k=>⟨_,H,I.kept k,?_,q⟩
 by_cases z:j<i
 ·rw[if_pos z,if_pos z];exact⟨_,rfl⟩
 ·rw[if_neg z,if_neg z];exact⟨_,rfl⟩
theorem ut:CallR X (.type "int") (λxs H Q=>(∃i,xs=[.int i]/\Q (.int i) H)∨∃k,xs=[.bl k]/\Q (.int (if k then 1 else 0)) H):=by
 intro pins s σ H xs us Q I r h
 rcases h with⟨i,rfl,q⟩|⟨k,rfl,q⟩
 ·obtain⟨u,rfl,t,rfl⟩:=dC r;exact call_int_int ⟨.int i,H,I,⟨_,rfl⟩,q⟩
 ·obtain⟨u,rfl,j⟩:=dC r
  cases j
  exact call_int_bool ⟨.int (if k then 1 else 0),H,I.tok _,⟨_,rfl⟩,q⟩
def EK(K:Frag)(x:V)(H:Hp)(n:Nat):Prop:=
 match x with
 |.str y=>y.length<=D2/\n=y.length
 |.byt y=>y.size<=D2/\n=y.size
 |.ref p=>(∃xs,SqL K H p xs/\n=xs.length)∨∃xs,SqT K H p xs/\n=xs.length
 |_=>False
theorem wZ:CallR X (.builtin "len") (λxs H Q=>∃x n,xs=[x]/\EK X.K x H n/\Q (.int n) H):=by
 intro pins s σ H xs us Q I r h;obtain⟨x,n,rfl,e,q⟩:=h;obtain⟨u,rfl,rx⟩:=dC r;have F:=dY;have hs:D2=16777216:=D0
 cases x with
 |str y=>obtain⟨t,rfl⟩:=rx;obtain⟨j,e'⟩:y.length<=D2/\n=y.length:=e;subst e';exact len_str ∅ ⟨.int _,H,I.tok _,⟨_,rfl⟩,q⟩
 |byt y=>obtain⟨t,rfl⟩:=rx;obtain⟨j,e'⟩:y.size<=D2/\n=y.size:=e;subst e';exact PySem.W.len_bytes ∅ ⟨.int _,H,I.tok _,⟨_,rfl⟩,q⟩
 |ref p=>
  cases rx
  have e':(∃xs,SqL X.K H p xs/\n=xs.length)∨∃xs,SqT X.K H p xs/\n=xs.length:=e
  rcases e' with⟨xs,hx,e'⟩|⟨xs,hx,e'⟩
  ·subst e';obtain⟨its,r',pl,z⟩:=I.list hx;have hlen:=r'.length;exact Calls.call_len_list pl.isList (by simp only[JN];lia) ⟨.int xs.length,H,I.tok _,⟨_,by simp only[JN];rw[hlen]⟩,q⟩
  ·subst e';obtain⟨its,r',pl,z⟩:=I.tuple hx;have hlen:=r'.length;exact len_tuple pl (by simp only[JN];lia) ⟨.int xs.length,H,I.tok _,⟨_,by simp only[JN];rw[hlen]⟩,q⟩
 |_=>exact(show False from e).elim
end
end
variable{C:Uq}
section
structure ObjM(h:Heap)(x dx C:Uq)(mA:Str->Option h6):Prop where
 obj:h.get? x=S (Qx C dx)
 ns:h.Ns1 dx mA
 ne:dx≠x
theorem kQ{dx:Uq}{mA:Str->Option h6}(n:h.Ns1 dx mA):∃od,h.get? dx=S od/\∀name,QM name od=S (mA name):=by
 obtain⟨o,es,ep,ho,hd,hk,_,hm⟩:=n;refine⟨o,ho,λname=>?_⟩;have e:=hm name;unfold nsFind findBy at e;rw[<-Rt]at e;unfold QM;rw[hd];dsimp only
 split
 ·rename_i y q;rw[q]at e;exact congrArg S e
 ·rename_i q;rw[q]at e;have a:es.toList.any (·.refKey)=Up:=by
   rw[List.any_eq_false];intro y F;obtain⟨z,t,j⟩:=hk y (Array.mem_toList_iff.mp F);simp[DictEntry.refKey,j]
  have a':¬es.toList.any (·.refKey)=Uo:=by rw[a];exact q7
  rw[if_neg a'];exact congrArg S e
theorem ObjM.look{x dx:Uq}{mA:Str->Option h6}(I:ObjM h x dx C mA):∃od,Mf h x (Qx C dx) C (S od)/\∀name,QM name od=S (mA name):=
 let⟨od,ho,j⟩:=kQ I.ns
 ⟨od,⟨I.obj,rfl,rfl,ho⟩,j⟩
theorem U6{o:Option h6}(r:RelO (S v) o):∃u,o=S u/\RelV v u:=by
 cases o with
 |none=>exact(show False from r).elim
 |some u=>exact⟨u,rfl,r⟩
theorem uu(r:RelV v u):PySem.W.handedIn u=Uo:=by
 cases v with
 |non=>cases(show u=Kx from r);rfl
 |bl b=>cases(show u=Qj b from r);rfl
 |int i=>obtain⟨t,e⟩:=(show ∃t,u=N9 i t from r);cases e;rfl
 |str x=>obtain⟨t,e⟩:=(show ∃t,u=PY x t from r);cases e;rfl
 |byt b=>obtain⟨t,e⟩:=(show ∃t,u=Value.bytes b t from r);cases e;rfl
 |flt b=>obtain⟨t,e⟩:=(show ∃t,u=SR b t from r);cases e;rfl
 |ref a=>cases(show u=K3 a from r);rfl
 |ty n=>cases(show u=KU n from r);rfl
section
variable{P:JR}{w:K8}{H H':Hp}{h h':Heap}{a C dx:Uq}{fs fs':List (Str×V)}
theorem zS(hok:HOk P w H h)(e:H a=S (.ins C dx fs)):∃mA,ObjM h a dx C mA/\(∀f,RelO (fs.lookup f) (mA f))/\PySem.Within mA (fs.map (·.1))/\fs.length<=1000/\H dx=S (.own a):=by obtain⟨d,z,ne,ob,mA,n,r,q⟩:=(show ObjOk P w H h a (.ins C dx fs)from hok a _ e);exact⟨mA,⟨ob,n,ne⟩,r,q,z,d⟩
end
structure Cls(K:Frag)(C:Uq):Prop where
 pg:So K C TK=Uo
 hd:PySem.W.hasDictIn K C=Uo
 po:PySem.W.plainOver K C=Uo
 sa:KY K (.ref C) "__setattr__"=S (S (.builtin "object.__setattr__"))
theorem Cls.get(c:Cls K C)(f:Str):So K C f=Uo:=c.pg
section
variable{X:Cx}{pins:List (Uq×Obj)}{σ:St}{H:Hp}{s:i4}{a C dx:Uq}{fs:List (Str×V)}{f:Str}{v:V}{A:K2}{E:h6->i4->Prop}
theorem zT{prog:JR}{env:Env}{f:Str}{Q:h6->i4->Prop}(j:Nb e f env (eval e env)=eval e env)(h:JK (model prog w) A (eval e env) (λo s₁=>JK (model prog w) A (getAttr o f Uo) Q E s₁) E s):JK (model prog w) A (eval (.Attribute e f pos) env) Q E s:=Attribute_any_ h (by rw[arm_eval_Attribute,j])
end
section
variable{X:Cx}{pins:List (Uq×Obj)}{σ:St}{H:Hp}{s:i4}{A:K2}{E:h6->i4->Prop}{Q:h6->i4->Prop}{c:h6}{b:Bool}
inductive cB(K:Frag)(H:Hp):V->h6->Prop where
 |non:cB K H .non (.type "NoneType")
 |bl (x:Bool):cB K H (.bl x) (.type "bool")
 |int (i:Int):cB K H (.int i) (.type "int")
 |str (x:Str):cB K H (.str x) (.type "str")
 |flt (x:UInt64):cB K H (.flt x) (.type "float")
 |lst {a:Uq} {xs:List V} (e:H a=S (.lst xs)):cB K H (.ref a) (.type "list")
 |frz {a:Uq} {o:Obj} {xs:List V} (e:H a=S (.frz o (.lst xs))):cB K H (.ref a) (.type "list")
 |tup {a:Uq} {xs:List V} (e:SqT K H a xs):cB K H (.ref a) (.type "tuple")
 |dK {a:Uq} {kvs:List (Key×V)} (e:H a=S (.dK kvs)):cB K H (.ref a) (.type "dict")
 |dT {a:Uq} {kvs:List (List Key×V)} (e:H a=S (.dT kvs)):cB K H (.ref a) (.type "dict")
 | ins {a C dx:Uq} {fs:List (Str×V)} (e:H a=S (.ins C dx fs)) (cl:Cls K C) (ha:KY K (.ref C) "__class__"=S (S (.builtin "object.__class__")))
    (hn:Pw K (.builtin "object.__class__") "__get__"=S (S (.builtin "getset_descriptor.__get__"))) (htk:T8 K (.builtin "object.__class__")=S Uo)
    (hm:OC K C (.type "object")=S Uo):cB K H (.ref a) (.ref C)
theorem uv{x:V}{t:h6}(I:Inv X pins σ H s)(rx:RelV x u)(ty:cB X.K H x t)(e:Nq X.K t c=S b)(h:∀tk,Q (.bool b) {s with toks:=tk}):
 JK (model X.prog X.w) A (call (.builtin "isinstance") [u,c]) Q E s:=by
 cases ty with
 |non=>cases(show u=Kx from rx);exact KZ PySem.W.kitx_none I.kIn LX e (λz=>nomatch z) h
 |bl y=>cases(show u=Qj y from rx);exact KZ PySem.W.kitx_bool I.kIn LX e (λz=>nomatch z) h
 |int i=>obtain⟨t,q⟩:=(show ∃t,u=N9 i t from rx);cases q;exact KZ PySem.W.kitx_int I.kIn LX e (λz=>nomatch z) h
 |str y=>obtain⟨t,q⟩:=(show ∃t,u=PY y t from rx);cases q;exact KZ PySem.W.kitx_str I.kIn LX e (λz=>nomatch z) h
 |flt y=>obtain⟨t,q⟩:=(show ∃t,u=SR y t from rx);cases q;exact KZ PySem.W.kitx_float I.kIn LX e (λz=>nomatch z) h
 |@lst a xs ea=>
  cases(show u=K3 a from rx)
  obtain⟨_,_,n,_,h1⟩:=(show ObjOk X.prog X.w H s.heap a (.lst xs)from I.hok a _ ea);exact KZ RP I.kIn ⟨_,h1,rfl⟩ e (λz=>nomatch z) h
 |@frz a ob xs ea=>
  cases(show u=K3 a from rx)
  obtain⟨_,_,_,n,_,h1⟩:=(show ObjOk X.prog X.w H s.heap a (.frz ob (.lst xs))from I.hok a _ ea);exact KZ RP I.kIn ⟨_,h1,rfl⟩ e (λz=>nomatch z) h
 |@tup a xs ea=>
  cases(show u=K3 a from rx)
  obtain⟨_,_,p,_⟩:=I.tuple ea;obtain⟨o,h1,h2,_⟩:=p;exact KZ PySem.W.kitx_tuple I.kIn ⟨o,h1,h2⟩ e (λz=>nomatch z) h
 |@dK a kvs ea=>
  cases(show u=K3 a from rx)
  obtain⟨_,_,vs,_,p⟩:=(show ObjOk X.prog X.w H s.heap a (.dK kvs)from I.hok a _ ea);obtain⟨o,es,ep,h1,h2,_⟩:=p;exact KZ RQ I.kIn ⟨o,h1,h2.1⟩ e (λz=>nomatch z) h
 |@dT a kvs ea=>
  cases(show u=K3 a from rx)
  obtain⟨_,_,xs,_,o,es,ep,h1,h2,_⟩:=(show ObjOk X.prog X.w H s.heap a (.dT kvs)from I.hok a _ ea);exact KZ RQ I.kIn ⟨o,h1,h2.1⟩ e (λz=>nomatch z) h
 |@ins a C dx fs ea cl ha hn htk hm=>
  cases(show u=K3 a from rx)
  obtain⟨mA,O,_⟩:=zS I.hok ea;obtain⟨od,J,_⟩:=O.look;exact KZ (PySem.W.kitx_own (cl.get _) cl.hd ha hn htk hm) I.kIn J e (λz=>nomatch z) h
end
end
variable{mg:Str->Option h6}{base:Heap}{ps:List Str}
section
structure Room(k:Nat)(A:K2):Prop where
 hd:A.handled=Z
 dp:A.depth+3*k+5<recursionLimit
 un:A.units+16*k+200<Mj
theorem Room.mono{k:Nat}(r:Room k A)(h:j<=k):Room j A:=⟨r.hd,by have:=r.dp;lia,by have:=r.un;lia⟩
theorem Room.deeper{k:Nat}(r:Room (k+1) A)(env:Env):Room k (A.deeper env):=⟨r.hd,by have:=r.dp;show A.depth+1+3*k+5<_;lia,by have:=r.un;show A.units+3+16*k+200<_;lia⟩
theorem sJ{kw:List (Str×h6)}:(A.under (.builtin "type.__call__" ⟨.ref C::us,kw⟩)).depth=A.depth+1:=by first|rfl|simp[RT,Code.weight,Code.isCreation,Code.isGuard,Code.isCaller,Code.frames,RU,guardIds]
theorem sK{kw:List (Str×h6)}:(A.under (.builtin "type.__call__" ⟨.ref C::us,kw⟩)).units=A.units+1:=by first|rfl|simp[RT,Code.cUnits,Code.frames,RU]
theorem Room.make{k:Nat}(r:Room (k+1) A)(C:Uq)(us:List h6)(kw:List (Str×h6)):Room k (A.under (.builtin "type.__call__" ⟨.ref C::us,kw⟩)):=⟨r.hd,by have:=r.dp;rw[sJ];lia,by have:=r.un;rw[sK];lia⟩
theorem Room.depth{k:Nat}(r:Room k A):A.depth<recursionLimit:=by have:=r.dp;lia
theorem Room.units{k:Nat}(r:Room k A):A.units+64<Mj:=by have:=r.un;lia
noncomputable def BS:TA:=λ_ H Q=>Q [] H
noncomputable def zf(ta:TE)(tr:TA):TA:=λσ H Q=>ta σ H λx H1=>tr σ H1 λxs H2=>Q (x::xs) H2
section
variable{X:Cx}{e:Expr}{es:List Expr}{te:TE}{t:TA}{pos:Pos}
theorem dh:PA X [] BS:=λ_ _ _ _ H Q I h=>Px ⟨[],H,I,.nil,h⟩
theorem bn(z:PE X e te)(hr:PA X es t)(hs:JU (e::es) X.env=(Up,eval e X.env)::JU es X.env:=by rfl):PA X (e::es) (zf te t):=by intro pos pins s σ H Q I h;rw[hs];show JK _ _ (spliced ((Up,eval e X.env)::LA pos (JU es X.env))) _ _ s;refine NW (thn (z pins s σ H _ I h) λu s1 j=>?_);obtain⟨x,H1,F,J,L⟩:=j;exact thn (hr pos pins s1 σ H1 _ F L) λus s2 j=>(by obtain⟨xs,H2,O,U,Y⟩:=j;exact⟨x::xs,H2,O,.cons J U,Y⟩)
noncomputable def EL(t:TA):TE:=λσ H Q=>t σ H λxs H1=>xs.length<=D2/\∀p,H1 p=Z->Q (.ref p) (upd H1 p (.tup xs))
noncomputable def EM(t:TA):TE:=λσ H Q=>t σ H λxs H1=>xs.length<=D2/\∀p,H1 p=Z->Q (.ref p) (upd H1 p (.lst xs))
theorem uw{x1}(h:PA X es t):PE X (.Tuple es x1 pos) (EL t):=by
 intro pins s σ H Q I hq;refine wpAny_Tuple_spliced (thn (h pos pins s σ H _ I hq) λus s1 ⟨xs,H1,j,r,z,q⟩=>⟨by rw[<-r.length];exact z,?_⟩)
 have hf:H1 s1.heap.objs.size=Z:=j.hok.fresh (JL _);refine⟨.ref s1.heap.objs.size,upd H1 s1.heap.objs.size (.tup xs),j.laid (t':=s1.toks) (λb u e=>n6 _ e) (JL _) ?_,rfl,q _ hf⟩;exact⟨z,us,r,⟨_,JW _ rfl,rfl,_,rfl⟩⟩
theorem BU(h:PA X es t):PE X (.List es pos) (EM t):=by
 intro pins s σ H Q I hq;refine wpAny_List_spliced (thn (h pos pins s σ H _ I hq) λus s1 ⟨xs,H1,j,r,z,q⟩=>⟨by rw[<-r.length];exact z,?_⟩)
 have hf:H1 s1.heap.objs.size=Z:=j.hok.fresh (JL _);refine⟨.ref s1.heap.objs.size,upd H1 s1.heap.objs.size (.lst xs),j.laid (t':=s1.toks) (λb u e=>n6 _ e) (JL _) ?_,rfl,q _ hf⟩;exact⟨z,us,0,r,JW _ rfl⟩
end
noncomputable abbrev Sp:=List V->Hp->VK->XK->Prop
noncomputable abbrev CXT:=List Env->Hp->i4->XK->h6->i4->Prop
structure Env0(P:JR)(w:K8)(K:Frag)(mg:Str->Option h6)(base:Heap)(A:K2)(outer:List Env)(s:i4)(H:Hp):Prop where
 frames:A.frames=S outer
 mod:Mod K mg base
 bs:∀b o,base.get? b=S o->s.heap.get? b=S o/\H b=Z
 bsz:base.objs.size<=s.heap.objs.size
 funs:s.heap.FunFrames base outer
 frf:∀b∈frs outer,H b=Z
 hok:HOk P w H s.heap
 bare:OZ s.gens
def CE(outer:List Env)(P:JR)(w:K8)(H:Hp)(s:i4)(Q:VK)(u:h6)(s':i4):Prop:=∃v H',s'.os=s.os/\OZ s'.gens/\Un (frs outer) [] H H' s.heap s'.heap/\HOk P w H' s'.heap/\RelV v u/\Q v H'
def CR(CX:CXT)(outer:List Env)(P:JR)(w:K8)(H:Hp)(s:i4)(Q:VK)(E:XK)(r:Result)(s':i4):Prop:=
 match r with
 |.ok (.ret u)=>CE outer P w H s Q u s'
 |.ok _=>False
 |.error e=>CX outer H s E e s'
structure bF(P:JR)(w:K8)(K:Frag)(mg:Str->Option h6)(base:Heap)(CX:CXT)(k:Nat)(f:Uq)(fd:LB)(ps:List Str)(sp:Sp):Prop where
 len:∀vs H Q E,sp vs H Q E->vs.length=ps.length
 run:∀(A:K2) (outer:List Env) (s:i4) (H:Hp) (args:Args) (us:List h6) (vs:List V) (Q:VK) (E:XK),Room k A->Env0 P w K mg base A outer s H->R5 s fd args (ps.zip us)->Vals vs us->sp vs H Q E->
  O7 (model P w) A (.call (.ref f) args) (CR CX outer P w H s Q E) s
theorem Env0.make{outer:List Env}(e:Env0 P w K mg base A outer s H)(C:Uq)(us:List h6)(kw:List (Str×h6)):Env0 P w K mg base (A.under (.builtin "type.__call__" ⟨.ref C::us,kw⟩)) outer s H:=⟨by first|exact e.frames|(simpa[RT,Code.envs,RU,pushEnvs]using e.frames),e.mod,e.bs,e.bsz,e.funs,e.frf,e.hok,e.bare⟩
section
variable{X:Cx}{pins:List (Uq×Obj)}{σ:St}{H:Hp}{s s':i4}
theorem Inv.env0(I:Inv X pins σ H s):Env0 X.prog X.w X.K X.mg X.base X.A X.stack s H:=⟨I.ok.frames,I.ok.mod,I.bs,Ka I.ok.bsz I.sz,I.stack,I.stkFree,I.hok,I.bare⟩
theorem Inv.after(I:Inv X pins σ H s)(h:CE X.stack X.prog X.w H s Q u s'):EP X pins σ Q u s':=by obtain⟨v,H',os,bare,un,hok,r,q⟩:=h;obtain⟨j,g,d,t,os'⟩:=s';obtain rfl:os'=s.os:=os;exact⟨v,H',I.call (h':=j) (g':=g) (d':=d) (t':=t) (ch:=[]) un hok bare (λb z=>absurd z (by simp)),r,q⟩
end
noncomputable def zg(sp:Sp)(dvs:List V)(E:XK)(t:TA):TE:=λσ H Q=>t σ H λvs H1=>sp (vs++dvs) H1 Q E
def Binds(K:Frag)(fd:LB)(ps:List Str)(ds:List h6):Prop:=∀(s:i4) (us:List h6),K.In s.heap->(us++ds).length=ps.length->R5 s fd ⟨us,[]⟩ (ps.zip (us++ds))
theorem Binds.all{fd:LB}(h:∀us:List h6,us.length=ps.length->bindArgs fd ⟨us,[]⟩=pure (ps.zip us)):Binds K fd ps []:=λs us _ j=>by rw[Kw]at j⊢;exact .of_eq (h us j)
def je(CX:CXT)(X:Cx)(E:XK):Prop:=∀(pins:List (Uq×Obj)) (σ:St) (H:Hp) (s:i4) (e:h6) (s':i4),Inv X pins σ H s->CX X.stack H s E e s'->X.xe e s'
section
variable{X:Cx}{CX:CXT}{k:Nat}{f C:Uq}{fd:LB}{ps:List Str}{sp:Sp}{dvs:List V}{ds:List h6}{E:XK}{x m:Str}{p pos apos:Pos}{e o:Expr}{es:List Expr}{ta:TE}{t:TA}
theorem uy{vs:List V}(F:bF X.prog X.w X.K X.mg X.base CX k f fd ps sp)(hr:Room k X.A)(J:Binds X.K fd ps ds)(hd:Vals dvs ds)(hx:je CX X E)(I:Inv X pins σ H s)(r:Vals vs us)(h:sp (vs++dvs) H Q E):JK (model X.prog X.w) X.A (call (.ref f) us) (EP X pins σ Q) X.xe s:=by
 have z:Vals (vs++dvs) (us++ds):=r.append hd;have L:(us++ds).length=ps.length:=by rw[<-z.length];exact F.len _ _ _ _ h
 refine Om (MU (F.run X.A X.stack s H ⟨us,[]⟩ (us++ds) (vs++dvs) Q E hr I.env0 (J s us I.kIn L) z h) λr s' j=>?_)
 cases r with
 |error e=>exact hx pins σ H s e s' I j
 |ok fl=>
  cases fl with
  |ret u=>exact I.after j
  |next=>exact False.elim j
  |brk=>exact False.elim j
  |cont=>exact False.elim j
theorem zU(F:bF X.prog X.w X.K X.mg X.base CX k f fd ps sp)(hr:Room k X.A)(L:Gl X x)(hm:X.mg x=S (.ref f))(hk:Lw X.K (.ref f)=Uo)(O:Binds X.K fd ps ds)(hd:Vals dvs ds)(hx:je CX X E)(U:PA X (e::es) t)(j:(x==("__debug__":Str))=Up:=by decide)(he:JU (e::es) X.env=(Up,eval e X.env)::JU es X.env:=by rfl)(z:(LA pos (JU es X.env)).any (·.1)=Up:=by rfl):
 PE X (.Call (.Name x p) (e::es) [] pos) (zg sp dvs E t):=by
 intro pins s σ H Q I h;refine MV (cO I L hm ?_ j);refine Ru (h₀:=X.base) I.ok.mod.kin hk (thn (U pos pins s σ H _ I h) λus s1 ⟨vs,H1,J,r,q⟩=>⟨J.kIn,?_⟩) he z;exact uy F hr O hd hx J r q
theorem xb(F:bF X.prog X.w X.K X.mg X.base CX k f fd ps sp)(hr:Room k X.A)(z:Gl X x)(hm:X.mg x=S (.ref f))(hk:Lw X.K (.ref f)=Uo)(J:Binds X.K fd ps ds)(hd:Vals dvs ds)(hx:je CX X E)(j:(x==("__debug__":Str))=Up:=by decide):PE X (.Call (.Name x p) [] [] pos) (zg sp dvs E BS):=by intro pins s σ H Q I h;refine MV (cO I z hm ?_ j);exact PySem.W.callWith_K0 I.kIn hk (uy (us:=[]) F hr J hd hx I .nil h)
end
structure cQ(N P:List Str)(sc:Scope):Prop where
 kind:sc.kind=.function
 co:sc.isCoroutine=Up
 gen:sc.isGenerator=Up
 nd:N.Nodup
 pre:N.take P.length=P
 par:∀x∈P,sc.names.lookup x=S .local∨sc.names.lookup x=S .cell
 nofree:∀y∈sc.names,y.2≠.free
theorem kR{Lk:Str->Option MJ}{x:Str}:∀{binds:List (Str×h6)} {m:Str->Option h6},(∀v,(x,v)∉binds)->Ts Lk binds m x=m x
 |[],_,_=>rfl
 |(n,v)::r,m,h=>by
  unfold Ts;rw[kR λw hw=>h w (K5 _ hw)]
  split
  ·have:x≠n:=by rintro rfl;exact h v Ks
   simp[this]
  ·rfl
theorem kS{Lk:Str->Option MJ}{x:Str}:∀{binds:List (Str×h6)} {m:Str->Option h6},(∀v,(x,v)∉binds)->Tt Lk binds m x=m x
 |[],_,_=>rfl
 |(n,v)::r,m,h=>by
  unfold Tt;rw[kS λw hw=>h w (K5 _ hw)]
  split
  ·rfl
  ·have:x≠n:=by rintro rfl;exact h v Ks
   simp[this]
theorem kU{Lk:Str->Option MJ}{x:Str}{v:h6}:∀{P:List Str} {vs:List h6} {i:Nat} {m:Str->Option h6},P.Nodup->P[i]?=S x->vs[i]?=S v->Lk x=S .local->
 Ts Lk (P.zip vs) m x=S v
 |[],_,_,_,_,h,_,_=>by simp at h
 |_::_,[],_,_,_,_,h,_=>by simp at h
 |p::P,w::vs,0,m,nd,h1,h2,hk=>by simp at h1 h2;subst h1;subst h2;show Ts Lk ((p,w)::P.zip vs) m p=_;unfold Ts;rw[kR λv j=>(NS.mp nd).1 (Qy j).1,if_pos hk];simp
 |p::P,w::vs,i+1,m,nd,h1,h2,hk=>by show Ts Lk ((p,w)::P.zip vs) m x=_;unfold Ts;exact kU (i:=i) (NS.mp nd).2 (by simpa using h1) (by simpa using h2) hk
theorem kW{Lk:Str->Option MJ}{x:Str}{v:h6}:∀{P:List Str} {vs:List h6} {i:Nat} {m:Str->Option h6},P.Nodup->P[i]?=S x->vs[i]?=S v->Lk x≠S .local->
 Tt Lk (P.zip vs) m x=S v
 |[],_,_,_,_,h,_,_=>by simp at h
 |_::_,[],_,_,_,_,h,_=>by simp at h
 |p::P,w::vs,0,m,nd,h1,h2,hk=>by simp at h1 h2;subst h1;subst h2;show Tt Lk ((p,w)::P.zip vs) m p=_;unfold Tt;rw[kS λv j=>(NS.mp nd).1 (Qy j).1,if_neg hk];simp
 |p::P,w::vs,i+1,m,nd,h1,h2,hk=>by show Tt Lk ((p,w)::P.zip vs) m x=_;unfold Tt;exact kW (i:=i) (NS.mp nd).2 (by simpa using h1) (by simpa using h2) hk
noncomputable def start(N:List Str)(vs:List V):St:=vs.map S++JZ (N.length-vs.length) Z
noncomputable def cu(CX:CXT)(P:JR)(w:K8)(K:Frag)(mg:Str->Option h6)(base:Heap)(N:List Str)(qual:Str)(scope:Scope)(f:Uq)(cd:h6)(A:K2)(outer:List Env)(s:i4)(H:Hp)(E:XK):Cx where
 prog:=P
 w:=w
 K:=K
 mg:=mg
 base:=base
 A:=A.deeper (NX qual scope s.heap.objs.size f cd)
 N:=N
 s₀:=s
 H₀:=H
 env:=NX qual scope s.heap.objs.size f cd
 outer:=outer
 stack:=NX qual scope s.heap.objs.size f cd::outer
 ex:=[]
 calm:=Uo
 fn:=λ_=>Uo
 pn:=[]
 xe:=λe s'=>JK (model P w) (A.deeper (NX qual scope s.heap.objs.size f cd)) (leaving (NX qual scope s.heap.objs.size f cd) e) (λ_ s''=>CX outer H s E e s'') (λe' s''=>CX outer H s E e' s'') s'
theorem nR{sc:Scope}{n:Nat}(h:sc.names.lookup x=S .cell):∃c,(LU n sc.names []).lookup x=S c:=by have q:=O8 sc.names n [] (.inl h);exact Ll.mp q
theorem uz{CX:CXT}{qual:Str}{scope:Scope}{f:Uq}{cd:h6}{outer:List Env}{s1:i4}{E:XK}{vs:List V}(F3:cQ N ps scope)(hd:A.handled=Z)(j:Env0 P w K mg base A outer s H)(Y:vs.length=ps.length)(r:Vals vs us)(x:InCallC s s.heap.objs.size (Ts (NX qual scope s.heap.objs.size f cd).kindOf (ps.zip us) λ_=>Z) (LU (s.heap.objs.size+1) scope.names []) (Tt (NX qual scope s.heap.objs.size f cd).kindOf (ps.zip us) λ_=>Z) s1):
 Inv (cu CX P w K mg base N qual scope f cd A outer s H E) [] (start N vs) H s1:=by
 have O:ps.length<=N.length:=by have:=congrArg MQ F3.pre;rw[Kf]at this;lia
 obtain⟨h1,tk,rfl,hk⟩:=x.done;have noA:∀b:Uq,b∉(cu CX P w K mg base N qual scope f cd A outer s H E).ex:=λb z=>absurd (show b∈([]:List Uq)from z) (by simp)
 refine⟨⟨j.mod,F3.kind,rfl,rfl,JL _,λy z c h1 h2=>?_,λy F=>?_,λy c _ h=>?_,λ_=>hd,Around.frames_deeper j.frames,.inr ⟨rfl,rfl⟩,λb z=>absurd z (noA b),j.bs,j.bsz,λb _ _=>noA b,λb z=>absurd z (noA b),j.funs,j.frf⟩,
  rfl,j.bare,Un.kept hk,⟨_,x.toInCall.ns,λi y v h1 h2 Um=>?_⟩,λy c h=>⟨_,x.cell y c h⟩,j.hok.fresh (JL _),λy c h=>?_,λp J=>absurd (show p∈([]:List (Uq×Obj))from J) (by simp),j.hok.kept hk,?_⟩
 ·exact name_of_addr x.apart (Lf h1) (Lf h2)
 ·have F:scope.names.lookup y=S .cell∨scope.names.lookup y=S .free:=F
  rcases F with F|F
  ·exact nR F
  ·exact absurd rfl (F3.nofree _ (Lf F))
 ·exact Nz (x.above y c (Lf h))
 ·have hi:i<vs.length:=by
   unfold start at h2
   by_cases hi:i<vs.length
   ·exact hi
   ·rw[D1 (by simpa using hi)]at h2
    rw[Q2]at h2
    split at h2<;>cases h2
  have U:vs[i]?=S v:=by
   unfold start at h2;rw[JP (by simpa using hi),KA]at h2
   cases e:vs[i]? with
   |none=>rw[e]at h2;cases h2
   |some a=>rw[e]at h2;cases h2;rfl
  obtain⟨u,L,rv⟩:=r.get U;have J:ps[i]?=S y:=by rw[<-F3.pre,NM ∅];exact h1
  have ndP:ps.Nodup:=by rw[<-F3.pre];exact F3.nd.sublist (List.take_sublist _ _)
  refine⟨u,rv,?_⟩
  rcases F3.par y (Kg J)with k|k
  ·exact .inl ⟨k,kU ndP J L k⟩
  ·obtain⟨c,e⟩:=nR (n:=s.heap.objs.size+1) k;refine .inr ⟨.inl k,c,e,?_⟩;have q:=x.cell y c e;rw[kW ndP J L (by show scope.names.lookup y≠_;rw[k];decide)]at q
   exact q
 ·exact j.hok.fresh (Nz (x.above y c (Lf h)))
 ·unfold start;show _=N.length;rw[JG,B2,QC];lia
theorem zh {CX:CXT}{k:Nat}{f:Uq}{name qual:Str}{params:Arguments}{scope:Scope}{dV kV doc pm cdv ct oc:h6}{an od:Option Uq}{osl:Array (Option h6)}{sp:Sp}(lk:K.lookup f=S ⟨oc,od,.func (Ms name qual params body scope dV kV doc pm an cdv ct),osl⟩)(O:P8 K cdv qual=Uo)(F3:cQ N ps scope)(len:∀vs H Q E,sp vs H Q E->vs.length=ps.length)(j:∀(A:K2) (outer:List Env) (s:i4) (H:Hp) (vs:List V) (Q:VK) (E:XK),Room k (A.deeper (NX qual scope s.heap.objs.size f cdv))->sp vs H Q E->
   ∃t,PSs (cu CX P w K mg base N qual scope f cdv A outer s H E) body t/\t {nx:=λ_ H'=>Q .non H',rt:=Q} (start N vs) H):
 bF P w K mg base CX (k+1) f (Ms name qual params body scope dV kV doc pm an cdv ct) ps sp:=by
 refine⟨len,λA outer s H args us vs Q E hr F U r L=>?_⟩;have Y:=len _ _ _ _ L;have KX:K.In s.heap:=F.mod.kin.keeps λb o e=>(F.bs b o e).1;have lim:s.heap.NoLimit:=F.mod.nolimit.keeps λb o e=>(F.bs b o e).1;have z:∀y∈ps.zip us,scope.names.lookup y.1=S .local∨(scope.names.lookup y.1=S .cell/\((LU (s.heap.objs.size+1) scope.names []).lookup y.1).isSome=Uo):=λ⟨n,v⟩ hy=>by
  rcases F3.par n (Qy hy).1 with q|q
  ·exact .inl q
  ·exact .inr ⟨q,O8 _ _ _ (.inl q)⟩
 refine codeAny_call_function hr.depth (KX _ _ lk) rfl F3.co F3.gen rfl (PySem.W.codeRec_of KX O) (U _ _ _ _ ?_);refine wpAny_newFunctionEnv_cells F3.kind z λenv he s1 x=>?_;subst he;refine⟨lim.keeps x.toInCall.keep,codeAny_func ?_⟩;obtain⟨t,Um,hq⟩:=j A outer s H vs Q E (hr.deeper _) L;have I:Inv (cu CX P w K mg base N qual scope f cdv A outer s H E) [] (start N vs) H s1:=uz F3 hr.hd F Y r x;refine Kh (Um [] s1 (start N vs) H _ I hq) (λfl s' hs=>?_) λe s' hs=>hs;have fin:∀{σ':St} {H':Hp} {v:V} {u:h6},Inv (cu CX P w K mg base N qual scope f cdv A outer s H E) [] σ' H' s'->RelV v u->Q v H'->CE outer P w H s Q u s':=λ{σ' H' v u} J rv q=>⟨v,H',J.os,J.bare,J.base,J.hok,rv,q⟩
 cases fl with
 |ret u=>obtain⟨v,σ',H',J,rv,q⟩:=hs;exact fin J rv q
 |next=>obtain⟨σ',H',J,q⟩:=hs;exact fin (v:=V.non) (u:=Kx) J rfl q
 |brk=>obtain⟨_,_,_,q⟩:=hs;exact False.elim q
 |cont=>obtain⟨_,_,_,q⟩:=hs;exact False.elim q
end
section
section
variable{X:Cx}{x:Str}{p pos:Pos}{e:Expr}{es:List Expr}{t:TA}{id T:String}{r:List V->Hp->VK->Prop}
noncomputable def tCB(r:List V->Hp->VK->Prop)(t:TA):TE:=λσ H Q=>t σ H λvs H1=>r vs H1 Q
theorem bp(F:CallR X (.builtin id) r)(J:Gl X x)(hm:X.mg x=Z)(L:Mp x=S (.builtin id))(O:PA X (e::es) t)(hn:x≠"__name__":=by decide)(j:(x==("__debug__":Str))=Up:=by decide)(he:JU (e::es) X.env=(Up,eval e X.env)::JU es X.env:=by rfl)(z:(LA pos (JU es X.env)).any (·.1)=Up:=by rfl):PE X (.Call (.Name x p) (e::es) [] pos) (tCB r t):=by intro pins s σ H Q I h;refine MV (gr I J hm L ?_ hn j);exact Oo (thn (O pos pins s σ H _ I h) λus s1 U=>(by obtain⟨vs,H1,Y,Um,q1⟩:=U;exact F pins s1 σ H1 vs us Q Y Um q1)) he z
theorem kX(F:CallR X (.type T) r)(J:Gl X x)(hm:X.mg x=Z)(L:Mp x=S (.type T))(O:PA X (e::es) t)(hn:x≠"__name__":=by decide)(j:(x==("__debug__":Str))=Up:=by decide)(he:JU (e::es) X.env=(Up,eval e X.env)::JU es X.env:=by rfl)(z:(LA pos (JU es X.env)).any (·.1)=Up:=by rfl):PE X (.Call (.Name x p) (e::es) [] pos) (tCB r t):=by intro pins s σ H Q I h;refine MV (gr I J hm L ?_ hn j);exact Ni (thn (O pos pins s σ H _ I h) λus s1 U=>(by obtain⟨vs,H1,Y,Um,q1⟩:=U;exact F pins s1 σ H1 vs us Q Y Um q1)) he z
end
end
end L2
namespace HT
open PySem PyProof.Rows
section
variable{prog:JR}{w:K8}{A:K2}{E:h6->i4->Prop}{s:i4}
theorem cat_tup{t b:Uq}{vs ws:List h6}{Q:h6->i4->Prop}(ht:IsTup s.heap t vs.toArray)(hb:IsTup s.heap b ws.toArray)(O:vs≠[])(h1:ws=[]->Q (.ref t) s)(h2:ws≠[]->Q (.ref s.heap.objs.size) {s with heap:=s.heap.push {cls:=.type "tuple",data:=.seq (vs++ws).toArray}})(hsz:vs.length+ws.length<=D2):JK (model prog w) A (Lj .Add (.ref t) (.ref b)) Q E s:=by
 obtain⟨⟨cls,dd,data,sl⟩,ho,U,n,hd⟩:=id ht;obtain⟨⟨Y,z,data2,J⟩,j,L,Um,hd2⟩:=id hb;simp only at U hd L hd2;subst U hd L hd2;have e:vs.toArray++ws.toArray=(vs++ws).toArray:=by simp
 by_cases hw:ws=[]
 ·exact RV ⟨_,ho,rfl⟩ ⟨_,j,rfl⟩ Q3 Rf O9 O2 (NN _ _)
   (tuple_addW1 t b vs.toArray ws.toArray n Um dd z sl J (by simpa using O) (by simp[hw])) ⟨ho,j,h1 hw⟩
 ·refine RV ⟨_,ho,rfl⟩ ⟨_,j,rfl⟩ Q3 Rf O9 O2 (NN _ _)
   (tuple_addW2 t b vs.toArray ws.toArray n Um dd z sl J (by simpa using O) (by simpa using hw) (by rw[JN,JN];exact hsz)) ⟨ho,j,?_⟩
  rw[e];exact h2 hw
end
end HT
namespace L2
open PySem PySem.Spec PyProof.Rows
variable{xs:List V}{us:List h6}
section
noncomputable abbrev TO:=St->Hp->(Option Int->Hp->Prop)->Prop
def PO(X:Cx)(e:Option Expr)(t:TO):Prop:=
 ∀(pins:List (Uq×Obj)) (s:i4) (σ:St) (H:Hp) (Q:Option Int->Hp->Prop),Inv X pins σ H s->t σ H Q->
  JK (model X.prog X.w) X.A (evalPart e X.env) (λu s'=>∃o H',Inv X pins σ H' s'/\IsPart u o/\Q o H') X.xe s
noncomputable def zV:TO:=λ_ H Q=>Q Z H
noncomputable def Dy(t:TE):TO:=λσ H Q=>t σ H λx H1=>∃i,x=.int i/\Q (S i) H1
section
variable{X:Cx}{e:Expr}{te:TE}{lo hi:Option Expr}{tl th:TO}{pos p2:Pos}
theorem zW:PO X Z zV:=by intro pins s σ H Q I h;rw[evalPart_none];exact B1 ⟨Z,H,I,.none,h⟩
theorem zX(h:PE X e te):PO X (S e) (Dy te):=by intro pins s σ H Q I hw;rw[evalPart_some];refine thn (h pins s σ H _ I hw) λu s1 j=>?_;obtain⟨x,H1,z,F,J⟩:=j;obtain⟨i,rfl,q⟩:=J;obtain⟨t,rfl⟩:=F;exact⟨S i,H1,z,.int i t,q⟩
def SlR(X:Cx)(r:V->Option Int->Option Int->Hp->VK->Prop):Prop:=
 ∀(pins:List (Uq×Obj)) (s:i4) (σ:St) (H:Hp) (x:V) (v vl vu:h6) (lo hi:Option Int) (sl:Uq) (Q:VK),Inv X pins σ H s->RelV x v->s.heap.IsSliceOf sl vl vu .none->IsPart vl lo->IsPart vu hi->r x lo hi H Q->
  ∃T id,Tu (.type T) "__getitem__"=pure (S (.builtin id))/\s.TypeIs v T/\JK (model X.prog X.w) X.A (Tn v (.ref sl)) (EP X pins σ Q) X.xe s
theorem SlR.or{r r':V->Option Int->Option Int->Hp->VK->Prop}(h:SlR X r)(h':SlR X r'):SlR X (λx lo hi H Q=>r x lo hi H Q∨r' x lo hi H Q):=by
 intro pins s σ H x v vl vu lo hi sl Q I rx hs pl pu q
 rcases q with q|q
 ·exact h pins s σ H x v vl vu lo hi sl Q I rx hs pl pu q
 ·exact h' pins s σ H x v vl vu lo hi sl Q I rx hs pl pu q
noncomputable def zi(K:Frag):R2:=λx y H Q=>∃a b xs ys,x=.ref a/\y=.ref b/\SqT K H a xs/\SqT K H b ys/\xs≠[]/\xs.length+ys.length<=D2 /\
 (ys=[]->Q (.ref a) H)/\(ys≠[]->∀p,H p=Z->Q (.ref p) (upd H p (.tup (xs++ys))))
theorem Vals.nil_iff(r:Vals xs us):us=[]↔xs=[]:=by
 cases r with
 |nil=>simp
 |cons _ _=>simp
theorem op_catT:OpR X (Lj .Add) (zi X.K):=by
 intro pins s σ H x y v u Q I rx ry h;obtain⟨a,b,xs,ys,rfl,rfl,O,U,hx,J,Y,Um⟩:=h
 cases rx
 cases ry
 obtain⟨its,F,p1,_⟩:=I.tuple O;obtain⟨L,j,p2,_⟩:=I.tuple U;refine HT.cat_tup p1 p2 (λz=>hx (F.nil_iff.mp z)) (λz=>⟨.ref a,H,I,rfl,Y (j.nil_iff.mp z)⟩) (λz=>?_) (by rw[<-F.length,<-j.length];exact J)
 refine⟨.ref s.heap.objs.size,_,I.laid (t':=s.toks) (o:=.tup (xs++ys)) (λb ob q=>n6 _ q) (JL _) ?_,rfl,Um (λw=>z (j.nil_iff.mpr w)) _ (I.hok.fresh (JL _))⟩;exact⟨by rw[JG];exact J,_,F.append j,R1 _ _⟩
end
end
variable{n:Nat}{s:i4}{its:List h6}{x:V}
section
noncomputable def ixN(n:Nat)(i:Int):Option Nat:=if 0<=i then(if i<n then S i.toNat else Z)else if -(n:Int)<=i then S (i+n).toNat else Z
noncomputable def atI{α:Type}(xs:List α)(i:Int):Option α:=(ixN xs.length i).bind λj=>xs[j]?
theorem qZ{i:Int}{j:Nat}(h:ixN n i=S j):seqIndex? i n=S j/\j<n /\ -(n:Int)<=i/\i<n:=by
 unfold ixN at h
 by_cases h0:0<=i
 ·rw[if_pos h0]at h
  by_cases h1:i<n
  ·rw[if_pos h1]at h;have e:i.toNat=j:=Lo.inj h;exact⟨by rw[QN h0 h1,e],∅,∅,h1⟩
  ·rw[if_neg h1]at h;cases h
 ·rw[if_neg h0]at h
  by_cases h1:-(n:Int)<=i
  ·rw[if_pos h1]at h;have e:(i+n).toNat=j:=Lo.inj h;exact⟨by rw[Qm ∅ h1,e],∅,h1,∅⟩
  ·rw[if_neg h1]at h;cases h
theorem jR{α:Type}{xs:List α}{i:Int}{v:α}(h:atI xs i=S v):∃j,seqIndex? i xs.length=S j/\xs[j]?=S v/\j<xs.length /\ -(xs.length:Int)<=i/\i<xs.length:=by
 unfold atI at h
 cases e:ixN xs.length i with
 |none=>rw[e]at h;cases h
 |some j=>rw[e]at h;obtain⟨h1,h2,z,F⟩:=qZ e;exact⟨j,h1,h,h2,z,F⟩
def jS(b:Expr):Prop:=∀o i,subscripted b Up o i=operate [o,i] (Tn o i)
def IxR(X:Cx)(r:R2):Prop:=
 ∀(value slice:Expr) (pins:List (Uq×Obj)) (s:i4) (σ:St) (H:Hp) (x y:V) (v u:h6) (Q:VK),Inv X pins σ H s->RelV x v->RelV y u->r x y H Q->
  subscripted slice Up v u=operate [v,u] (Tn v u)->JK (model X.prog X.w) X.A (subscriptTail value slice v u) (EP X pins σ Q) X.xe s
def MtR(X:Cx)(id:String)(r:V->List V->Hp->VK->Prop):Prop:=
 ∀(pins:List (Uq×Obj)) (s:i4) (σ:St) (H:Hp) (x:V) (xs:List V) (v:h6) (us:List h6) (Q:VK),Inv X pins σ H s->RelV x v->Vals xs us->r x xs H Q->
  JK (model X.prog X.w) X.A (call (.builtin id) (v::us)) (EP X pins σ Q) X.xe s
section
variable{X:Cx}{a b:Expr}{ta tb:TE}{pos:Pos}
theorem IxR.or{r r':R2}(h:IxR X r)(h':IxR X r'):IxR X (λx y H Q=>r x y H Q∨r' x y H Q):=by
 intro value slice pins s σ H x y v u Q I rx ry q hs
 rcases q with q|q
 ·exact h value slice pins s σ H x y v u Q I rx ry q hs
 ·exact h' value slice pins s σ H x y v u Q I rx ry q hs
theorem MtR.or{id:String}{r r':V->List V->Hp->VK->Prop}(h:MtR X id r)(h':MtR X id r'):MtR X id (λx xs H Q=>r x xs H Q∨r' x xs H Q):=by
 intro pins s σ H x xs v us Q I rx rs q
 rcases q with q|q
 ·exact h pins s σ H x xs v us Q I rx rs q
 ·exact h' pins s σ H x xs v us Q I rx rs q
theorem Dz{r:R2}(hr:IxR X r)(j:PE X a ta)(z:PE X b tb)(hs:jS b):PE X (.Subscript a b pos) (tOp r ta tb):=by intro pins s σ H Q I h;exact Subscript_ (wR j z I h λv u s2 x y H2 F rx ry q=>hr a b pins s2 σ H2 x y v u Q F rx ry q (hs _ _))
noncomputable def EN(K:Frag):R2:=λx y H Q=>∃p xs i v,x=.ref p/\y=.int i/\SqL K H p xs/\atI xs i=S v/\Q v H
noncomputable def EO(K:Frag):R2:=λx y H Q=>∃p xs i v,x=.ref p/\y=.int i/\SqT K H p xs/\atI xs i=S v/\Q v H
theorem ix_list:IxR X (EN X.K):=by
 intro value slice pins s σ H x y v u Q I rx ry h hs;obtain⟨p,xs,i,z,rfl,rfl,J,he,q⟩:=h
 cases rx
 obtain⟨t,rfl⟩:=ry;obtain⟨its,r,pl,Y⟩:=I.list J;obtain⟨j,h1,h2,Um,L,O⟩:=jR he;obtain⟨w,ew,rw'⟩:=r.get h2;have U:=r.length;have hn:=dY;have fin:EP X pins σ Q w s:=⟨z,H,I,rw',q⟩
 by_cases h0:0<=i
 ·have F:i.toNat=j:=by
   rw[QN h0 O]at h1;exact Lo.inj h1
  exact item_listR pl.isList h0 ∅ (by rw[F];simpa using ew) fin hs
 ·have F:(i+(its.toArray.size:Int)).toNat=j:=by
   rw[Qm ∅ L]at h1
   rw[JN,<-U];exact Lo.inj h1
  exact Qn (x:=w) pl.isList.typeIs slot_list_getitem.lookup
   (Qo (Q:=λr s'=>r=w/\EP X pins σ Q r s') pl.isList ∅ (by rw[JN]<;>lia) ∅ (by rw[F];simpa using ew) ⟨rfl,fin⟩) hs
theorem ix_tup:IxR X (EO X.K):=by
 intro value slice pins s σ H x y v u Q I rx ry h hs;obtain⟨p,xs,i,z,rfl,rfl,F,he,q⟩:=h
 cases rx
 obtain⟨t,rfl⟩:=ry;obtain⟨its,r,pl,L⟩:=I.tuple F;obtain⟨j,h1,h2,O,U,Y⟩:=jR he;obtain⟨w,ew,rw'⟩:=r.get h2;have J:=r.length;have hn:=dY;have fin:EP X pins σ Q w s:=⟨z,H,I,rw',q⟩;exact Qn (x:=w) pl.typeIs slot_tuple_getitem.lookup
  (getItem_tuple (j:=j) (Q:=λr s'=>r=w/\EP X pins σ Q r s') pl ∅ ∅ (by rw[JN,<-J];exact h1) (by simpa using ew) ⟨rfl,fin⟩) hs
theorem sL(its:List h6)(n j:Nat)(u:h6):MW (·.setIfInBounds j u) {cls:=.type "list",data:=.seq its.toArray n}={cls:=.type "list",data:=.seq (its.set j u).toArray n}:=by simp[MW]
theorem Inv.lst{pins:List (Uq×Obj)}{σ:St}{H:Hp}{s:i4}{p:Uq}{xs:List V}(I:Inv X pins σ H s)(h:H p=S (.lst xs)):
 ∃(its:List h6) (n:Nat),Vals xs its/\s.heap.get? p=S {cls:=.type "list",data:=.seq its.toArray n}/\xs.length<=D2:=by
 obtain⟨z,its,n,r,e⟩:=I.hok p _ h;exact⟨its,n,r,e,z⟩
theorem Inv.lstUpd{pins:List (Uq×Obj)}{σ:St}{H:Hp}{p:Uq}{ys:List V}{its':List h6}{n':Nat}{f:Obj->Obj}(I:Inv X pins σ H s)(h:H p=S (.lst xs))(ho:s.heap.get? p=S {cls:=.type "list",data:=.seq its.toArray n})(hf:f {cls:=.type "list",data:=.seq its.toArray n}={cls:=.type "list",data:=.seq its'.toArray n'})(r:Vals ys its')(j:ys.length<=D2)(t:Nat):
 Inv X pins σ (upd H p (.lst ys)) {s with heap:=s.heap.update p f,toks:=t}:=by
 have e:(s.heap.update p f).get? p=S {cls:=.type "list",data:=.seq its'.toArray n'}:=by rw[Kr f ho (by rw[hf]<;>rfl),hf]
 refine I.write (x:=p) (e:=p) (by rw[h];trivial) (.inl rfl) (λb u z q=>(Ko _ _ (Ne.symm z)).trans q) ⟨_,e⟩ ?_
 exact⟨j,its',n',r,e⟩
noncomputable def zj:V->V->V->Hp->(Hp->Prop)->Prop:=λo i v H Q=>∃p xs k j,o=.ref p/\i=.int k/\H p=S (.lst xs)/\ixN xs.length k=S j/\Q (upd H p (.lst (xs.set j v)))
theorem xc:PSet X zj:=by
 intro pins s σ H o i v ov iv u Q I ro ri rv h;obtain⟨p,xs,k,j,rfl,rfl,F,O,q⟩:=h
 cases ro
 obtain⟨t,rfl⟩:=ri;obtain⟨its,n,r,ho,U⟩:=I.lst F;obtain⟨h1,h2,J,L⟩:=qZ O;have z:=r.length;have hn:=dY;have I':Inv X pins σ (upd H p (.lst (xs.set j v))) {s with heap:=s.heap.update p (MW (·.setIfInBounds j u))}:=I.lstUpd F ho (sL its n j u) (r.set rv j) (by rw[T9];exact U) s.toks
 by_cases h0:0<=k
 ·have hk:k.toNat=j:=by
   rw[QN h0 L]at h1;exact Lo.inj h1
  exact PySem.W.ki_setAt ho h0 ∅ (by rw[JN,<-z];exact L) (by rw[hk];exact⟨_,I',q⟩)
 ·have hk:(k+(its.toArray.size:Int)).toNat=j:=by
   rw[Qm ∅ J]at h1
   rw[JN,<-z];exact Lo.inj h1
  exact PySem.W.ki_setBack ho ∅ (by rw[JN,<-z];exact J) ∅ (by rw[hk];exact⟨_,I',q⟩)
noncomputable def cC:V->Bool
 |.non=>Uo
 |.bl _=>Uo
 |.int _=>Uo
 |.str _=>Uo
 |_=>Up
noncomputable def eqV:V->V->Bool
 |.non,.non=>Uo
 |.bl a,.bl b=>a==b
 |.bl a,.int b=>(if a then 1 else 0)==b
 |.int a,.bl b=>a==(if b then 1 else 0)
 |.int a,.int b=>a==b
 |.str a,.str b=>a==b
 |_,_=>Up
theorem BV{A:K2}{y:V}{u v:h6}(ry:RelV y u)(rx:RelV x v)(fy:cC y=Uo)(fx:cC x=Uo):SeqAt.EqAt A s u v (eqV y x):=by
 cases y with
 |non=>
  cases ry
  cases x with
  |non=>cases rx;exact SeqAt.EqAt.same _
  |bl b=>cases rx;exact SeqAt.EqAt.none_bool b
  |int b=>obtain⟨t,rfl⟩:=rx;exact SeqAt.EqAt.none_int b t
  |str b=>obtain⟨t,rfl⟩:=rx;exact SeqAt.EqAt.none_str b t
  |_=>exact absurd (show Up=Uo from fx) q7
 |bl a=>
  cases ry
  cases x with
  |non=>cases rx;exact SeqAt.EqAt.bool_none a
  |bl b=>cases rx;exact SeqAt.EqAt.bool_bool a b
  |int b=>obtain⟨t,rfl⟩:=rx;exact SeqAt.EqAt.bool_int a b t
  |str b=>obtain⟨t,rfl⟩:=rx;exact SeqAt.EqAt.bool_str a b t
  |_=>exact absurd (show Up=Uo from fx) q7
 |int a=>
  obtain⟨t',rfl⟩:=ry
  cases x with
  |non=>cases rx;exact SeqAt.EqAt.int_none a t'
  |bl b=>cases rx;exact SeqAt.EqAt.int_bool a t' b
  |int b=>obtain⟨t,rfl⟩:=rx;exact SeqAt.EqAt.int_int a t' b t
  |str b=>obtain⟨t,rfl⟩:=rx;exact Ro a t' b t
  |_=>exact absurd (show Up=Uo from fx) q7
 |str a=>
  obtain⟨t',rfl⟩:=ry
  cases x with
  |non=>cases rx;exact SeqAt.EqAt.str_none a t'
  |bl b=>cases rx;exact SeqAt.EqAt.str_bool a t' b
  |int b=>obtain⟨t,rfl⟩:=rx;exact Rp a t' b t
  |str b=>obtain⟨t,rfl⟩:=rx;exact SeqAt.EqAt.str_str a t' b t
  |_=>exact absurd (show Up=Uo from fx) q7
 |_=>exact absurd (show Up=Uo from fy) q7
noncomputable def eqU(x:V)(u:h6):Bool:=match u with
 |.none=>eqV .non x
 |.bool b=>eqV (.bl b) x
 |.int i _=>eqV (.int i) x
 |.str z _=>eqV (.str z) x
 |_=>Up
theorem uA{y:V}{u:h6}(r:RelV y u)(f:cC y=Uo):eqU x u=eqV y x:=by
 cases y with
 |non=>cases r;rfl
 |bl b=>cases r;rfl
 |int i=>obtain⟨t,rfl⟩:=r;rfl
 |str z=>obtain⟨t,rfl⟩:=r;rfl
 |_=>exact absurd (show Up=Uo from f) q7
theorem fu{x:V}:∀{xs:List V} {us:List h6},Vals xs us->xs.all cC=Uo->us.any (eqU x)=xs.any λy=>eqV y x
 |_,_,.nil,_=>rfl
 |y::xs,u::us,.cons r t,f=>by rw[My,i5]at f;rw[LJ,LJ,uA r f.1,fu t f.2]
theorem dZ{A:K2}{s:i4}{x:V}{v:h6}(rx:RelV x v)(fx:cC x=Uo):∀{xs:List V} {us:List h6},Vals xs us->xs.all cC=Uo->∀u∈us,SeqAt.EqAt A s u v (eqU x u)
 |_,_,.nil,_=>λu j=>by cases j
 |y::xs,u::us,.cons r t,f=>fun u' j=>by
  rw[My,i5]at f
  rcases JS.mp j with rfl|j
  ·rw[uA r f.1];exact BV r rx f.1 fx
  ·exact dZ rx fx t f.2 u' j
noncomputable def inV(x:V)(xs:List V):Bool:=xs.any λy=>eqV y x
noncomputable def rIn(K:Frag)(neg:Bool):R2:=λx y H Q=>∃p xs,y=.ref p/\(SqL K H p xs∨SqT K H p xs)/\cC x=Uo/\xs.all cC=Uo/\Q (.bl (if neg then !inV x xs else inV x xs)) H
theorem kY:OpR X (Kb .In) (rIn X.K Up):=by
 intro pins s σ H x y v u Q I rx ry h;obtain⟨p,xs,rfl,j,fx,fs,q⟩:=h
 cases ry
 rcases j with j|j
 ·obtain⟨its,r,pl,z⟩:=I.list j;refine SeqAt.in_listAt (eqU x) pl.isList (λw hw=>dZ rx fx r fs w (by simpa using hw)) ⟨.bl _,H,I,rfl,?_⟩
  rw[show its.toArray.any (eqU x)=its.any (eqU x) by simp,fu r fs]
  exact q
 ·obtain⟨its,r,pl,z⟩:=I.tuple j;refine SeqAt.in_tupleAt (eqU x) pl (λw hw=>dZ rx fx r fs w (by simpa using hw)) ⟨.bl _,H,I,rfl,?_⟩
  rw[show its.toArray.any (eqU x)=its.any (eqU x) by simp,fu r fs]
  exact q
theorem nS:OpR X (Kb .NotIn) (rIn X.K Uo):=by
 intro pins s σ H x y v u Q I rx ry h;obtain⟨p,xs,rfl,j,fx,fs,q⟩:=h
 cases ry
 rcases j with j|j
 ·obtain⟨its,r,pl,z⟩:=I.list j;refine SeqAt.notIn_listAt (eqU x) pl.isList (λw hw=>dZ rx fx r fs w (by simpa using hw)) ⟨.bl _,H,I,rfl,?_⟩
  rw[show its.toArray.any (eqU x)=its.any (eqU x) by simp,fu r fs]
  exact q
 ·obtain⟨its,r,pl,z⟩:=I.tuple j;refine SeqAt.notIn_tupleAt (eqU x) pl (λw hw=>dZ rx fx r fs w (by simpa using hw)) ⟨.bl _,H,I,rfl,?_⟩
  rw[show its.toArray.any (eqU x)=its.any (eqU x) by simp,fu r fs]
  exact q
theorem CallR.or{f:h6}{r r':List V->Hp->VK->Prop}(h:CallR X f r)(h':CallR X f r'):CallR X f (λxs H Q=>r xs H Q∨r' xs H Q):=by
 intro pins s σ H xs us Q I rs q
 rcases q with q|q
 ·exact h pins s σ H xs us Q I rs q
 ·exact h' pins s σ H xs us Q I rs q
theorem nU:CallR X (.type "list") (λxs H Q=>∃p ys,xs=[.ref p]/\(SqL X.K H p ys∨SqT X.K H p ys)/\∀l,H l=Z->Q (.ref l) (upd H l (.lst ys))):=by
 intro pins s σ H xs us Q I r h;obtain⟨p,ys,rfl,j,q⟩:=h;obtain⟨u,rfl,rx⟩:=dC r
 cases rx
 have fin:∀(its:List h6),Vals ys its->ys.length<=D2->∀(h':Heap) (c':Nat),(∀b o',s.heap.get? b=S o'->h'.get? b=S o')->
  h'.get? s.heap.objs.size=S {cls:=.type "list",dict:=Z,data:=.seq its.toArray c',slots:=#[]}->EP X pins σ Q (.ref s.heap.objs.size) {s with heap:=h'}:=λits r' z h' c' kp e=>
  ⟨.ref s.heap.objs.size,_,I.laid (t':=s.toks) kp (JL _) (show ObjOk X.prog X.w _ h' _ (.lst ys)from⟨z,its,c',r',e⟩),rfl,q _ (I.hok.fresh (JL _))⟩
 rcases j with j|j
 ·obtain⟨its,r',pl,z⟩:=I.list j;have hlen:=r'.length;obtain⟨o,ho,F,n,hd⟩:=pl.isList;exact call_list_seq p (.inl rfl) ho F hd (λh' c' kp e=>fin its r' z h' c' kp e) (by simp only[JN]<;>lia)
 ·obtain⟨its,r',pl,z⟩:=I.tuple j;have hlen:=r'.length;obtain⟨o,ho,F,n,hd⟩:=pl;exact call_list_seq p (.inr rfl) ho F hd (λh' c' kp e=>fin its r' z h' c' kp e) (by simp only[JN]<;>lia)
def tyV(K:Frag)(T:String)(x:V)(H:Hp):Prop:=match x with
 |.str _=>T="str"
 |.int _=>T="int"
 |.ref p=>(T="list"/\∃xs,SqL K H p xs)∨(T="tuple"/\∃o,K.lookup p=S o/\o.cls=.type "tuple"/\o.dict=Z) ∨
  (T="dict"/\((∃kvs,H p=S (.dK kvs))∨∃kvs,H p=S (.dT kvs)))∨(T="set"/\∃F3 n,H p=S (.set F3 n))
 |_=>False
theorem BW{pins:List (Uq×Obj)}{σ:St}{H:Hp}{T:String}{v:h6}(I:Inv X pins σ H s)(r:RelV x v)(ty:tyV X.K T x H):
 s.TypeIs v T/\∀a,v=.ref a->∃ob,s.heap.get? a=S ob/\ob.dict=Z:=by
 cases x with
 |str z=>
  obtain⟨t,rfl⟩:=r
  cases(show T="str" from ty)
  exact⟨typeIs_str s z t,λ_ e=>nomatch e⟩
 |int i=>
  obtain⟨t,rfl⟩:=r
  cases(show T="int" from ty)
  exact⟨Qp s i t,λ_ e=>nomatch e⟩
 |ref p=>
  cases r
  rcases ty with⟨rfl,xs,F⟩|⟨rfl,o,hk,J,hd⟩|⟨rfl,hk⟩|⟨rfl,F3,n,hk⟩
  ·obtain⟨its,_,pl,_⟩:=I.list F;refine⟨pl.isList.typeIs,λa e=>?_⟩
   cases e
   obtain⟨o,n,e,c,hd,_⟩:=pl;exact⟨o,e,hd⟩
  ·refine⟨⟨o,I.kIn p o hk,J⟩,λa e=>?_⟩
   cases e
   exact⟨o,I.kIn _ o hk,hd⟩
  ·have z:∃o,s.heap.get? p=S o/\o.ExactDict:=by
    rcases hk with⟨kvs,hk⟩|⟨kvs,hk⟩
    ·obtain⟨_,_,_,_,o,_,_,e,ex,_⟩:=I.hok p _ hk;exact⟨o,e,ex⟩
    ·obtain⟨_,_,_,_,o,_,_,e,ex,_⟩:=I.hok p _ hk;exact⟨o,e,ex⟩
   obtain⟨o,e,ex⟩:=z;refine⟨⟨o,e,ex.1⟩,λa j=>?_⟩
   cases j
   exact⟨o,e,ex.2.1⟩
  ·obtain⟨o,_,_,_,e,ex,_⟩:=I.hok p _ hk;refine⟨⟨o,e,ex.1⟩,λa j=>?_⟩
   cases j
   exact⟨o,e,ex.2.1⟩
 |_=>exact False.elim ty
noncomputable def tBM(K:Frag)(T:String)(r:V->List V->Hp->VK->Prop)(to:TE)(t:TA):TE:=λσ H Q=>to σ H λx H1=>tyV K T x H1/\t σ H1 λxs H2=>r x xs H2 Q
variable{o e:Expr}{es:List Expr}{to:TE}{t:TA}{name:Str}{apos cpos:Pos}{T id:String}{r:V->List V->Hp->VK->Prop}
theorem zk (pa:PlainAttrs T)(slot:Slot T name id)(L:typeOf (.builtin id)=pure (.type "method_descriptor"))(hm:MtR X id r)(ho:PE X o to)(ha:PA X (e::es) t)(z:Nb o name X.env (eval o X.env)=eval o X.env:=by rfl)(J:((LA cpos (JU (e::es) X.env)).all (fun x=>!x.1)&&(Q4 cpos (O3 [] X.env)).all (fun x=>x.1.isSome)
   && decide ((e::es).length+([]:List Oa).length+(if([]:List Oa).isEmpty then 0 else 1)<30))=Uo:=by rfl)(F:(apos.endLine==cpos.line)=Uo:=by rfl)(hs:JU (e::es) X.env=(Up,eval e X.env)::JU es X.env:=by rfl)(j:(LA cpos (JU es X.env)).any (·.1)=Up:=by rfl):
 PE X (.Call (.Attribute o name apos) (e::es) [] cpos) (tBM X.K T r to t):=by
 intro pins s σ H Q I h;refine wpAny_Call_method_late z J F rfl (thn (ho pins s σ H _ I h) λv s1 O=>?_);obtain⟨x,H1,U,Y,ty,q1⟩:=O;obtain⟨h1,h2⟩:=BW U Y ty;refine⟨T,id,pa,slot,L,h1,h2,?_⟩;have Um:=ha cpos pins s1 σ H1 _ U q1;rw[hs]at Um⊢;refine Ob (by show(Up || (LA cpos (JU es X.env)).any (·.1))=Up;rw[j]<;>rfl) (Nr ?_)
 exact thn Um λus s2 O=>(by obtain⟨vs,H2,I2,r2,q2⟩:=O;exact hm pins s2 σ H2 x vs v us Q I2 Y r2 q2)
end
end
section
def MtM(X:Cx)(id:String)(r:V->List V->Hp->VK->Prop):Prop:=
 ∀(pins:List (Uq×Obj)) (s:i4) (σ:St) (H:Hp) (x:V) (xs:List V) (v:h6) (us:List h6) (Q:VK),Inv X pins σ H s->RelV x v->Vals xs us->r x xs H Q->
  JK (model X.prog X.w) X.A (call (.builtin id) (v::us)) (EP X pins σ Q) X.xe s
theorem Vals.one:∀{x:V} {us:List h6},Vals [x] us->∃u,us=[u]/\RelV x u
 |_,_,.cons r .nil=>⟨_,rfl,r⟩
theorem Vals.dropLast(h:Vals xs us):Vals xs.dropLast us.dropLast:=by
 induction h with
 |nil=>exact .nil
 |cons r t ih=>
  cases t with
  |nil=>exact .nil
  |cons q t'=>exact .cons r ih
theorem Vals.eraseIdx:∀{xs:List V} {us:List h6} (i:Nat),Vals xs us->Vals (xs.eraseIdx i) (us.eraseIdx i)
 |_,_,_,.nil=>.nil
 |_,_,0,.cons _ t=>t
 |_,_,i+1,.cons r t=>.cons r (Vals.eraseIdx i t)
theorem Vals.reverse(h:Vals xs us):Vals xs.reverse us.reverse:=by
 induction h with
 |nil=>exact .nil
 |cons r t ih=>rw[Oc,Oc];exact Vals.append ih (.cons r .nil)
theorem Vals.rep{xs:List V}{us:List h6}(h:Vals xs us):∀k:Nat,Vals (JZ k xs).flatten (JZ k us).flatten
 |0=>.nil
 |k+1=>by rw[Lg,Lg,LV,LV];exact Vals.append h (Vals.rep h k)
theorem gx(its:List h6):∀(k:Nat) (acc:List h6),
 Oq (λx1 j=>x1++j) acc.toArray (JZ k its.toArray)=(acc++(JZ k its).flatten).toArray
 |0,acc=>by simp
 |k+1,acc=>by
  have e:acc.toArray++its.toArray=(acc++its).toArray:=by simp
  have z:(acc++its)++(JZ k its).flatten=acc++(JZ (k+1) its).flatten:=by rw[Lg,LV,JQ]
  rw[<-z,<-gx its k (acc++its),<-e,Lg,Qz]
section
variable{X:Cx}{pins:List (Uq×Obj)}{σ:St}{H:Hp}{s:i4}{l b:Uq}{xs ys zs:List V}
theorem Inv.lset{its':List h6}{f:Array h6->Array h6}{t':Nat}(I:Inv X pins σ H s)(j:H l=S (.lst xs))(e:s.heap.get? l=S {cls:=.type "list",data:=.seq its.toArray n})(hf:f its.toArray=its'.toArray)(z:Vals ys its')(F:ys.length<=D2):
 Inv X pins σ (upd H l (.lst ys)) {s with heap:=s.heap.update l (MW f),toks:=t'}:=by
 have q:=PySem.IsL.update e f;rw[hf]at q;refine I.write (x:=l) (e:=l) (by rw[j];exact trivial) (.inl rfl) (λb' u J L=>(Ko s.heap (MW f) (Ne.symm J)).trans L) ⟨_,q⟩ ?_
 exact⟨F,its',_,z,q⟩
theorem Inv.lnew{t':Nat}(I:Inv X pins σ H s)(j:Vals ys its)(z:ys.length<=D2):
 Inv X pins σ (upd H s.heap.objs.size (.lst ys)) {s with heap:=s.heap.push {cls:=.type "list",data:=.seq its.toArray},toks:=t'}:=
 I.laid (λ_ _ q=>n6 _ q) (JL _) ⟨z,its,0,j,JW _ rfl⟩
theorem Inv.fresh(I:Inv X pins σ H s):H s.heap.objs.size=Z:=I.hok.fresh (JL _)
theorem Inv.lstM(I:Inv X pins σ H s)(j:H l=S (.lst xs)):xs.length<=D2/\∃(its:List h6) (n:Nat),Vals xs its/\xs.length=its.length/\s.heap.get? l=S {cls:=.type "list",data:=.seq its.toArray n}:=by obtain⟨z,its,n,r,e⟩:=I.hok l _ j;exact⟨z,its,n,r,r.length,e⟩
theorem xf(h:n<=D2):NO n=Up:=by unfold NO;exact decide_eq_false ∅
end
section
variable{X:Cx}
noncomputable def r6:V->List V->Hp->VK->Prop:=λx vs H Q=>∃l xs y,x=.ref l/\vs=[y]/\H l=S (.lst xs)/\xs.length<D2/\Q .non (upd H l (.lst (xs++[y])))
theorem kZ:MtM X "list.append" r6:=by
 intro pins s σ H x vs v us Q I rx rv h;obtain⟨l,xs,y,rfl,rfl,j,J,q⟩:=h
 cases rx
 obtain⟨u,rfl,ru⟩:=rv.one;obtain⟨z,its,n,r,L,e⟩:=I.lstM j;refine P9 F.slot_list_append ⟨_,e,rfl⟩ F.entry_list_append (F.args_list_append_2 _ _) (PySem.list_append l its.toArray n u (by rw[JN];lia)) ⟨e,?_⟩
 refine⟨.non,_,I.lset (its':=its++[u]) j e (by simp) (r.append (.cons ru .nil)) ?_,rfl,q⟩
 rw[JG,Nc];lia
noncomputable def EQ:R2:=λx y H Q=>∃l b xs zs,x=.ref l/\y=.ref b/\H l=S (.lst xs)/\H b=S (.lst zs)/\xs.length+zs.length<=D2/\∀p,H p=Z->Q (.ref p) (upd H p (.lst (xs++zs)))
theorem op_cat:OpR X (Lj .Add) EQ:=by
 intro pins s σ H x y v u Q I rx ry h;obtain⟨l,b,xs,zs,rfl,rfl,F,J,Y,q⟩:=h
 cases rx
 cases ry
 obtain⟨z,its,n,r,Um,e⟩:=I.lstM F;obtain⟨z2,j,n2,L,O,U⟩:=I.lstM J;refine PySem.P.add_list e U ?_ (by rw[JN,JN];lia)
 have ea:its.toArray++j.toArray=(its++j).toArray:=by simp
 rw[ea];exact⟨.ref _,_,I.lnew (t':=s.toks) (r.append L) (by rw[JG];lia),rfl,q _ I.fresh⟩
noncomputable def ER:R2:=λx y H Q=>∃l k xs,x=.ref l/\y=.int k/\H l=S (.lst xs) /\ -(2^63)<=k/\k<2^63/\xs.length*k.toNat<=D2 /\
 ∀p,H p=Z->Q (.ref p) (upd H p (.lst (JZ k.toNat xs).flatten))
theorem rg{α:Type}(xs:List α)(k:Nat):(JZ k xs).flatten.length=k*xs.length:=by
 induction k with
 |zero=>simp
 |succ k ih=>rw[Lg,LV,JG,ih,Nat.succ_mul,Nat.add_comm]
theorem op_rep:OpR X (Lj .Mult) ER:=by
 intro pins s σ H x y v u Q I rx ry h;obtain⟨l,k,xs,rfl,rfl,hH,h1,h2,Um,q⟩:=h
 cases rx
 obtain⟨t,rfl⟩:=ry;obtain⟨z,its,n,r,hl,e⟩:=I.lstM hH;have hlen:its.toArray.size*k.toNat<=D2:=by rw[JN,<-hl];exact Um
 have J:¬its.toArray.size*k.toNat > (2^63-1) / 8:=by
  have:(D2:Nat)<=(2^63-1) / 8:=by decide
  lia
 have L:¬(!Builtin.List.listFitsIndex k)=Uo:=by rw[fitsIndex_both h1 h2];exact q7
 have j:¬NO (its.toArray.size*k.toNat)=Uo:=by rw[xf hlen];exact q7
 have O:Oq (λx1 Y=>x1++Y) #[] (JZ (if its.toArray.isEmpty=Uo then 0 else k.toNat) its.toArray)=(JZ k.toNat its).flatten.toArray:=by
  have f0:∀m:Nat,Oq (λx1 Y=>x1++Y) #[] (JZ m its.toArray)=(JZ m its).flatten.toArray:=λm=>by have:=gx its m [];rw[Ml]at this;exact this
  rw[f0]
  cases its with
  |nil=>simp
  |cons a r'=>rw[if_neg (by simp)]
 refine Pn (T:="list") (U:="int") (by decide) ⟨_,e,rfl⟩ (λs'=>Qp s' k t) noFill_list_mul Ta OO repeat_list F.slot_int_index.lookup
  (P9 OO (Qp s k t) Ss (RW _ _) (int___rmul___int_list k t l its.toArray n)
    ⟨e,rfl,⟨_,e,rfl⟩,P9 F.slot_list_mul ⟨_,e,rfl⟩ F.entry_list_mul (F.args_list_mul_2 _ _) (AutoListH.list___mul___list_int_3 l its.toArray n k t L J j) ⟨e,?_⟩⟩)
 rw[O];exact⟨.ref _,_,I.lnew (t':=s.toks) (r.rep k.toNat) (by rw[rg,Nat.mul_comm];exact Um),rfl,q _ I.fresh⟩
end
end
end L2
namespace Att
open PySem PySem.W PySem.Calls PyProof.Rows
theorem jf{P:Params}{h:Heap}:∀(ns:List Int) (vs:List h6),WellAll P h vs (ns.map WData.int)->To vs ns:=by
 intro ns
 induction ns with
 |nil=>
  intro vs w;rw[LZ]at w
  cases w
  exact .nil
 |cons n ns ih=>
  intro vs w;rw[K7]at w
  cases w with
  |cons a b=>
   cases a
   exact .cons _ _ (ih _ b)
theorem uB{l:OpenLaw}{n:Nat}(hn:l.most=S n){P:Params}{h:Heap}{args:List WData}{vals:List h6}(j:l.row.toRowW.claim.pre args=Uo)(L:WellAll P h vals args):
 ∃a vs ns,vals=[K3 a]/\args=[WData.list (ns.map WData.int)]/\h.get? a=S {cls:=.type "list",data:=.seq vs.toArray}/\To vs ns/\ns.length<=n:=by
 have O:WShape.hasAll [] args [.list .int]=Uo:=(pre_splitW j).1;have U:l.pre.holds [] {args:=args}=Uo:=(pre_splitW j).2;obtain⟨d,r,rfl,h1,h2⟩:=hasAllW_cons O;obtain rfl:=hasAllW_nil h2;obtain⟨xs,rfl,Y⟩:=hasW_list h1;obtain⟨ns,rfl⟩:=items_int Y;have hlen:ns.length<=n:=by
  unfold OpenLaw.pre at U;have F:(WTm.not (.lt (.lit (.int (n:Int))) (.len (.arg 0)))).holds [] {args:=[.list (ns.map .int)]}=Uo:=by have F:=(holds_andW U).1;rw[hn]at F;exact F
  have J:=condW_of F (w_not (w_lt w_lit (w_len_list (w_arg rfl))));rw[B2]at J;refine Nat.le_of_not_lt λq=>?_;have q':(n:Int)<((ns.length:Nat):Int):=∅
  first
   |(rw[decide_eq_true q']at J;exact absurd J (by decide))
   |(simp at J;lia)
 cases L with
 |cons Um w2=>
  cases w2
  cases Um with
  |list ho z=>exact⟨_,_,ns,rfl,rfl,ho,jf ns _ z,hlen⟩
theorem uG(l:OpenLaw)(args:List WData):l.row.toRowW.claim.post args (.bool Uo) args=Uo:=
 postW_of (r:=l.row.toRowW) (X:=(Uo==Uo))
  (show WShape.has [] (.bool Uo) .bool=Uo by first|rfl|decide|simp[WShape.has,WShape.arms,WShape.armsAll])
  (show(WTm.eq .res (.lit (.bool Uo))).value [] {args:=args,res:=S (.bool Uo),after:=args}=S (.bool (Uo==Uo))from w_eq_bool (w_res rfl) w_lit) rfl
theorem attach_call {l:OpenLaw}{n:Nat}{q:JR}{loose:List Str}{XP:(Str->Option h6)->Heap->Prop}{YP:K8->Heap->Prop}{d:DefRec}(hn:l.most=S n)(F:d.params.defaults=[])(call:∀(w:K8) (s₀ s₁:i4) (mg mb:Str->Option h6) (fa:Uq) (o:Obj) (pm cd doc:h6) (a:Uq) (vs:List h6) (ns:List Int),
   Ground q loose [] XP w s₀ mg mb s₁.heap->YP w s₁.heap->
   s₁.heap.get? fa=S o->o.data=.func (docDef d.name d.params d.body d.scope pm cd doc)->s₁.heap.CodeRec cd d.name->mg d.name=S (.ref fa)->
   s₁.heap.get? a=S {cls:=.type "list",data:=.seq vs.toArray}->To vs ns->ns.length<=n->s₁.gens=#[]->
   O7 (model l.prog w) R6 (.call (.ref fa) ⟨[.ref a],[]⟩) (λr s'=>r=.ok (.ret (.bool Uo))/\OldK s₁.heap s'.heap/\s'.os=s₁.os/\OZ s'.gens) s₁):
 WalkO q loose XP YP l.row.toRowW d [] (λf vs=>Tv f vs):=by
 intro w s₀ s₁ mg mb G Y fa o pm cd doc dV kV ho hd J hD L Um args vals as j U Hf O Hg;obtain rfl:dV=.none:=Dflts.none hD F;obtain rfl:kV=.none:=Dflts.noKw hD;obtain⟨a,vs,ns,rfl,rfl,z,hints,hlen⟩:=uB hn j O;refine enter_call (MU (call w s₀ s₁ mg mb fa o pm cd doc a vs ns G Y ho (fd_plain hd) J L z hints hlen Um) λr s' hq=>?_);obtain⟨rfl,h2,h3,h4⟩:=hq;exact⟨.inl ⟨.bool Uo,.bool Uo,[],rfl,λ_=>rfl,.bool Uo,uG l _,λ_=>⟨RX,λ_ hm=>(nomatch hm)⟩⟩,h2,h3,h4⟩
section
variable{prog:JR}{w:K8}{A:K2}{E:h6->i4->Prop}{s:i4}{K:Frag}
noncomputable def G2(h:Heap)(L d:Uq):List (Uq×Obj):=(L4 h.objs.size).filterMap λa=>if a=L∨a=d then Z else(h.get? a).map λo=>(a,o)
end
end Att
namespace L2
open PySem PySem.Spec PyProof.Rows
variable{fd:LB}{x:Str}
section
theorem lc:∀{vs:List h6} {ns:List Int},To vs ns->Vals (ns.map V.int) vs
 |_,_,.nil=>.nil
 |_,_,.cons n t h=>.cons ⟨t,rfl⟩ (lc h)
def sM(H:Hp):Prop:=∀b,H b=Z∨∃o xs,H b=S (.frz o (.lst xs))
theorem xg{P:JR}{w:K8}{K:Frag}{mg mb:Str->Option h6}{CX:CXT}{k:Nat}{fa a:Uq}{sp:Sp}{s₁:i4}{vs:List h6}{ns:List Int}(KX:K.In s₁.heap)(L:s₁.heap.Ns KR mg)(j:s₁.heap.Ns Qk mb)(Hf:∀x:Str,x≠"__name__"->mb x=Mp x)(O:s₁.heap.NoLimit)(hg:s₁.gens=#[])(Um:s₁.heap.get? a=S {cls:=.type "list",data:=.seq vs.toArray})(hi:To vs ns)(hl:ns.length<=D2)(hr:Room k R6)(F:∀base:Heap,K.In base->base.Ns KR mg->bF P w K mg base CX k fa fd [x] sp)(J:∀(s:i4) (u:h6),R5 s fd ⟨[u],[]⟩ [(x,u)])(Hg:∀H:Hp,sM H->SqL K H a (ns.map V.int)->sp [.ref a] H (λv _=>v=.bl Uo) λ_ _ _=>False)(Hh:∀H e s',CX [] H s₁ (λ_ _ _=>False) e s'->False):
 O7 (model P w) R6 (.call (.ref fa) ⟨[.ref a],[]⟩) (λr s'=>r=.ok (.ret (.bool Uo))/\OldK s₁.heap s'.heap/\s'.os=s₁.os/\OZ s'.gens) s₁:=by
 have rv:=lc hi;have lenV:=hi.length;have core:∀H:Hp,sM H->SqL K H a (ns.map V.int)->HOk P w H s₁.heap->(∀b,H b≠Z->b=a)->(H a≠Z->K.lookup a=Z)->
  O7 (model P w) R6 (.call (.ref fa) ⟨[.ref a],[]⟩) (λr s'=>r=.ok (.ret (.bool Uo))/\OldK s₁.heap s'.heap/\s'.os=s₁.os/\OZ s'.gens) s₁:=by
  intro H hO hS hok hA hK;have base_of:∀{b:Uq} {o:Obj},s₁.heap.get? b=S o->H b=Z->(fS s₁.heap H).get? b=S o:=λe n=>wJ e n;have noA:∀{b:Uq} {o:Obj} {es:Array Mm} {ep:Nat},s₁.heap.get? b=S o->o.data=.dict es ep->H b=Z:=λ{b o es ep} e d=>by
   cases q:H b with
   |none=>rfl
   |some u=>
    have e':b=a:=hA b (by rw[q];simp)
    subst e';rw[Um]at e;cases e;have d':OI vs.toArray _=Data.dict es ep:=d
    cases d'
  have nsK:∀{b:Uq} {m:Str->Option h6},s₁.heap.Ns b m->(fS s₁.heap H).Ns b m:=λ{b m} g9=>(by obtain⟨o,es,ep,e,d,r⟩:=g9;exact⟨o,es,ep,base_of e (noA e d),d,r⟩)
  have U:K.In (fS s₁.heap H):=λb o e=>base_of (KX b o e) (by
   cases q:H b with
   |none=>rfl
   |some u=>
    have e':b=a:=hA b (by rw[q];simp)
    subst e';rw[hK (by rw[q];simp)]at e;cases e)
  have hM:Mod K mg (fS s₁.heap H):=⟨U,nsK L,⟨mb,nsK j,Hf⟩,let⟨mc,h1,h2⟩:=O; ⟨mc,nsK h1,h2⟩⟩;have e0:Env0 P w K mg (fS s₁.heap H) R6 [] s₁ H:=⟨rfl,hM,λb o e=>zL e,Nat.le_of_eq (ud _ _),trivial,λb j=>absurd (show b∈([]:List Uq)from j) (by simp),hok,.of_eq hg⟩
  refine MU ((F _ U (nsK L)).run R6 [] s₁ H ⟨[.ref a],[]⟩ [.ref a] [.ref a] _ _ hr e0 (J s₁ (.ref a)) (.cons rfl .nil) (Hg H hO hS)) λr s' h=>?_
  cases r with
  |error e=>exact(Hh H e s' h).elim
  |ok fl=>
   cases fl with
   |next=>exact False.elim h
   |brk=>exact False.elim h
   |cont=>exact False.elim h
   |ret u=>
    obtain⟨v,H',os,bare,un,Y,r',q⟩:=h;have q':v=.bl Uo:=q;subst q';obtain rfl:u=Qj Uo:=r';refine⟨rfl,OldK.of_keep λb o e=>?_,os,bare⟩
    cases q:H b with
    |none=>exact un.keep b o e q (by intro z;exact absurd (show b∈([]:List Uq)from z) (by simp)) (by simp)
    |some u=>
     rcases hO b with z|⟨ob,xs,z⟩
     ·rw[q]at z;cases z
     ·have z2:=un.frzs b ob _ z;obtain⟨e1,_⟩:=hok b _ z;obtain⟨e2,_⟩:=Y b _ z2;rw[e]at e1;cases e1;exact e2
 cases hk:K.lookup a with
 |some o=>
  have e:=KX a o hk;rw[Um]at e
  cases e
  refine core (λ_=>Z) (λ_=>.inl rfl) (.inr ⟨_,vs.toArray,_,hk,rfl,rfl,rfl,by rw[JN,lenV];exact hl,by simpa using rv⟩) (λb u z=>by have z':(Z:Option HO)=S u:=z;cases z') (λb z=>absurd rfl z) λz=>absurd rfl z
 |none=>
  refine core (λb=>if b=a then S (.frz {cls:=.type "list",data:=.seq vs.toArray} (.lst (ns.map V.int)))else Z) (λb=>?_) (.inl (.inr ⟨{cls:=.type "list",data:=.seq vs.toArray},if_pos rfl⟩)) (λb u z=>?_) (λb z=>?_) λ_=>hk
  ·by_cases j:b=a
   ·exact .inr ⟨_,_,if_pos j⟩
   ·exact .inl (if_neg j)
  ·by_cases j:b=a
   ·have z':=(if_pos j).symm.trans z
    cases z'
    subst j;exact⟨Um,by rw[B2];exact hl,vs,_,rv,Um⟩
   ·have z':=(if_neg j).symm.trans z
    cases z'
  ·by_cases j:b=a
   ·exact j
   ·exact absurd (if_neg j) z
end
section
theorem walk_of {l:QA}{n k:Nat}{q:JR}{loose:List Str}{XP:(Str->Option h6)->Heap->Prop}{YP:K8->Heap->Prop}{d:DefRec}{K:Params->Frag}{CX:K8->CXT}{sp:K8->Sp}(hn:l.most=S n)(z:n<=D2)(J:d.params.defaults=[])(hr:Room k R6)(Um:∀(w:K8) (h:Heap),YP w h->(K w.params).In h)(F:∀(w:K8) (mg:Str->Option h6) (fa:Uq) (h:Heap),(K w.params).In h->h.Ns KR mg->mg d.name=S (.ref fa)->
   ∃fd:LB,(∀(s:i4) (u:h6),R5 s fd ⟨[u],[]⟩ [(x,u)]) /\
    ∀base:Heap,(K w.params).In base->base.Ns KR mg->bF l.prog w (K w.params) mg base (CX w) k fa fd [x] (sp w))(L:∀(w:K8) (H:Hp) (a:Uq) (ns:List Int),ns.length<=n->sM H->SqL (K w.params) H a (ns.map V.int)->sp w [.ref a] H (λv _=>v=.bl Uo) λ_ _ _=>False)(O:∀(w:K8) (H:Hp) (s:i4) (e:h6) (s':i4),CX w [] H s (λ_ _ _=>False) e s'->False):
 PySem.W.WalkO q loose XP YP l.row.toRowW d [] (λf vs=>Tv f vs):=by
 refine Att.attach_call hn J λw s₀ s₁ mg mb fa o pm cd doc a vs ns G Y ho hd Hf U j hints hlen hg=>?_;have KX:=Um w _ Y;obtain⟨fd,hb,hF⟩:=F w mg fa _ KX G.T.g U;exact xg KX G.T.g G.T.b G.T.builtins G.T.nolimit hg j hints (Ka hlen z) hr hF hb (λH hO hS=>L w H a ns hlen hO hS) λH e s'=>O w H s₁ e s'
end
variable{qual:Str}{st:Stmt}{f:Uq}{H:Hp}
section
noncomputable def cR(s:Stmt):Arguments:=match s with
 |.FunctionDef _ a _ _ _ _ _ _ _ _=>a
 |_=>{posonlyargs:=[],args:=[],vararg:=Z,kwonlyargs:=[],kw_defaults:=[],kwarg:=Z,defaults:=[]}
noncomputable def bE(s:Stmt):List Stmt:=match s with
 |.FunctionDef _ _ b _ _ _ _ _ _ _=>b
 |_=>[]
noncomputable def al(s:Stmt):Scope:=match s with
 |.FunctionDef _ _ _ _ _ _ sc _ _ _=>sc
 |_=>{kind:=.function,names:=[],isGenerator:=Up,isCoroutine:=Up}
noncomputable abbrev CX0:CXT:=λ_ _ _ _ _ _=>False
noncomputable abbrev E0:XK:=λ_ _ _=>False
theorem zm{X:Cx}:je CX0 X E0:=λ_ _ _ _ _ _ _ h=>h.elim
structure Fun(K:Frag)(x qual:Str)(st:Stmt)(f:Uq)(fd:LB):Prop where
 ex:∃(oc:h6) (od:Option Uq) (kV doc pm:h6) (an:Option Uq) (cdv ct:h6) (osl:Array (Option h6)),
  fd=Ms x qual (cR st) (bE st) (al st) .none kV doc pm an cdv ct/\K.lookup f=S ⟨oc,od,.func fd,osl⟩/\P8 K cdv qual=Uo
 kp:Lw K (.ref f)=Uo
section
variable{P:JR}{w:K8}{K:Frag}{mg:Str->Option h6}{base:Heap}
theorem Fun.ok {N ps:List Str}{k:Nat}{sp:Sp}(F:Fun K x qual st f fd)(F3:cQ N ps (al st))(len:∀vs H Q E,sp vs H Q E->vs.length=ps.length)(j:∀(cdv:h6) (A:K2) (outer:List Env) (s:i4) (H:Hp) (vs:List V) (Q:VK) (E:XK),Room k (A.deeper (NX qual (al st) s.heap.objs.size f cdv))->sp vs H Q E->
   ∃t,PSs (cu CX0 P w K mg base N qual (al st) f cdv A outer s H E).nox (bE st) t/\t {nx:=λ_ H'=>Q .non H',rt:=Q} (start N vs) H):bF P w K mg base CX0 (k+1) f fd ps sp:=by
 obtain⟨oc,od,kV,doc,pm,an,cdv,ct,osl,rfl,lk,z⟩:=F.ex;refine zh lk z F3 len λA outer s H vs Q E hr J=>?_;obtain⟨t,h,q⟩:=j cdv A outer s H vs Q E hr J;exact⟨t,h.nox,q⟩
theorem Fun.binds{ps:List Str}(F:Fun K x qual st f fd)(h:∀(kV doc pm:h6) (an:Option Uq) (cdv ct:h6) (us:List h6),us.length=ps.length->bindArgs (Ms x qual (cR st) (bE st) (al st) .none kV doc pm an cdv ct) ⟨us,[]⟩=pure (ps.zip us)):Binds K fd ps []:=by obtain⟨oc,od,kV,doc,pm,an,cdv,ct,osl,rfl,lk,j⟩:=F.ex;exact .all (h kV doc pm an cdv ct)
theorem ak{oc:h6}{od an:Option Uq}{osl:Array (Option h6)}{kV doc pm cdv ct:h6}(l:K.lookup f=S ⟨oc,od,.func (Ms x qual (cR st) (bE st) (al st) .none kV doc pm an cdv ct),osl⟩)(c:P8 K cdv qual=Uo)(k:Lw K (.ref f)=Uo):Fun K x qual st f (Ms x qual (cR st) (bE st) (al st) .none kV doc pm an cdv ct):=⟨⟨oc,od,kV,doc,pm,an,cdv,ct,osl,rfl,l,c⟩,k⟩
end
def Same(H H':Hp):Prop:=∀b o,H b=S o->H' b=S o
theorem Same.refl(H:Hp):Same H H:=λ_ _ h=>h
theorem Same.trans{H1 H2:Hp}(a:Same H H1)(b:Same H1 H2):Same H H2:=λc o h=>b c o (a c o h)
theorem Same.free{H':Hp}(e:Same H H'){l:Uq}(h:H' l=Option.none):H l=Option.none:=by
 cases q:H l with
 |none=>rfl
 |some o=>
  rw[e l o q]at h
  cases h
theorem Same.seq{K:Frag}{H':Hp}{a:Uq}{xs:List V}(e:Same H H')(h:SqL K H a xs):SqL K H' a xs:=by
 rcases h with(h|⟨o,h⟩)|h
 ·exact .inl (.inl (e _ _ h))
 ·exact .inl (.inr ⟨o,e _ _ h⟩)
 ·exact .inr h
end
end L2
namespace HT
open PySem PySem.Spec PyProof.Rows
end HT
namespace L2
open PySem PySem.Spec PyProof.Rows
variable{u:h6}{y v:V}{P:JR}{w:K8}{H H':Hp}{kvs:List (List Key×V)}{xs:List (List Key×Uq×h6)}{b a:Uq}{h':Heap}{t':Nat}{X:Cx}{pos:Pos}{pins:List (Uq×Obj)}{σ:St}{s:i4}
section
section
variable{κ:Type}[DecidableEq κ]
noncomputable def bK(kvs:List (κ×V))(k:κ):Option V:=(kvs.find? λkv=>decide (kv.1=k)).map (·.2)
noncomputable def bH(kvs:List (κ×V))(k:κ)(v:V):List (κ×V):=if(kvs.any λkv=>decide (kv.1=k))=Uo then kvs.map (λkv=>if kv.1=k then(kv.1,v)else kv)else kvs++[(k,v)]
noncomputable def bX(kvs:List (κ×V))(k:κ):List (κ×V):=kvs.filter λkv=>decide (kv.1≠k)
theorem fT{p:κ×V}{r:List (κ×V)}{k:κ}(e:p.1=k):bK (p::r) k=S p.2:=by simp[bK,Lm,e]
theorem fU{p:κ×V}{r:List (κ×V)}{k:κ}(e:¬p.1=k):bK (p::r) k=bK r k:=by simp[bK,Lm,e]
theorem nV(k:κ):∀kvs:List (κ×V),(kvs.any λkv=>decide (kv.1=k))=(bK kvs k).isSome
 |[]=>rfl
 |p::r=>by
  rw[LJ]
  by_cases e:p.1=k
  ·simp only[fT e,decide_eq_true e,Bool.true_or,Rw]
  ·rw[fU e,decide_eq_false e,NP];exact nV k r
theorem fe(kvs:List (κ×V))(k:κ)(v:V):(bH kvs k v).length<=kvs.length+1:=by
 unfold bH
 split
 ·rw[B2];lia
 ·rw[JG,Kq,Ln];lia
theorem RelO.isSome_eq{o:Option V}{u:Option h6}(r:RelO o u):o.isSome=u.isSome:=by
 cases o with
 | none=>cases u with
   |none=>rfl
   |some _=>exact(show False from r).elim
 | some _=>cases u with
   |none=>exact(show False from r).elim
   |some _=>rfl
theorem RelO.getD{o:Option V}{u:Option h6}{d:V}{d':h6}(r:RelO o u)(rd:RelV d d'):RelV (o.getD d) (u.getD d'):=by
 cases o with
 | none=>cases u with
   |none=>exact rd
   |some _=>exact(show False from r).elim
 | some _=>cases u with
   |none=>exact(show False from r).elim
   |some _=>exact r
theorem KV.val{kvs:List (κ×V)}{vs:List (κ×h6)}(r:KV kvs vs)(k:κ):RelO (bK kvs k) (Qq vs k):=by
 unfold KV at r
 induction r with
 |nil=>exact LX
 |@cons p q ps qs h t ih=>
  obtain⟨h1,h2⟩:=h
  by_cases e:p.1=k
  ·have e':q.1=k:=h1.symm.trans e;have b:Qq (q::qs) k=S q.2:=by simp[Qq,Lm,e']
   rw[fT e,b];exact h2
  ·have e':¬q.1=k:=λz=>e (h1.trans z);have b:Qq (q::qs) k=Qq qs k:=by simp[Qq,Lm,e']
   rw[fU e,b];exact ih
theorem KV.any{kvs:List (κ×V)}{vs:List (κ×h6)}(r:KV kvs vs)(k:κ):(kvs.any λkv=>decide (kv.1=k))=vs.any λkv=>decide (kv.1=k):=by
 unfold KV at r
 induction r with
 |nil=>rfl
 |cons h t ih=>rw[LJ,LJ,ih,h.1]
theorem KV.repl{kvs:List (κ×V)}{vs:List (κ×h6)}(r:KV kvs vs)(k:κ)(ry:RelV y u):
 KV (kvs.map λkv=>if kv.1=k then(kv.1,y)else kv) (vs.map λkv=>if kv.1=k then(kv.1,u)else kv):=by
 unfold KV at r⊢
 induction r with
 |nil=>exact .nil
 |@cons p q ps qs h t ih=>
  rw[K7,K7];refine .cons ?_ ih;obtain⟨h1,h2⟩:=h
  by_cases e:p.1=k
  ·rw[if_pos e,if_pos (h1.symm.trans e)];exact⟨h1,ry⟩
  ·rw[if_neg e,if_neg (λz=>e (h1.trans z))];exact⟨h1,h2⟩
theorem KV.put{kvs:List (κ×V)}{vs:List (κ×h6)}(r:KV kvs vs)(k:κ)(ry:RelV y u):KV (bH kvs k y) (stored vs k u):=by
 unfold bH stored;rw[r.any k]
 by_cases e:(vs.any λkv=>decide (kv.1=k))=Uo
 ·rw[if_pos e,if_pos e];exact r.repl k ry
 ·rw[if_neg e,if_neg e];exact Paired.snoc r ⟨rfl,ry⟩
theorem KV.drop{kvs:List (κ×V)}{vs:List (κ×h6)}(r:KV kvs vs)(k:κ):KV (bX kvs k) (without vs k):=by
 unfold KV at r⊢;unfold bX without
 induction r with
 |nil=>exact .nil
 |@cons p q ps qs h t ih=>
  obtain⟨h1,h2⟩:=h;rw[Q5,Q5]
  by_cases e:p.1=k
  ·have a:¬decide (p.1≠k)=Uo:=by simp[e]
   have b:¬decide (q.1≠k)=Uo:=by simp[h1.symm.trans e]
   rw[if_neg a,if_neg b];exact ih
  ·have e':¬q.1=k:=λz=>e (h1.trans z);have a:decide (p.1≠k)=Uo:=by simp[e]
   have b:decide (q.1≠k)=Uo:=by simp[e']
   rw[if_pos a,if_pos b];exact .cons ⟨h1,h2⟩ ih
theorem Ul{kvs:List (κ×V)}{vs:List (κ×h6)}(r:KV kvs vs):kvs.map (·.1)=vs.map (·.1):=by
 unfold KV at r
 induction r with
 |nil=>rfl
 |cons h t ih=>rw[K7,K7,ih,h.1]
theorem KV.length{kvs:List (κ×V)}{vs:List (κ×h6)}(r:KV kvs vs):kvs.length=vs.length:=Mb r
theorem nW(kvs:List (κ×V))(k:κ):(bX kvs k).length<=kvs.length:=Nf _ _
end
theorem dD{k:Key}(r:RelV (kV k) u):(aH P w).is k u=Uo:=by
 cases k with
 |inl i=>obtain⟨t,e⟩:=(show ∃t,u=N9 i t from r);subst e;exact qG P w i t
 |inr x=>obtain⟨t,e⟩:=(show ∃t,u=PY x t from r);subst e;exact qH P w x t
theorem lg{P:JR}{w:K8}:∀{ks:List Key} {us:List h6},Vals (ks.map kV) us->ItemsAre (aH P w) ks us
 |[],_,r=>by rw[LZ]at r;cases r;exact .nil
 |k::ks,_,r=>by
  rw[K7]at r
  cases r with
  |cons h t=>exact .cons (dD h) (lg t)
noncomputable abbrev KT(H:Hp):List (List Key×V)->List (List Key×Uq×h6)->Prop:=Kv λp q=>p.1=q.1/\H q.2.1=S (.tup (p.1.map kV))/\RelV p.2 q.2.2
theorem KT.val(r:KT H kvs xs)(k:List Key):RelO (bK kvs k) ((SS xs k).map (·.2)):=by
 induction r with
 |nil=>exact LX
 |@cons p q ps qs h t ih=>
  obtain⟨h1,_,h2⟩:=h
  by_cases e:p.1=k
  ·have e':q.1=k:=h1.symm.trans e;have b:SS (q::qs) k=S q.2:=by simp[SS,Lm,e']
   rw[fT e,b];exact h2
  ·have e':¬q.1=k:=λz=>e (h1.trans z);have b:SS (q::qs) k=SS qs k:=by simp[SS,Lm,e']
   rw[fU e,b];exact ih
theorem KT.repl(r:KT H kvs xs)(k:List Key)(ry:RelV y u):
 KT H (kvs.map λkv=>if kv.1=k then(kv.1,y)else kv) (xs.map (putAt k u)):=by
 induction r with
 |nil=>exact .nil
 |@cons p q ps qs h t ih=>
  rw[K7,K7];refine .cons ?_ ih;obtain⟨h1,h2,j⟩:=h;unfold putAt
  by_cases e:p.1=k
  ·rw[if_pos e,if_pos (h1.symm.trans e)];exact⟨h1,h2,ry⟩
  ·rw[if_neg e,if_neg (λz=>e (h1.trans z))];exact⟨h1,h2,j⟩
theorem KT.put(r:KT H kvs xs)(k:List Key)(j:H b=S (.tup (k.map kV)))(ry:RelV y u):
 KT H (bH kvs k y) (storedH xs k b u):=by
 have e:(kvs.any λkv=>decide (kv.1=k))=(SS xs k).isSome:=by rw[nV,(r.val k).isSome_eq,Mt]
 unfold bH storedH;rw[e]
 by_cases q:(SS xs k).isSome=Uo
 ·rw[if_pos q,if_pos q];exact r.repl k ry
 ·rw[if_neg q,if_neg q];exact Paired.snoc r ⟨rfl,j,ry⟩
theorem KT.keeps(r:KT H kvs xs)(j:∀b ys,H b=S (.tup ys)->H' b=S (.tup ys)):KT H' kvs xs:=U0 r λ_ _ z=>⟨z.1,j _ _ z.2.1,z.2.2⟩
section
variable{P:JR}{w:K8}{H:Hp}{h:Heap}{a:Uq}
theorem zn{u:HO}(ok:HOk P w H h)(e:Rd H a u):ObjOk P w H h a u:=e.ok ok
theorem gW{kvs:List (Key×V)}(ok:HOk P w H h)(e:Rd H a (.dK kvs)):kvs.length<=D2/\(a==KG)=Up/\∃vs,KV kvs vs/\h.DictOf (aH P w) a vs:=show ObjOk P w H h a (.dK kvs)from zn ok e
theorem gX{kvs:List (Key×V)}(ok:HOk P w H h)(e:H a=S (.dK kvs)):kvs.length<=D2/\(a==KG)=Up/\∃vs,KV kvs vs/\h.DictOf (aH P w) a vs:=gW ok (.inl e)
theorem fw{ks:List Key}(ok:HOk P w H h)(e:H a=S (.tup (ks.map kV))):(P6 (aH P w)).is h ks a:=by obtain⟨_,its,r,o,h1,h2,n,j⟩:=(show ObjOk P w H h a (.tup (ks.map kV))from ok a _ e);exact⟨o,its.toArray,n,h1,h2,j,by simpa using lg r⟩
theorem gY(ok:HOk P w H h)(e:Rd H a (.dT kvs)):kvs.length<=D2/\(a==KG)=Up /\
 ∃xs,KT H kvs xs/\h.DictOfH (P6 (aH P w)) a xs:=by
 obtain⟨z,y,xs,r,o,es,ep,h1,h2,j,F,J⟩:=(show ObjOk P w H h a (.dT kvs)from zn ok e);refine⟨z,y,xs,r,o,es,ep,h1,h2,j,F,λx hx=>?_,J⟩;have all:∀{l:List (List Key×V)} {m:List (List Key×Uq×h6)},KT H l m->∀x∈m,(P6 (aH P w)).is h x.1 x.2.1:=by
  intro l m q
  induction q with
  |nil=>intro x hx;exact nomatch hx
  |@cons p q ps qs hq t ih=>
   intro x hx
   rcases JS.mp hx with e|hx
   ·subst e;exact fw ok (by rw[<-hq.1];exact hq.2.1)
   ·exact ih x hx
 exact all r x hx
theorem DA(ok:HOk P w H h)(e:H a=S (.dT kvs)):kvs.length<=D2/\(a==KG)=Up /\
 ∃xs,KT H kvs xs/\h.DictOfH (P6 (aH P w)) a xs:=gY ok (.inl e)
end
def DGet(H:Hp)(a:Uq)(y:V)(r:Option V):Prop:=(∃kvs k,Rd H a (.dK kvs)/\y=kV k/\r=bK kvs k)∨∃kvs k b,Rd H a (.dT kvs)/\y=.ref b/\H b=S (.tup (k.map kV))/\r=bK kvs k
def DPut(H:Hp)(a:Uq)(y v:V)(H':Hp):Prop:=
 (∃kvs k,H a=S (.dK kvs)/\y=kV k/\kvs.length<D2/\H'=upd H a (.dK (bH kvs k v))) ∨
 ∃kvs k b,H a=S (.dT kvs)/\y=.ref b/\H b=S (.tup (k.map kV))/\kvs.length<D2/\H'=upd H a (.dT (bH kvs k v))
theorem DGet.k{kvs:List (Key×V)}{k:Key}(e:H a=S (.dK kvs)):DGet H a (kV k) (bK kvs k):=.inl ⟨kvs,k,.inl e,rfl,rfl⟩
theorem DGet.t{k:List Key}(e:H a=S (.dT kvs))(eb:H b=S (.tup (k.map kV))):DGet H a (.ref b) (bK kvs k):=.inr ⟨kvs,k,b,.inl e,rfl,eb,rfl⟩
theorem DPut.k{kvs:List (Key×V)}{k:Key}(e:H a=S (.dK kvs))(j:kvs.length<D2):DPut H a (kV k) v (upd H a (.dK (bH kvs k v))):=.inl ⟨kvs,k,e,rfl,j,rfl⟩
theorem DPut.t{k:List Key}(e:H a=S (.dT kvs))(eb:H b=S (.tup (k.map kV)))(j:kvs.length<D2):DPut H a (.ref b) v (upd H a (.dT (bH kvs k v))):=.inr ⟨kvs,k,b,e,rfl,eb,j,rfl⟩
section
variable{X:Cx}{pins:List (Uq×Obj)}{σ:St}{H:Hp}{s:i4}{a:Uq}{y v:V}{u r:h6}{o:Option V}{A:K2}{E:h6->i4->Prop}
theorem Inv.big(I:Inv X pins σ H s):KG<s.heap.objs.size:=by have h:KR<s.heap.objs.size:=(I.mod.glob.keeps I.bk).lt;exact RY (by decide) h
theorem uH{Q:h6->i4->Prop}(F:A.units+1<Mj)(I:Inv X pins σ H s)(g:DGet H a y (S v))(ry:RelV y u)(h:∀w' s',Inv X pins σ H s'->RelV v w'->Q w' s'):
 JK (model X.prog X.w) A (Tn (.ref a) u) Q E s:=by
 rcases g with⟨kvs,k,e,ey,l⟩|⟨kvs,k,b,e,ey,eb,l⟩
 ·subst ey;obtain⟨z,hd,vs,rel,dd⟩:=gW I.hok e;obtain⟨w',hw,rw'⟩:=U6 (v:=v) (o:=Qq vs k) (by rw[l];exact rel.val k)
  exact wpAny_getItem_of (dD ry) dd.mapOf hw (h w' _ (I.tok _) rw')
 ·subst ey
  cases(show u=K3 b from ry)
  obtain⟨z,hd,xs,rel,dd⟩:=gY I.hok e;obtain⟨w',hw,rw'⟩:=U6 (v:=v) (o:=(SS xs k).map (·.2)) (by rw[l];exact rel.val k)
  obtain⟨p,J,j⟩:=Option.map_eq_some_iff.mp hw;refine wpAny_getItem_heap (MX F) (fw I.hok eb) dd J ?_;rw[j];exact h w' _ (I.tok _) rw'
theorem ES{Q:h6->i4->Prop}(j:A.units+1<Mj)(I:Inv X pins σ H s)(g:DGet H a y o)(ry:RelV y u)(h:∀s',Inv X pins σ H s'->Q (.bool o.isSome) s'):
 JK (model X.prog X.w) A (Kb .In u (.ref a)) Q E s:=by
 rcases g with⟨kvs,k,e,ey,l⟩|⟨kvs,k,b,e,ey,eb,l⟩
 ·subst ey;obtain⟨z,hd,vs,rel,dd⟩:=gW I.hok e;refine wpAny_in_of (dD ry) hd dd.mapOf ?_;rw[<-(rel.val k).isSome_eq,<-l];exact h _ (I.tok _)
 ·subst ey
  cases(show u=K3 b from ry)
  obtain⟨z,hd,xs,rel,dd⟩:=gY I.hok e;refine wpAny_in_heap (MX j) (fw I.hok eb) hd dd ?_;have q:=(rel.val k).isSome_eq;rw[Mt]at q;rw[<-q,<-l];exact h _ (I.tok _)
theorem zY{Q:h6->i4->Prop}(j:A.units+1<Mj)(I:Inv X pins σ H s)(g:DGet H a y o)(ry:RelV y u)(h:∀s',Inv X pins σ H s'->Q (.bool (!o.isSome)) s'):
 JK (model X.prog X.w) A (Kb .NotIn u (.ref a)) Q E s:=by
 rcases g with⟨kvs,k,e,ey,l⟩|⟨kvs,k,b,e,ey,eb,l⟩
 ·subst ey;obtain⟨z,hd,vs,rel,dd⟩:=gW I.hok e;refine wpAny_notIn_of (dD ry) hd dd.mapOf ?_;rw[<-(rel.val k).isSome_eq,<-l];exact h _ (I.tok _)
 ·subst ey
  cases(show u=K3 b from ry)
  obtain⟨z,hd,xs,rel,dd⟩:=gY I.hok e;refine wpAny_notIn_heap (MX j) (fw I.hok eb) hd dd ?_;have q:=(rel.val k).isSome_eq;rw[Mt]at q;rw[<-q,<-l];exact h _ (I.tok _)
theorem fA{ob:HO}(I:Inv X pins σ H s)(mu:Mut (H a))(hs:L6 a s.heap h')(he:∃q,h'.get? a=S q)(new:ObjOk X.prog X.w (upd H a ob) h' a ob):
 Inv X pins σ (upd H a ob) {s with heap:=h',toks:=t'}:=
 I.write (x:=a) (e:=a) mu (.inl rfl) (λb q j z=>(hs.2 b j).trans z) he new
theorem jg{kvs:List (Key×V)}{vs:List (Key×h6)}(z:kvs.length<=D2)(hd:(a==KG)=Up)(rel:KV kvs vs)(dd:h'.DictOf (aH P w) a vs):ObjOk P w H' h' a (.dK kvs):=⟨z,hd,vs,rel,dd⟩
theorem uI{Q:Unit->i4->Prop}(L:A.units+1<Mj)(I:Inv X pins σ H s)(g:DPut H a y v H')(ry:RelV y u)(rv:RelV v r)(h:∀s',Inv X pins σ H' s'->Q () s'):
 JK (model X.prog X.w) A (setItem (.ref a) u r) Q E s:=by
 rcases g with⟨kvs,k,e,ey,l,eH⟩|⟨kvs,k,b,e,ey,eb,l,eH⟩
 ·subst ey eH;obtain⟨z,hd,vs,rel,dd⟩:=gX I.hok e;have F:vs.length<=D2:=by rw[<-rel.length];exact z
  have J:(bH kvs k v).length<=D2:=by have:=fe kvs k v;lia
  refine wpAny_setItem_pairs (hsz:=F) (dD ry) dd λh' dd' hs=>h _ ?_;have he:∃q,h'.get? a=S q:=let⟨q,_,_,j,_⟩:=dd'; ⟨q,j⟩;exact fA I (by rw[e];exact LX) hs he (jg J hd (rel.put k rv) dd')
 ·subst ey eH
  cases(show u=K3 b from ry)
  obtain⟨z,hd,xs,rel,dd⟩:=DA I.hok e;have F:xs.length<=D2:=by rw[<-Mb rel];exact z
  have J:(bH kvs k v).length<=D2:=by have:=fe kvs k v;lia
  refine wpAny_setItem_heap (hsz:=F) (MX L) (fw I.hok eb) dd λh' dd' hs=>h _ ?_;obtain⟨q,es,ep,j,h2,O,U,_,Y⟩:=dd';refine fA I (by rw[e];exact LX) hs ⟨q,j⟩ ⟨J,hd,_,(rel.put k eb rv).keeps λc ys ec=>?_,q,es,ep,j,h2,O,U,Y⟩
  rw[aj (Dl ec e (λz=>nomatch z))];exact ec
end
section
variable{X:Cx}{pins:List (Uq×Obj)}{σ:St}{H:Hp}{s:i4}{a:Uq}{kvs:List (Key×V)}{k:Key}{u:h6}{A:K2}{E:h6->i4->Prop}
theorem uJ{Q:Unit->i4->Prop}(I:Inv X pins σ H s)(e:H a=S (.dK kvs))(ry:RelV (kV k) u)(l:(bK kvs k).isSome=Uo)(h:∀s',Inv X pins σ (upd H a (.dK (bX kvs k))) s'->Q () s'):
 JK (model X.prog X.w) A (delItem (.ref a) u) Q E s:=by
 obtain⟨z,hd,vs,rel,dd⟩:=gX I.hok e;refine wpAny_delItem_slot dd.typeIs (by decide) Po
  (P0 Po dd.typeIs PySem.F.entry_dict_delitem (PySem.F.args_dict_delitem_2 _ _) (meets_dict_delitem_pairs (aH X.prog X.w) a (dD ry)) ⟨vs,dd,by rw[<-rel.length];exact z,by rw[<-(rel.val k).isSome_eq];exact l,λh' dd' hs=>h _ ?_⟩)
 have he:∃q,h'.get? a=S q:=let⟨q,_,_,j,_⟩:=dd'; ⟨q,j⟩;exact fA I (by rw[e];exact LX) hs he (jg (Ka (nW kvs k) z) hd (rel.drop k) dd')
theorem DB{more:List h6}{Q:h6->i4->Prop}(I:Inv X pins σ H s)(e:H a=S (.dK kvs))(ry:RelV (kV k) u)(l:bK kvs k=S v)(hm:more=[]∨∃x,more=[x])(h:∀w' s',Inv X pins σ (upd H a (.dK (bX kvs k))) s'->RelV v w'->Q w' s'):JK (model X.prog X.w) A (call (.builtin "dict.pop") (.ref a::u::more)) Q E s:=by
 obtain⟨z,hd,vs,rel,dd⟩:=gX I.hok e;obtain⟨w',hw,rw'⟩:=U6 (v:=v) (o:=Qq vs k) (by rw[<-l];exact rel.val k)
 have j:(keyPart u).isSome=Uo:=by
  cases k with
  |inl i=>obtain⟨t,q⟩:=(show ∃t,u=N9 i t from ry);subst q;rfl
  |inr x=>obtain⟨t,q⟩:=(show ∃t,u=PY x t from ry);subst q;rfl
 have J:argsOk "dict.pop" ⟨.ref a::u::more,[]⟩:=by
  rcases hm with q|⟨x,q⟩
  ·subst q;exact PySem.F.args_dict_pop_2 _ _
  ·subst q;exact PySem.F.args_dict_pop_3 _ _ _
 refine P0 QE dd.typeIs PySem.F.entry_dict_pop J (meets_dict_pop_there (aH X.prog X.w) a (dD ry) more hm j)
  ⟨vs,w',dd,by rw[<-rel.length];exact z,hw,λh' dd' hs=>h w' _ ?_ rw'⟩
 have he:∃q,h'.get? a=S q:=let⟨q,_,_,L,_⟩:=dd'; ⟨q,L⟩;exact fA I (by rw[e];exact LX) hs he (jg (Ka (nW kvs k) z) hd (rel.drop k) dd')
end
noncomputable def DC(td ty:TE):TS:=λD σ H=>td σ H λx H1=>ty σ H1 λy H2=>∃a kvs k,x=.ref a/\H2 a=S (.dK kvs)/\y=kV k/\(bK kvs k).isSome=Uo/\D.nx σ (upd H2 a (.dK (bX kvs k)))
section
variable{X:Cx}{o i e value:Expr}{pos pos' tpos:Pos}{td ty tv:TE}
theorem zZ(ho:PE X o td)(hi:PE X i ty):PS X (.Delete [.Subscript o i tpos] pos) (DC td ty):=by intro pins s σ H D I h;refine wpAny_Delete (wpAny_deleteEach_cons (wpAny_delete_Subscript (thn (ho pins s σ H _ I h) λu s1 ⟨x,H1,j,rx,z⟩=>thn (hi pins s1 σ H1 _ j z) λiv s2 F=>?_)));obtain⟨y,H2,J,ry,a,kvs,k,ex,e,ey,l,L⟩:=F;subst ex ey;obtain rfl:u=K3 a:=rx;exact uJ J e ry l λs3 O=>wpAny_deleteEach_nil ⟨σ,_,O,L⟩
end
theorem nX(h:Heap)(j:KG<h.objs.size):ObjOk P w H (h.push {cls:=.type "dict",data:=.dict #[]}) h.objs.size (.dK []):=⟨LM _,beq_eq_false_iff_ne.mpr (Ne.symm (K6 j)),[],.nil,Heap.DictOf.new h⟩
theorem xh(h:Heap)(j:KG<h.objs.size):ObjOk P w H (h.push {cls:=.type "dict",data:=.dict #[]}) h.objs.size (.dT []):=⟨LM _,beq_eq_false_iff_ne.mpr (Ne.symm (K6 j)),[],.nil,_,#[],0,JW _ rfl,⟨rfl,rfl,rfl⟩,rfl,rfl,List.nodup_nil⟩
noncomputable def BX:TE:=λ_ H Q=>∀p,H p=Z->Q (.ref p) (upd H p (.dK []))
noncomputable def BY:TE:=λ_ H Q=>∀p,H p=Z->Q (.ref p) (upd H p (.dT []))
section
variable{X:Cx}{pos:Pos}
theorem xi:PE X (.Dict [] [] pos) BX:=λpins s σ H Q I h=>Su ⟨.ref s.heap.objs.size,_,I.laid (a:=s.heap.objs.size) (o:=.dK []) (t':=s.toks) (λ_ _ q=>n6 _ q) (JL _) (nX s.heap I.big),rfl,h _ (I.hok.fresh (JL _))⟩
theorem xj:PE X (.Dict [] [] pos) BY:=λpins s σ H Q I h=>Su ⟨.ref s.heap.objs.size,_,I.laid (a:=s.heap.objs.size) (o:=.dT []) (t':=s.toks) (λ_ _ q=>n6 _ q) (JL _) (xh s.heap I.big),rfl,h _ (I.hok.fresh (JL _))⟩
end
noncomputable def uK:List (TE×TE)->St->Hp->(List (V×V)->Hp->Prop)->Prop
 |[],_,H,Q=>Q [] H
 |(tk,tv)::r,σ,H,Q=>tk σ H λx H1=>tv σ H1 λy H2=>uK r σ H2 λps H3=>Q ((x,y)::ps) H3
noncomputable abbrev VV:List (V×V)->List (h6×h6)->Prop:=Kv λp q=>RelV p.1 q.1/\RelV p.2 q.2
def PPs(X:Cx)(pos:Pos)(keys:List (Option Expr))(values:List Expr)(trs:List (TE×TE)):Prop:=
 ∀(pins:List (Uq×Obj)) (s:i4) (σ:St) (H:Hp) (Q:List (V×V)->Hp->Prop),Inv X pins σ H s->uK trs σ H Q->
  JK (model X.prog X.w) X.A (evalPairs (pairTrees keys values X.env pos)) (λvs s'=>∃ps H',Inv X pins σ H' s'/\VV ps vs/\Q ps H') X.xe s
theorem A0:PPs X pos [] [] []:=λpins s σ H Q I h=>pairTrees_nil_walk ⟨[],H,I,.nil,h⟩
noncomputable def di(kvs more:List (Key×V)):List (Key×V):=more.foldl (λacc kv=>bH acc kv.1 kv.2) kvs
theorem KV.merge:∀{more:List (Key×V)} {rs:List (Key×h6)} {kvs:List (Key×V)} {vs:List (Key×h6)},KV more rs->KV kvs vs->KV (di kvs more) (merged vs rs):=by
 intro more rs kvs vs r;unfold KV at r
 induction r generalizing kvs vs with
 |nil=>intro q;exact q
 |@cons p q ps qs h t ih=>
  intro j;have e:KV (bH kvs p.1 p.2) (stored vs q.1 q.2):=by have:=j.put p.1 h.2;rw[<-h.1];exact this
  exact ih e
theorem gm:∀(more kvs:List (Key×V)),(di kvs more).length<=kvs.length+more.length
 |[],kvs=>by show kvs.length<=kvs.length+0;lia
 |p::r,kvs=>by have h1:=gm r (bH kvs p.1 p.2);have h2:=fe kvs p.1 p.2;show(di (bH kvs p.1 p.2) r).length<=_;rw[Kq];lia
theorem jh{P:JR}{w:K8}:∀{kvs:List (Key×V)} {ws:List (h6×h6)},VV (kvs.map λkv=>(kV kv.1,kv.2)) ws->∃rs,Carries (aH P w) ws rs/\KV kvs rs
 |[],_,r=>by rw[LZ]at r;cases r;exact⟨[],LX,.nil⟩
 |p::kvs,_,r=>by
  rw[K7]at r
  cases r with
  |@cons a b as bs h t=>obtain⟨rs,c,q⟩:=jh (P:=P) (w:=w) t;obtain⟨z,j⟩:=b;exact⟨(p.1,j)::rs,⟨dD h.1,rfl,c⟩,.cons ⟨rfl,h.2⟩ q⟩
structure M1(X:Cx)(o:Expr)(m:Str)(apos:Pos)(e:Expr)(cpos:Pos):Prop where
 base:Nb o m X.env (eval o X.env)=eval o X.env
 few:((LA cpos (JU [e] X.env)).all (λx=>!x.1)&&(Q4 cpos (O3 [] X.env)).all (λx=>x.1.isSome)
  && decide (([e]:List Expr).length+([]:List Oa).length+(if([]:List Oa).isEmpty then 0 else 1)<30))=Uo
 line:(apos.endLine==cpos.line)=Uo
 trees:LA cpos (JU [e] X.env)=[(Up,eval e X.env)]
structure M2(X:Cx)(o:Expr)(m:Str)(apos:Pos)(e f:Expr)(cpos:Pos):Prop where
 base:Nb o m X.env (eval o X.env)=eval o X.env
 few:((LA cpos (JU [e,f] X.env)).all (λx=>!x.1)&&(Q4 cpos (O3 [] X.env)).all (λx=>x.1.isSome)
  && decide (([e,f]:List Expr).length+([]:List Oa).length+(if([]:List Oa).isEmpty then 0 else 1)<30))=Uo
 line:(apos.endLine==cpos.line)=Uo
 trees:LA cpos (JU [e,f] X.env)=[(Up,eval e X.env),(Up,eval f X.env)]
def IsD(H:Hp)(a:Uq):Prop:=(∃kvs,Rd H a (.dK kvs))∨∃kvs,Rd H a (.dT kvs)
theorem ji(I:Inv X pins σ H s)(d:IsD H a):
 s.TypeIs (.ref a) "dict"/\(∀b,K3 a=.ref b->∃ob,s.heap.get? b=S ob/\ob.dict=Z)/\(a==KG)=Up:=by
 rcases d with⟨kvs,e⟩|⟨kvs,e⟩
 ·obtain⟨_,hd,vs,_,dd⟩:=gW I.hok e;refine⟨dd.typeIs,λb q=>?_,hd⟩
  cases q
  obtain⟨ob,_,_,h1,h2,_⟩:=dd;exact⟨ob,h1,h2.2.1⟩
 ·obtain⟨_,hd,xs,_,dd⟩:=gY I.hok e;refine⟨dd.typeIs,λb q=>?_,hd⟩
  cases q
  obtain⟨ob,_,_,h1,h2,_⟩:=dd;exact⟨ob,h1,h2.2.1⟩
section
variable{X:Cx}{pins:List (Uq×Obj)}{σ:St}{H:Hp}{s:i4}{a:Uq}{y d:V}{u r:h6}{o:Option V}{A:K2}{E:h6->i4->Prop}
theorem BZ{Q:h6->i4->Prop}(j:A.units+1<Mj)(I:Inv X pins σ H s)(g:DGet H a y o)(ry:RelV y u)(rd:RelV d r)(h:∀w' s',Inv X pins σ H s'->RelV (o.getD d) w'->Q w' s'):
 JK (model X.prog X.w) A (call (.builtin "dict.get") [.ref a,u,r]) Q E s:=by
 rcases g with⟨kvs,k,e,ey,l⟩|⟨kvs,k,b,e,ey,eb,l⟩
 ·subst ey;obtain⟨z,hd,vs,rel,dd⟩:=gW I.hok e;refine P0 Ol dd.typeIs Qr (Q6 _ _ _) (meets_dict_get_default (aH X.prog X.w) a (dD ry) hd r) ⟨_,dd.mapOf,h _ _ (I.tok _) ?_⟩;rw[l];exact(rel.val k).getD rd
 ·subst ey
  cases(show u=K3 b from ry)
  obtain⟨z,hd,xs,rel,dd⟩:=gY I.hok e;refine P0 Ol dd.typeIs Qr (Q6 _ _ _) (meetsH_dict_get_default (P6 (aH X.prog X.w)) a b hd r) ⟨MX j,k,xs,fw I.hok eb,dd,h _ _ (I.tok _) ?_⟩;rw[l];exact(rel.val k).getD rd
end
noncomputable def C0(td ty tx:TE):TE:=λσ H Q=>td σ H λx H1=>∃a,x=.ref a/\IsD H1 a/\ty σ H1 λy H2=>tx σ H2 λz H3=>∃o,DGet H3 a y o/\Q (o.getD z) H3
noncomputable def C1(td ty:TE):TE:=λσ H Q=>td σ H λx H1=>∃a,x=.ref a/\IsD H1 a/\ty σ H1 λy H2=>∃kvs k v,H2 a=S (.dK kvs)/\y=kV k/\bK kvs k=S v/\Q v (upd H2 a (.dK (bX kvs k)))
section
variable{X:Cx}{o e f:Expr}{apos cpos:Pos}{td ty tx:TE}
theorem xk(J:X.A.units+1<Mj)(ho:PE X o td)(he:PE X e ty)(hf:PE X f tx)(m:M2 X o "get" apos e f cpos):PE X (.Call (.Attribute o "get" apos) [e,f] [] cpos) (C0 td ty tx):=by
 intro pins s σ H Q I h;refine RZ m.base m.few m.line Q7 Ol PySem.F.type_dict_get (thn (ho pins s σ H _ I h) λu s1 L=>?_);obtain⟨x,H1,j,rx,a,ex,d,O⟩:=L;subst ex;obtain rfl:u=K3 a:=rx;obtain⟨t1,U,_⟩:=ji j d;refine⟨t1,U,?_⟩;rw[m.trees];refine Ob rfl (Nr (NW (thn (he pins s1 σ H1 _ j O) λiv s2 ⟨y,H2,Y,ry,Um⟩=>NW (thn (hf pins s2 σ H2 _ Y Um) λfv s3 ⟨z,H3,I3,rz,ov,g,q3⟩=>Px ?_))))
 exact BZ J I3 g ry rz λw' s4 I4 rw'=>⟨_,H3,I4,rw',q3⟩
theorem xm(ho:PE X o td)(he:PE X e ty)(m:M1 X o "pop" apos e cpos):PE X (.Call (.Attribute o "pop" apos) [e] [] cpos) (C1 td ty):=by intro pins s σ H Q I h;refine RZ m.base m.few m.line Q7 QE PySem.F.type_dict_pop (thn (ho pins s σ H _ I h) λu s1 j=>?_);obtain⟨x,H1,z,rx,a,ex,d,J⟩:=j;subst ex;obtain rfl:u=K3 a:=rx;obtain⟨t1,L,_⟩:=ji z d;refine⟨t1,L,?_⟩;rw[m.trees];refine Ob rfl (Nr (NW (thn (he pins s1 σ H1 _ z J) λiv s2 j=>?_)));obtain⟨y,H2,O,ry,kvs,k,v,ea,ey,l,U⟩:=j;refine Px ?_;subst ey;exact DB O ea ry l (.inl rfl) λw' s3 Y rw'=>⟨v,_,Y,rw',U⟩
end
end
variable{base:Heap}{env:Env}{outer:List Env}{L e:Uq}{cls:h6}
section
structure Exc(h:Heap)(e:Uq)(cls:h6)(hd:Option Uq)(dd:Option Uq:=Z):Prop where
 obj:∃oe vs,h.get? e=S oe/\oe.cls=cls/\oe.dict=dd/\oe.data=.fields vs/\vs[1]?=S (match hd with|none=>Kx|some T=>.ref T)
 way:∀T,hd=S T->T≠e/\∃oT ts,h.get? T=S oT/\oT.data=.fields ts/\ts[3]?=S .none
structure Lft(fs:List Uq)(e:Uq)(hd:Option Uq)(h h':Heap):Prop where
 keep:∀b o,b≠e->S b≠hd->b∉fs->h.get? b=S o->h'.get? b=S o
 slot:∀b o,b≠e->S b≠hd->h.get? b=S o->∃sl,h'.get? b=S {o with slots:=sl}
 lt:h.objs.size<=h'.objs.size
theorem jT(o:Obj)(f:Array h6->Array h6):(o.mapFields f).dict=o.dict:=by
 obtain⟨c,d,dt,sl⟩:=o
 cases dt<;>rfl
section
variable{M:MP}{A:K2}{E:h6->i4->Prop}{s:i4}{dd:Option Uq}
theorem nY{oe:Obj}{vs:Array h6}{head:h6}{b:Bool}{Q:Unit->i4->Prop}(z:A.frames=S (env::outer))(hl:s.heap.FunFrames base (env::outer))(hf:env.frame=S L)(he:s.heap.get? e=S oe)(hc:oe.cls=cls)(F:oe.dict=dd)(hd:oe.data=.fields vs)(J:1<vs.size)(q:∀h' T,Lft (frs (env::outer)) e Z s.heap h'->Exc h' e cls (S T) dd->s.heap.get? T=Z->Q () {s with heap:=h'}):
 JK M A (do let a <-frameOf env;let pl <-entryPlaceOf L b;let t <-R8 head a .none (NH L) .none pl;setField (.ref e) 1 t) (λ_ s'=>JK M A (Q8 (.ref e) Z) Q E s') E s:=by
 have O:e∉frs (env::outer):=λhm=>by obtain⟨_,o,ho,U⟩:=hl.mem hm;rw[he]at ho;cases ho;exact U vs hd
 refine gV (wpAny_frameOf_fun z hl hf λh1 g9=>?_);obtain⟨z1,z2,z3⟩:=g9;refine gV (wpAny_entryPlaceOf λpl Y=>?_);unfold R8 newFields;refine gV (LR ?_ (Y.sizeOk5 _ _ _ _ _));generalize hO:({cls:=.type "traceback",dict:=Z,data:=.fields ([head,.ref L,.none,NH L,.none]++(if pl.isEmpty then JZ 6 Kx else pl)).toArray}:Obj)=oT
 have dT:∃ts,oT.data=.fields ts/\3<ts.size:=⟨_,by rw[<-hO],by simp only[JN,JG,Kq];lia⟩
 clear hO;obtain⟨ts,dT,lT⟩:=dT;have e1:h1.get? e=S oe:=(z2 e O).trans he;have e2:(h1.push oT).get? e=S oe:=n6 _ e1;refine Nt e2 hd J ?_;have nT:h1.objs.size≠e:=Mr (JJ e1);have d3:=Mg hd (·.setIfInBounds 1 (K3 h1.objs.size));have e3:=Kr (Mz (·.setIfInBounds 1 (K3 h1.objs.size))) e2 (LC d3);have t3:((h1.push oT).update e (Mz (·.setIfInBounds 1 (K3 h1.objs.size)))).get? h1.objs.size=S oT:=by rw[Ko _ _ (Ne.symm nT)];exact JW h1 (LC dT)
 unfold Q8;refine gV (Lq e3 d3 (x:=.ref h1.objs.size) (by simp[J]) ?_)
 rw[if_pos (show(K3 h1.objs.size != Kx)=Uo by simp)]
 refine Nt t3 dT lT ?_;have d4:=Mg dT (·.setIfInBounds 3 ((Z:Option Uq).elim Kx λf=>NH f));have t4:=Kr (Mz (·.setIfInBounds 3 ((Z:Option Uq).elim Kx λf=>NH f))) t3 (LC d4);have kp:∀b o,b≠e->h1.get? b=S o->(((h1.push oT).update e (Mz (·.setIfInBounds 1 (K3 h1.objs.size)))).update h1.objs.size (Mz (·.setIfInBounds 3 ((Z:Option Uq).elim Kx λf=>NH f)))).get? b=S o:=λb o j h=>by rw[Ko _ _ (Mr (JJ h)),Ko _ _ (Ne.symm j)];exact n6 _ h
 refine q _ h1.objs.size ⟨λb o j _ Um h=>kp b o j ((z2 b Um).trans h),λb o j _ h=>?_,?_⟩ ⟨⟨_,_,?_,?_,?_,d3,by simp[J]⟩,λT hT=>?_⟩ ?_
 ·obtain⟨sl,h2⟩:=z3 b o h;exact⟨sl,kp b _ j h2⟩
 ·rw[NA,NA,LN,z1];exact Py _
 ·rw[Ko _ _ nT];exact e3
 ·rw[S0];exact hc
 ·rw[jT];exact F
 ·cases hT
  refine⟨nT,_,_,t4,d4,?_⟩;simp[lT]
 ·exact OH (by rw[z1];exact JL _)
theorem rh{hd:Option Uq}{Q:Unit->i4->Prop}(J:A.frames=S (env::outer))(hl:s.heap.FunFrames base (env::outer))(hf:env.frame=S L)(x:Exc s.heap e cls hd dd)(q:∀h' T,Lft (frs (env::outer)) e hd s.heap h'->Exc h' e cls (S T) dd->s.heap.get? T=Z->Q () {s with heap:=h'}):
 JK M A (R7 (.ref e) env) (λ_ s'=>JK M A (Q8 (.ref e) Z) Q E s') E s:=by
 obtain⟨⟨oe,vs,he,hc,O,dv,h1⟩,way⟩:=x;have hz:1<vs.size:=(Nu.mp h1).1;unfold R7;simp only[hf];refine gV (Lq he dv h1 ?_)
 cases hd with
 |none=>
  rw[if_neg (by decide)]
  exact nY J hl hf he hc O dv hz q
 |some T=>
  obtain⟨nT,oT,ts,U,dT,h3⟩:=way T rfl;dsimp only;rw[if_pos (show(K3 T != Kx)=Uo by simp)]
  refine gV (Lq U dT h3 ?_);rw[if_neg (show ¬((Kx==NH L)=Uo) by simp[NH])]
  refine gV (Nt U dT (Nu.mp h3).1 ?_);have ot:∀b,b≠T->(s.heap.update T (Mz (·.setIfInBounds 3 Kx))).get? b=s.heap.get? b:=λb j=>Ko _ _ (Ne.symm j);have nr:∀b o,s.heap.get? b=S o->(∀vs,o.data≠.fields vs)->b≠T:=λb o j hn z=>by rw[z,U]at j;cases j;exact hn ts dT
  refine nY (s:={s with heap:=s.heap.update T (Mz (·.setIfInBounds 3 Kx))}) J (hl.of_keeps λb o j hn=>⟨o,(ot b (nr b o j hn)).trans j,rfl⟩) hf ((ot e (Ne.symm nT)).trans he) hc O dv hz λh' Y l x F=>q h' Y ⟨λb o j hn Um h=>?_,λb o j hn h=>?_,?_⟩ x ?_
  ·exact l.keep b o j (by simp) Um ((ot b λz=>hn (by rw[z])).trans h)
  ·exact l.slot b o j (by simp) ((ot b λz=>hn (by rw[z])).trans h)
  ·have:=l.lt
   rwa[NA]at this
  ·by_cases z:Y=T
   ·subst z;rw[Kr _ U (LC (Mg dT _))]at F;cases F
   ·rw[<-ot Y z];exact F
theorem xo{hd:Option Uq}{Q:Unit->i4->Prop}(j:A.frames=S (env::outer))(z:s.heap.FunFrames base (env::outer))(hf:env.frame=S L)(x:Exc s.heap e cls hd dd)(q:∀h' T,Lft (frs (env::outer)) e hd s.heap h'->Exc h' e cls (S T) dd->s.heap.get? T=Z->Q () {s with heap:=h'}):JK M A (leaving env (.ref e)) Q E s:=by unfold leaving;exact gV (rh j z hf x q)
theorem uL{T:Uq}{Q:Unit->i4->Prop}(x:Exc s.heap e cls (S T) dd)(q:∀h',L6 T s.heap h'->Exc h' e cls (S T) dd->Q () {s with heap:=h'}):JK M A (Q8 (.ref e) Z) Q E s:=by
 obtain⟨⟨oe,vs,he,L,j,dv,h1⟩,way⟩:=x;obtain⟨nT,oT,ts,F,dT,O⟩:=way T rfl;have J:3<ts.size:=(Nu.mp O).1;unfold Q8;refine gV (Lq he dv h1 ?_);rw[if_pos (show(K3 T != Kx)=Uo by simp)]
 refine Nt F dT J ?_;have d4:=Mg dT (·.setIfInBounds 3 ((Z:Option Uq).elim Kx λf=>NH f));have U:=Kr (Mz (·.setIfInBounds 3 ((Z:Option Uq).elim Kx λf=>NH f))) F (LC d4);refine q _ (.update ..) ⟨⟨oe,vs,(Ko _ _ nT).trans he,L,j,dv,h1⟩,λT' z=>?_⟩
 cases z
 exact⟨nT,_,_,U,d4,by simp[J]⟩
end
end
variable{h:Heap}{C:Uq}
section
noncomputable abbrev vbm:List h6:=[.type "ValueError",.type "Exception",.type "BaseException",.type "object"]
theorem A1{K:Frag}{bmB:List h6}{newId:String}(X:K.In h)(q:PQ K C bmB newId=Uo):∃bm N nm qn bs hd sn sub ab col dd k0 k1 k2 k3 k5 mN,
 h.get? C=S (MR nm qn C N bs bm hd sn sub ab col dd k0 k1 k2 k3 k5 newId)/\h.Ns N mN/\mN "__init__"=Z/\S1 h bmB bm:=by
 unfold PQ at q
 split at q
 ·next dd cd sl ho=>
  split at q
  ·next C' bm k0 k1 k2 k3 n k5 hm hs=>
   simp only[i5,beq_iff_eq,Km]at q;obtain⟨⟨⟨⟨⟨rfl,rfl⟩,j⟩,F⟩,hok⟩,z⟩:=q
   cases cd
   cases sl
   dsimp only at hm j hok z hs;subst hm j hs;exact⟨bm,_,_,_,_,_,_,_,_,_,dd,k0,k1,k2,k3,k5,_,X _ _ ho,.of_isNs (Pa X hok),PySem.W.nsMap_none_of_in X hok z,Rx X F⟩
  ·cases q
 ·cases q
end
section
theorem ObjOk.obj{o:HO}(x:ObjOk P w H h a o):∃u,h.get? a=S u:=by
 cases o with
 |lst xs=>obtain⟨_,_,_,_,e⟩:=x;exact⟨_,e⟩
 |tup xs=>obtain⟨_,_,_,_,e,_⟩:=x;exact⟨_,e⟩
 |dK kvs=>obtain⟨_,_,_,_,o,_,_,e,_⟩:=x;exact⟨_,e⟩
 |dT kvs=>obtain⟨_,_,_,_,o,_,_,e,_⟩:=x;exact⟨_,e⟩
 |set F3 n=>obtain⟨o,_,_,_,e,_⟩:=x;exact⟨_,e⟩
 |ins C dx fs=>obtain⟨_,_,_,e,_⟩:=x;exact⟨_,e⟩
 |own y=>exact x
 |xd fs=>obtain⟨_,⟨_,_,_,e,_⟩,_⟩:=x;exact⟨_,e⟩
 |rng lo hi=>obtain⟨_,_,_,e⟩:=x;exact⟨_,e⟩
 |frz ob u=>obtain⟨e,_⟩:=x;exact⟨_,e⟩
 |tbl ps=>exact⟨_,x⟩
 |met f y=>exact⟨_,x⟩
 |ext φ=>obtain⟨_,e,_⟩:=x;exact e
theorem HOk.no(x:HOk P w H h)(n:h.get? a=Z):H a=Z:=by
 cases e:H a with
 |none=>rfl
 |some o=>obtain⟨u,j⟩:=(x a o e).obj;rw[n]at j;cases j
end
variable{i:Nat}{M:MP}{A:K2}
section
section
variable{X:Cx}{pins:List (Uq×Obj)}{σ:St}{H:Hp}{s:i4}
theorem uM{n:Str}{v0:Option h6}{m:Str->Option h6}{tk:Nat}(I:Inv X pins σ H s)(hN:X.N.Nodup)(hi:X.N[i]?=S n)(hk:X.env.scope.names.lookup n=S .local)(hn:s.heap.Ns X.env.locals m)(hm:∀(j:Nat) (y:Str) (v:V),X.N[j]?=S y->σ[j]?=S (S v)->Vis X.env.scope y->∃u,RelV v u/\Bt X.env s.heap m y u)(O:h'.Ns X.env.locals λx=>if x=n then v0 else m x)(hs:L6 X.env.locals s.heap h'):Inv X pins (σ.set i Z) H {s with heap:=h',toks:=tk}:=by
 have U:i<σ.length:=by rw[I.len];exact(JO.mp hi).1
 have cne:=I.cne;have ab:∀b o,X.s₀.heap.get? b=S o->b≠X.env.locals:=λb o e=>K6 (Kc (JJ e) I.ok.above);refine⟨I.ok,I.os,I.bare,⟨λb o e n Y hx=>(hs.2 b (ab b o e)).trans (I.base.keep b o e n Y hx),λb o e n Y hx=>?_,I.base.free,λb o e hx=>?_,I.base.tups,I.base.frzs,I.base.tbls⟩,⟨_,O,λj y v F J e3=>?_⟩,λy c e=>?_,I.free,I.freeC,λp hp=>?_,λa o Um=>?_,by simpa using I.len⟩
 ·obtain⟨sl,F⟩:=I.base.slot b o e n Y hx;exact⟨sl,(hs.2 b (ab b o e)).trans F⟩
 ·obtain⟨o',F⟩:=I.base.there b o e hx;exact⟨o',(hs.2 b (ab b o e)).trans F⟩
 ·have hj:j≠i:=fun z=>by
   rw[z,Ku U]at J;cases J
  rw[Mq (Ne.symm hj)]at J;obtain⟨u,r,q⟩:=hm j y v F J e3;refine⟨u,r,?_⟩
  rcases q with⟨k,e⟩|⟨k,c,e,z⟩
  ·refine .inl ⟨k,?_⟩;have:y≠n:=λe=>hj (iI hN F (e▸hi));simp[this,e]
  ·exact .inr ⟨k,c,e,z.sameBut hs (cne y c e)⟩
 ·obtain⟨w',z⟩:=I.cell y c e;exact⟨w',z.sameBut hs (cne y c e)⟩
 ·obtain⟨e,n,ne,nf,d⟩:=I.pin p hp;exact⟨(hs.2 p.1 ne).trans e,n,ne,nf,d⟩
 ·refine(I.hok a o Um).stay (λc w' L q=>(hs.2 c ?_).trans q) (λ_ q=>q) λ_ _ q=>q;rintro rfl
  rcases L with rfl|L
  ·rw[I.free]at Um;cases Um
  ·rw[I.free]at L;cases L
theorem A2{E:h6->i4->Prop}{n:Str}{Q:Unit->i4->Prop}(I:Inv X pins σ H s)(Um:X.N.Nodup)(hi:X.N[i]?=S n)(hk:X.env.scope.names.lookup n=S .local)(h:∀s',Inv X pins (σ.set i Z) H s'->Q () s'):JK M A (do NL X.env n .none;QO X.env n pos) Q E s:=by
 have j:(X.env.scope.kind==.class || (X.env.scope.kind==.module&&X.env.locals != X.env.globals))=Up:=by rw[I.ok.kind];rfl
 refine gV (Np (bT (v:=.non) I Um hi (.inl hk) rfl (λs1 I1=>?_) (.inr hk)));unfold QO;refine wpAny_onRaise ?_;unfold unbindName;refine gV (SU (gV ?_));unfold deleteName;have F:X.env.kindOf n=S .local:=hk;simp only[F,j];rw[if_neg (by decide)]
 obtain⟨m,hn,hl⟩:=id I1.loc;have L:i<σ.length:=by rw[I.len];exact(JO.mp hi).1
 have O:(m n).isSome=Uo:=by
  obtain⟨u,_,q⟩:=hl i n .non hi (by rw[Ku L]) (.inl hk)
  rcases q with⟨_,e⟩|⟨z,_⟩
  ·rw[e];rfl
  ·rw[F]at z
   rcases z with z|z<;>cases z
 refine gV (wpAny_nsDel_keeps hn λh2 v0 U Y=>?_);rw[O];simp only[if_true,Bool.not_true,KH,if_false];have J:=uM (tk:=s1.toks) I1 Um hi hk hn hl U Y;rw[List.set_set]at J;exact B1 (SU (h _ J))
end
end
section
section
variable{prog:JR}{w:K8}{A:K2}{E:h6->i4->Prop}{h:Heap}{g:Array PZ}{d:Drawn}{t:Nat}{os:Tp}{a C:Uq}{o:Obj}{od:Option Obj}{K:Frag}
theorem uN{tk:Tok}{Q:Fin->i4->Prop}(X:K.In h)(I:Mf h a o C od)(hf:NT K C od "__class__"=S (.bind (.builtin "getset_descriptor.__get__") (.builtin "object.__class__")))(hm:OC K C (.type "object")=S Uo)(j:Q (.done (.ret (.ref C))) ⟨h,g,d,t,os⟩):JK (model prog w) A (MB.«object.__getattribute__» ⟨[.ref a,.str "__class__" tk],[]⟩) Q E ⟨h,g,d,t,os⟩:=by have L0:=I.type (M:=model prog w);have L1:=Ry (M:=model prog w) X I hf;refine gV (B1 (gV (B1 (gV (L0.at (gV (L1.at ?_)))))));show JK _ _ (Pp (.builtin "getset_descriptor.__get__") (.builtin "object.__class__") (.ref a) (.ref C)) _ _ _;unfold Pp;dsimp only;refine gV (KO (Om (PySem.W.class_get X I hm ?_)));exact B1 j
theorem nZ(X:K.In h)(I:Mf h a o C od)(hs:OD K (.ref C) (.type "BaseException")=S Uo)(M:MP)(A:K2)(E:h6->i4->Prop)(nameV:h6)(R:Unit->i4->Prop)(q:R () ⟨h,g,d,t,os⟩):
 JK M A (NB "BaseException.__getattribute__" ⟨[.ref a,nameV],[]⟩) R E ⟨h,g,d,t,os⟩:=by
 have hk:builtinKind "BaseException.__getattribute__"=S .slot:=by decide +kernel
 have j:splitId "BaseException.__getattribute__"=S ("BaseException","__getattribute__"):=by decide +kernel
 have z:=F.args_bexc_ga (.ref a) nameV;have LI:PySem.W.Looks M h (Rz (.ref a) (.type "BaseException")) Uo:=I.type.andThen (R9 X hs);simp only[NB,hk,j];refine gV (LI.at ?_)
 repeat (any_goals (first|assumption|wp_step))
theorem C3{tk:Tok}{fill expr:Bool}{Q:h6->i4->Prop}(X:K.In h)(I:Mf h a o C od)(j:KY K (.ref C) "__getattribute__"=S (S (.builtin "BaseException.__getattribute__")))(z:KY K (.ref C) "__getattr__"=S Z)(hf:NT K C od "__class__"=S (.bind (.builtin "getset_descriptor.__get__") (.builtin "object.__class__")))(hm:OC K C (.type "object")=S Uo)(J:∀(M:MP) (A:K2) (E:h6->i4->Prop) (nameV:h6) (R:Unit->i4->Prop),R () ⟨h,g,d,t,os⟩->JK M A (NB "BaseException.__getattribute__" ⟨[.ref a,nameV],[]⟩) R E ⟨h,g,d,t,os⟩)(O:Q (.ref C) ⟨h,g,d,t,os⟩):JK (model prog w) A (Sv (.ref a) (.str "__class__" tk) fill expr) Q E ⟨h,g,d,t,os⟩:=by
 have L0:=I.type (M:=model prog w);have L1:=Nv (M:=model prog w) X j;have L2:=Nv (M:=model prog w) X z;unfold Sv;refine KO (gV (L0.at (gV (L1.at ?_))));show JK _ _ (OP _ _ _ _ _ _) _ _ _;unfold OP;have U:=F.attrBase_ValueError.ga.bind (.ref a);have L:(expr&&onTheHeap (Value.builtin "BaseException.__getattribute__"))=Up:=by cases expr<;>rfl
 repeat (any_goals (first|assumption|with_reducible refine L2.at ?_|wp_step))
 refine Mu F.attrBase_ValueError.ga.plain Tc (J _ _ _ _ _ (uN X I hf hm ?_))
 repeat (any_goals (first|assumption|wp_step))
structure jU(K:Frag)(C:Uq):Prop where
 ga:KY K (.ref C) "__getattribute__"=S (S (.builtin "BaseException.__getattribute__"))
 gn:KY K (.ref C) "__getattr__"=S Z
 fo:∀od,NT K C od "__class__"=S (.bind (.builtin "getset_descriptor.__get__") (.builtin "object.__class__"))
 mr:OC K C (.type "object")=S Uo
 sb:OD K (.ref C) (.type "BaseException")=S Uo
 cl:(Rg K C).isSome=Uo
theorem og(Um:jU K C):PySem.W.KitX K (.ref a) (.ref C) (λh=>∃o od,Mf h a o C od) where
 ty:=λ_ _ _ ⟨o,_,I⟩=>I.type
 it:=λ_ _ X _=>by
  have j:=Um.cl;unfold Rg at j
  split at j
  ·next c' d' cd' sl' ho=>intro A' Q' E' s' k q;unfold isType loadHead;exact gV (wpAny_loadPart (k _ _ (X _ _ ho)) (B1 q))
  ·cases j
 ne:=λh tp dd its n sl X F=>by
  have j:=Um.cl;refine Bool.eq_false_iff.mpr λq=>?_;have e:C=tp:=K3.inj (beq_iff_eq.mp q);subst e;unfold Rg at j
  split at j
  ·next c' d' cd' sl' ho=>
   have z:=(X _ _ ho).symm.trans F
   cases z
  ·cases j
 ca:=λ{prog w A E Q s} X I k=>by obtain⟨J,g,d,t,os⟩:=s;obtain⟨o,od,I⟩:=I;unfold getAttr? getAttrBy?;refine gV (wpAny_mkText (gV (OE (C3 X I Um.ga Um.gn (Um.fo od) Um.mr (nZ X I Um.sb) ?_))));exact B1 k
end
end
section
noncomputable def Cx.hld(X:Cx)(a:Uq):Cx:={X with A:=X.A.mark (S (.ref a)),calm:=Up,xe:=λ_ _=>False}
section
variable{X:Cx}{pins:List (Uq×Obj)}{σ:St}{H:Hp}{s:i4}{a C:Uq}
theorem Inv.hld(I:Inv X pins σ H s)(a:Uq):Inv (X.hld a) pins σ H s:=⟨⟨I.ok.mod,I.ok.kind,I.ok.glob,I.ok.blt,I.ok.above,I.ok.inj,I.ok.has,I.ok.cab,λz=>(by cases z),I.ok.frames,I.ok.stk,I.ok.exf,I.ok.bs,I.ok.bsz,I.ok.noex,I.ok.exfs,I.ok.funs,I.ok.frf⟩,I.os,I.bare,I.base,I.loc,I.cell,I.free,I.freeC,I.pin,I.hok,I.len⟩
theorem Inv.unhld(I:Inv (X.hld a) pins σ H s)(ok:X.Ok):Inv X pins σ H s:=⟨ok,I.os,I.bare,I.base,I.loc,I.cell,I.free,I.freeC,I.pin,I.hok,I.len⟩
noncomputable def cV:V->h6
 |.ref D=>.ref D
 |.ty T=>.type T
 |_=>.none
noncomputable def isC:V->Bool
 |.ref _=>Uo
 |.ty _=>Uo
 |_=>Up
end
end
variable{es:List Expr}{x:Str}
section
section
variable{M:MP}{A:K2}{E:h6->i4->Prop}{h:Heap}{g:Array PZ}{d:Drawn}{t:Nat}{os:Tp}
theorem qJ{nm' qn':Str}{D N':Uq}{bs' bm':List h6}{z:Bool}{sn':List Str}{sub':List h6}{ab':Bool}{col':Option Bool}{dd':Option Uq}{F J L O U:Option h6}{newId':String}{oe:Obj}{Q:Bool->i4->Prop}(LS:PySem.W.Looks M h (isSubtype (.ref C) (.ref D)) Uo)(hD:h.get? D=S (MR nm' qn' D N' bs' bm' z sn' sub' ab' col' dd' F J L O U newId'))(he:h.get? e=S oe)(j:oe.cls=.ref C)(Um:bm'.contains (.type "BaseException")=Uo)(hq:Q Uo ⟨h,g,d,t,os⟩):JK M A (excMatches (.ref e) (.ref D)) Q E ⟨h,g,d,t,os⟩:=by
 have Y:(K3 D::bm').contains (.type "BaseException")=Uo:=by rw[NY,Um,Qs]
 have f:=tc_notTuple;unfold excMatches
 repeat (first|(with_reducible refine LW he ?_;rw[j])|with_reducible refine LW hD ?_|(with_reducible refine OX hD ?_;rw[Y])|(with_reducible refine LS.at ?_)|wp_step)
 exact hq
end
section
variable{X:Cx}
theorem PA.nox{t:TA}(h:PA X.nox es t):PA X es t:=λpos pins s σ H Q I hw=>Kh (h pos pins s σ H Q (I.wish _) hw) (λ_ _ ⟨vs,H',I',r,q⟩=>⟨vs,H',I'.unwish,r,q⟩) λ_ _ z=>False.elim z
theorem jV(j:Gl X x)(hm:X.mg x=S (.ref C))(hd:(x==("__debug__":Str))=Up):PE X (.Name x pos) (tC (.ref C)):=λpins s σ H Q I h=>cO I j hm ⟨.ref C,H,I,rfl,h⟩ hd
end
end
variable{d:Nat}{ifs:List Expr}{elt target iter:Expr}{gens:List Kz}{scope:Scope}{te:TE}{acc:h6}{g:TG}{wi:TI}
section
noncomputable def bq(elt:Expr)(gens:List Kz)(scope:Scope)(pos:Pos)(d:Nat)(acc:h6)(env:Env)(k:Sem Fin):Sem Fin:=
 match gens[d+1]? with
 |some g'=>eval g'.iter env>>=fun x=>O6 g'.iter.pos>>=fun _=>Lv g'.iter env x>>=fun x=>holding [x] (QK x)>>=fun it'=>runOwn (.compStart (.ListComp elt gens scope pos) (d+1) it' acc env) env>>=λ_=>k
 |none=>(eval elt env>>=λx=>call (.builtin "list.append") [acc,x]>>=λ_=>pure ())>>=λ_=>k
noncomputable def bI(ifs:List Expr)(env:Env):Sem Bool:=forIn ifs Uo λc r=>if r=Uo then do let ok <-isTrue c env (eval c env);pure (N7 ok)else pure (N7 r)
theorem oh(elt target iter:Expr)(ifs:List Expr)(gens:List Kz)(scope:Scope)(pos:Pos)(d:Nat)(it acc:h6)(env:Env)(hd:gens[d]?=S ⟨target,iter,ifs,0⟩)(j:∀g',gens[d+1]?=S g'->g'.is_async=0):
 compTurn (.ListComp elt gens scope pos) d it acc env=(O6 iter.pos>>=λ_=>PN it>>=λr=>match r with
  |none=>pure (.done .next)
  |some v=>ON target it v>>=fun _=>assign target env v>>=fun _=>bI ifs env>>=fun ok=>(if ok=Uo then bq elt gens scope pos d acc env (again (.compLoop (.ListComp elt gens scope pos) d it acc env))else again (.compLoop (.ListComp elt gens scope pos) d it acc env))):=by
 unfold compTurn;simp only[hd];unfold bq bI
 cases hn:gens[d+1]? with
 |none=>rfl
 |some g'=>obtain⟨t',i',f',a'⟩:=g';have e:a'=0:=j _ hn;subst e;rfl
noncomputable abbrev TC:=St->Hp->(St->Hp->Prop)->Prop
def cD(J:It)(g:TG)(tb:TC)(N:St->Hp->Prop)(σ:St)(H:Hp):Prop:=
 ∃W:Nat->Nat->St->Hp->Prop,(∃m,W 0 m σ H)/\∀i m σ H,W i m σ H->
  (J.stop i H/\N σ H)∨(J.go i H/\∃N':St->Hp->Prop,(∀σ' H',N' σ' H'->∃m',m'<m/\W (i+1) m' σ' H')/\∀x H',J.yld i H x H'->g x σ H' λσ2 H2=>tb σ2 H2 N')
def PB(X:Cx)(F:Sem Fin->Sem Fin)(t:TC):Prop:=
 ∀(pins:List (Uq×Obj)) (s:i4) (σ:St) (H:Hp) (N:St->Hp->Prop) (k:Sem Fin) (Q:Fin->i4->Prop) (E:h6->i4->Prop),Inv X pins σ H s->t σ H N->
  (∀s' σ' H',Inv X pins σ' H' s'->N σ' H'->JK (model X.prog X.w) X.A k Q E s')->JK (model X.prog X.w) X.A (F k) Q E s
section
variable{X:Cx}
theorem nox{α:Type}{m:Sem α}{Q:α->i4->Prop}{E:h6->i4->Prop}(hx:∀e s,X.xe e s->False)(h:JK (model X.prog X.w) X.A m Q X.xe s):JK (model X.prog X.w) X.A m Q E s:=Kh h (λ_ _ q=>q) λe s' q=>(hx e s' q).elim
noncomputable def jj(ts:List TT)(tb:TC):TC:=match ts with
 |[]=>tb
 |t::r=>λσ H N=>t σ H λb H1=>if b=Uo then jj r tb σ H1 N else N σ H1
theorem jk{env:Env}{M:MP}{A:K2}{Q:Bool->i4->Prop}{E:h6->i4->Prop}{s:i4}(h:Q Up s):∀ifs:List Expr,
 JK M A (forIn ifs Up λc r=>if r=Uo then do let ok <-isTrue c env (eval c env);pure (N7 ok)else pure (N7 r)) Q E s
 |[]=>B1 h
 |c::r=>by rw[OQ];simp only[KH,if_false];exact gV (B1 (jk h r))
theorem oi(hx:∀e s,X.xe e s->False){tb:TC}{N:St->Hp->Prop}:∀{ifs:List Expr} {ts:List TT},Kv (λc t=>PT X c t) ifs ts->
 ∀(pins:List (Uq×Obj)) (s:i4) (σ:St) (H:Hp) (E:h6->i4->Prop),Inv X pins σ H s->jj ts tb σ H N->
 JK (model X.prog X.w) X.A (bI ifs X.env) (λok s'=>∃H',Inv X pins σ H' s'/\if ok=Uo then tb σ H' N else N σ H') E s
 |_,_,.nil=>λpins s σ H E I h=>B1 ⟨H,I,by rw[if_pos rfl];exact h⟩
 |c::ifs,_,.cons (b:=t) F hr=>by
  intro pins s σ H E I h;have ih:=oi hx hr (tb:=tb) (N:=N) pins;unfold bI at ih⊢;rw[OQ];simp only[if_true];refine gV (gV (nox hx (thn (F pins s σ H _ I h) λb s1 J=>?_)));obtain⟨H1,z,j⟩:=J;refine B1 ?_
  cases b with
  |false=>rw[if_neg q7]at j;exact jk ⟨H1,z,by rw[if_neg q7];exact j⟩ ifs
  |true=>rw[if_pos rfl]at j;exact ih s1 σ H1 E z j
theorem xq(hx:∀e s,X.xe e s->False){F:Sem Fin->Sem Fin}{tb:TC}(J:PB X F tb){ts:List TT}(L:Kv (λc t=>PT X c t) ifs ts):
 PB X (λk=>bI ifs X.env>>=λok=>if ok=Uo then F k else k) (jj ts tb):=by
 intro pins s σ H N k Q E I h hk;refine gV (thn (oi hx L pins s σ H E I h) λok s1 O=>?_);obtain⟨H1,z,j⟩:=O
 cases ok with
 |false=>rw[if_neg q7]at j⊢;exact hk s1 σ H1 z j
 |true=>rw[if_pos rfl]at j⊢;exact J pins s1 σ H1 N k Q E z j hk
noncomputable def zo(p:Uq)(te:TE):TC:=λσ H N=>te σ H λx H1=>∃xs,H1 p=S (.lst xs)/\xs.length<D2/\N σ (upd H1 p (.lst (xs++[x])))
theorem jW(hx:∀e s,X.xe e s->False){p:Uq}(he:PE X elt te)(hd:gens[d+1]?=Z):
 PB X (bq elt gens scope pos d (.ref p) X.env) (zo p te):=by
 intro pins s σ H N k Q E I h hk;unfold bq;rw[hd];refine gV (gV (nox hx (thn (he pins s σ H _ I h) λu s1 j=>?_)));obtain⟨x,H1,z,F,xs,J,l1,L⟩:=j;refine gV (nox hx (thn (kZ (X:=X) pins s1 σ H1 (.ref p) [x] (.ref p) [u] (λ_ H2=>N σ H2) z rfl (.cons F .nil) ⟨p,xs,x,rfl,rfl,J,l1,L⟩) λv s2 j=>?_));obtain⟨_,H2,O,_,U⟩:=j;exact B1 (hk s2 σ H2 O U)
theorem lh(hx:∀e s,X.xe e s->False)(hc:X.calm=Uo)(hd:gens[d]?=S ⟨target,iter,ifs,0⟩)(ha:∀g',gens[d+1]?=S g'->g'.is_async=0)(hg:PG X target g){tb:TC}(j:PB X (λk=>bI ifs X.env>>=λok=>if ok=Uo then bq elt gens scope pos d acc X.env k else k) tb){N:St->Hp->Prop}{it:Uq}{fp:List Uq}{tn:Nat->Heap->Prop}{J:It}(I:Inv X pins σ H s)(T:jQ X.prog X.w X.K target J fp it tn)(t0:tn 0 s.heap)(f2:∀b∈fp,cA X pins H b)(h:cD J g tb N σ H):
 O7 (model X.prog X.w) X.A (.compLoop (.ListComp elt gens scope pos) d (.ref it) acc X.env) (λr s'=>match r with|.ok _=>∃σ' H',Inv X pins σ' H' s'/\N σ' H'|.error _=>False) s:=by
 obtain⟨W,⟨m0,w0⟩,turn⟩:=h;have stat:∀{H':Hp},(∀b∈fp,H' b=Z)->∀b∈fp,cA X pins H' b:=λhn b j=>⟨hn b j,(f2 b j).2⟩;refine codeAny_loop rfl (λn s'=>∃i σ' H',Inv X pins σ' H' s'/\tn i s'.heap/\(∀b∈fp,H' b=Z)/\W i n σ' H') ?_ m0 ⟨0,σ,H,I,t0,λb j=>(f2 b j).1,w0⟩;rintro n s3 ⟨i,σ3,U,I3,L,O,w3⟩;show JK _ _ ((compTurn (.ListComp elt gens scope pos) d (.ref it) acc X.env).onRaise (λx=>do R7 x X.env;theTreesLotGoes x)) _ _ s3
 refine wpAny_noted ?_;rw[oh elt target iter ifs gens scope pos d (.ref it) acc X.env hd ha];refine gV (KP (gV ?_));show JK (model X.prog X.w) X.A _ _ _ s3
 rcases turn i n σ3 U w3 with⟨stop,qn⟩|⟨go,N',hN,step⟩
 ·refine thn (T.done X rfl rfl rfl hc i pins s3 σ3 U _ I3 (stat O) L stop) λr s4 z=>?_;obtain⟨hr,I4⟩:=z;subst hr;exact B1 ⟨σ3,U,I4,qn⟩
 ·refine thn (T.item X rfl rfl rfl hc i pins s3 σ3 U _ I3 (stat O) L go) λr s4 z=>?_;obtain⟨u,hr,h4⟩:=z;subst hr;refine gV (thn h4 λ_ s5 z=>?_);obtain⟨x,H5,I5,r5,y5,F,Y⟩:=z;have Um:=I5.pinned (stat Y) (T.obj _ _ F);refine gV (nox hx (thn (hg _ s5 σ3 H5 x u _ Um r5 (step x H5 y5)) λ_ s6 z=>?_));obtain⟨σ6,H6,I6,q6⟩:=z;refine j _ s6 σ6 H6 N' (again (.compLoop (.ListComp elt gens scope pos) d (.ref it) acc X.env)) _ _ I6 q6 λs7 σ7 H7 I7 n7=>?_;obtain⟨m',hm,w7⟩:=hN σ7 H7 n7;refine B1 ⟨rfl,m',hm,i+1,σ7,H7,I7.unpinned,T.keep _ _ _ F λb j o e=>(I7.pin (b,o) (K1 _ (K1 _ (dB j e)))).1,λb j=>?_,w7⟩;obtain⟨o,e,dd⟩:=T.obj _ _ F b j;exact(I7.pin (b,o) (K1 _ (K1 _ (dB j e)))).2.1
theorem jl {it:h6}{prog:JR}{R:Result->i4->Prop}(hd:gens[d]?=S ⟨target,iter,ifs,0⟩)(h0:O7 (model prog w) A (.compLoop (.ListComp elt gens scope pos) d it acc env) R s)(h:JK (model prog w) A (QK it) (fun it' s'=>O7 (model prog w) A (.compLoop (.ListComp elt gens scope pos) d it' acc env) R s')
   (notedBy (model prog w) A env λx s'=>R (.error x) s') s):
 O7 (model prog w) A (.compStart (.ListComp elt gens scope pos) d it acc env) R s:=by
 refine codeAny_of_tree ?_;show JK _ _ ((compStart (.ListComp elt gens scope pos) d it acc env).onRaise (λx=>do R7 x env;O6 theWindowsPlace)) _ _ s
 refine wpAny_notedAt ?_;unfold compStart;have j:(clausesOf (.ListComp elt gens scope pos))[d]?=S ⟨target,iter,ifs,0⟩:=hd;rw[j];show JK _ _ (ask>>=_) _ _ s;refine gV (wpAny_askSetting (wpAny_ite ?_))
 split
 ·first
   |exact gV (B1 (B1 (Ot rfl h0)))
   |exact B1 (Ot rfl h0)
 ·first
   |exact gV (Me (gV (KP (gV (Kh h (λit' s' h'=>B1 (Ot rfl h')) λ_ _ x=>x)))))
   |(refine gV (Me ?_);show JK _ _ (O6 iter.pos>>=_) _ _ s;exact gV (KP (gV (Kh h (λit' s' h'=>B1 (Ot rfl h')) λ_ _ x=>x))))
theorem lj(hx:∀e s,X.xe e s->False)(z:X.calm=Uo)(hd:gens[d+1]?=S ⟨target,iter,ifs,0⟩)(F:∀g',gens[d+1+1]?=S g'->g'.is_async=0)(hi:PI X target iter wi)(L:PG X target g){tb:TC}(O:PB X (λk=>bI ifs X.env>>=λok=>if ok=Uo then bq elt gens scope pos (d+1) acc X.env k else k) tb)(hs:∀x,Lv iter X.env x=pure x):
 PB X (bq elt gens scope pos d acc X.env) (λσ H N=>wi σ H λJ H1=>cD J g tb N σ H1):=by
 intro pins s σ H N k Q E I h hk;unfold bq;rw[hd];refine gV (nox hx (thn (hi pins s σ H _ I h) λv s1 h1=>?_));refine gV (KP (gV (OJ (hs v) ?_)));refine gV (KO (nox hx (thn h1 λitv s2 h2=>?_)));obtain⟨it,fp,tn,J,H2,e,U,T,j,f2,hw⟩:=h2;subst e;have loop:=lh (acc:=acc) hx z hd F L O U T j f2 hw;refine gV (wpAny_runOwn (MU (jl (R:=λr s'=>match r with|.ok _=>∃σ' H',Inv X pins σ' H' s'/\N σ' H'|.error _=>False) hd loop (T.self _ 0 _ _ _ j loop)) λr s3 hr=>?_))
 cases r with
 |error e=>exact hr.elim
 |ok f=>obtain⟨σ3,Y,Um,n3⟩:=hr;exact hk s3 σ3 Y Um n3
noncomputable def bg(cells:List (Str×Uq)):List (Str×MJ)->List (Str×Uq)->List (Str×Uq)
 |[],acc=>acc
 |(n,k)::r,acc=>if k==.free then(match cells.lookup n with|some c=>bg cells r ((n,c)::acc)|none=>bg cells r acc)else bg cells r acc
theorem iB{env:Env}:∀(names:List (Str×MJ)) (acc:List (Str×Uq)),(∀x∈names,x.2=.free->(env.cells.lookup x.1).isSome=Uo)->
 (forIn names acc λ(x:Str×MJ) (r:List (Str×Uq))=>(match x with|(name,kind)=>if(kind==Ki)=Uo then do let c <-cellOf env name;pure (N7 ((name,c)::r))else pure (N7 r):Sem (ForInStep (List (Str×Uq)))))=(pure (bg env.cells names acc):Sem (List (Str×Uq)))
 |[],acc,_=>rfl
 |(n,k)::r,acc,h=>by
  rw[OQ];have ih:=λacc'=>iB r acc' λx hx=>h x (K5 _ hx);unfold bg
  by_cases hk:(k==Ki)=Uo
  ·obtain⟨c,z⟩:=Ll.mp (h (n,k) Ks (beq_iff_eq.mp hk));have j:env.cells.lookup n=S c:=z;have F:cellOf env n=pure c:=by unfold cellOf;rw[j]
   simp only[hk,if_true,F,j,pure_bind];exact ih _
  ·simp only[hk,if_false,pure_bind];exact ih _
theorem jm(h:∀x∈scope.names,x.2=.free->(env.cells.lookup x.1).isSome=Uo):closureFor scope env=pure (bg env.cells scope.names []):=by unfold closureFor;have e:=iB (env:=env) scope.names [] h;simp only[bind_pure];exact e
theorem dE{cells:List (Str×Uq)}{y:Str}{c:Uq}:∀{names:List (Str×MJ)} {acc:List (Str×Uq)},(y,c)∈bg cells names acc->(y,c)∈acc∨(cells.lookup y=S c/\(y,Ki)∈names)
 |[],acc,h=>.inl h
 |(n,k)::r,acc,h=>by
  unfold bg at h
  by_cases hk:(k==Ki)=Uo
  ·rw[if_pos hk]at h;have J:k=.free:=beq_iff_eq.mp hk;subst J
   cases L:cells.lookup n with
   |none=>
    rw[L]at h
    rcases dE h with z|⟨j,F⟩
    ·exact .inl z
    ·exact .inr ⟨j,K5 _ F⟩
   |some c'=>
    rw[L]at h
    rcases dE h with z|⟨j,F⟩
    ·rcases JS.mp z with e|z
     ·cases e
      exact .inr ⟨L,Ks⟩
     ·exact .inl z
    ·exact .inr ⟨j,K5 _ F⟩
  ·rw[if_neg hk]at h
   rcases dE h with z|⟨j,F⟩
   ·exact .inl z
   ·exact .inr ⟨j,K5 _ F⟩
theorem dF{cells:List (Str×Uq)}{y:Str}{c:Uq}(j:cells.lookup y=S c):∀{names:List (Str×MJ)} {acc:List (Str×Uq)},((y,c)∈acc∨(y,Ki)∈names)->(y,c)∈bg cells names acc
 |[],acc,h=>by
  rcases h with h|h
  ·exact h
  ·simp at h
 |(n,k)::r,acc,h=>by
  unfold bg
  by_cases hk:(k==Ki)=Uo
  ·rw[if_pos hk];have z:k=.free:=beq_iff_eq.mp hk;subst z
   cases hl:cells.lookup n with
   |none=>
    refine dF j ?_
    rcases h with h|h
    ·exact .inl h
    ·rcases JS.mp h with e|h
     ·cases e;rw[hl]at j;cases j
     ·exact .inr h
   |some c'=>
    refine dF j ?_
    rcases h with h|h
    ·exact .inl (K5 _ h)
    ·rcases JS.mp h with e|h
     ·cases e;rw[hl]at j;cases j;exact .inl Ks
     ·exact .inr h
  ·rw[if_neg hk];refine dF j ?_
   rcases h with h|h
   ·exact .inl h
   ·rcases JS.mp h with e|h
    ·cases e;exact absurd rfl hk
    ·exact .inr h
theorem dw:∀(names:List (Str×MJ)) (n:Nat) (acc acc':List (Str×Uq)),LU n names (acc++acc')=LU n names acc++acc'
 |[],_,_,_=>rfl
 |(x,k)::r,n,acc,acc'=>by
  unfold LU
  by_cases hk:(k==LK)=Uo
  ·rw[if_pos hk,if_pos hk];exact dw r (n+1) ((x,n)::acc) acc'
  ·rw[if_neg hk,if_neg hk];exact dw r n acc acc'
theorem dy:∀{names:List (Str×MJ)} {n:Nat} {acc:List (Str×Uq)} {y:Str} {c:Uq},(y,c)∈LU n names acc->(y,c)∈acc∨(n<=c/\(y,LK)∈names)
 |[],_,_,_,_,h=>.inl h
 |(x,k)::r,n,acc,y,c,h=>by
  unfold LU at h
  by_cases hk:(k==LK)=Uo
  ·rw[if_pos hk]at h;have j:k=.cell:=beq_iff_eq.mp hk;subst j
   rcases dy h with z|⟨F,J⟩
   ·rcases JS.mp z with e|z
    ·cases e;exact .inr ⟨JL _,Ks⟩
    ·exact .inl z
   ·exact .inr ⟨Nat.le_of_succ_le F,K5 _ J⟩
  ·rw[if_neg hk]at h
   rcases dy h with z|⟨F,J⟩
   ·exact .inl z
   ·exact .inr ⟨F,K5 _ J⟩
structure br(sc osc:Scope)(oN N':List Str)(fr:List (Option Nat)):Prop where
 kind:sc.kind=.function
 nd:(sc.names.map (·.1)).Nodup
 ndN:N'.Nodup
 free:∀x∈sc.names,x.2=.free->osc.names.lookup x.1=S .cell∨osc.names.lookup x.1=S .free
 len:fr.length=N'.length
 fr:∀(i j:Nat) (x:Str),N'[i]?=S x->fr[i]?=S (S j)->oN[j]?=S x/\(x,Ki)∈sc.names
noncomputable def inh(fr:List (Option Nat))(σ:St):St:=fr.map λo=>o.bind λj=>(σ[j]?).join
noncomputable def bu(X:Cx)(sc:Scope)(L:Uq):Env:={scope:=relabel sc X.env,locals:=L,globals:=X.env.globals,cells:=LU (L+1) sc.names (bg X.env.cells sc.names []),qual:=X.env.qual,func:=Z,code:=X.env.code,frame:=X.env.frame,builtins:=X.env.builtins}
noncomputable def aR(X:Cx)(sc:Scope)(N':List Str)(s:i4)(H:Hp)(fp:List Uq):Cx:={X with N:=N',s₀:=s,H₀:=H,env:=bu X sc s.heap.objs.size,outer:=X.stack,stack:=X.stack,ex:=fp,fn:=λx=>sc.names.lookup x==S .cell,pn:=[],xe:=λ_ _=>False}
theorem b9:∀{l:List (Str×MJ)} {x:Str} {k:MJ},(l.map (·.1)).Nodup->(x,k)∈l->l.lookup x=S k
 |(y,k')::r,x,k,nd,h=>by
  have nd':(y::r.map (·.1)).Nodup:=nd;obtain⟨z,F⟩:=NS.mp nd';rw[Lr]
  rcases JS.mp h with e|hm
  ·cases e;simp
  ·have j:(x==y)=Up:=by
    refine beq_eq_false_iff_ne.mpr λe=>?_;subst e;exact z (KD.mpr ⟨(x,k),hm,rfl⟩)
   rw[j];exact b9 F hm
theorem cE{env:Env}:∀{names:List (Str×MJ)} {x:Str},
 (names.map fun (n,k)=>if(k==Ki&&env.scope.kind==.function&&env.kindOf n==S .cell)then(n,LK)else(n,k)).lookup x =
   (names.lookup x).map λk=>if(k==Ki&&env.scope.kind==.function&&env.kindOf x==S .cell)then LK else k
 |[],_=>rfl
 |(n,k)::r,x=>by
  have ih:=cE (env:=env) (names:=r) (x:=x);show List.lookup x ((if(k==Ki&&env.scope.kind==.function&&env.kindOf n==S .cell)=Uo then(n,LK)else(n,k))::_)=_
  rw[Lr (a:=x) (b:=k)]
  by_cases hx:x=n
  ·subst hx;simp only[beq_self_eq_true];show _=S (if(k==Ki&&env.scope.kind==.function&&env.kindOf x==S .cell)=Uo then LK else k)
   by_cases j:(k==Ki&&env.scope.kind==.function&&env.kindOf x==S .cell)=Uo
   ·rw[if_pos j,if_pos j,Lr];simp only[beq_self_eq_true]
   ·rw[if_neg j,if_neg j,Lr];simp only[beq_self_eq_true]
  ·have z:(x==n)=Up:=beq_eq_false_iff_ne.mpr hx;rw[z]
   by_cases j:(k==Ki&&env.scope.kind==.function&&env.kindOf n==S .cell)=Uo
   ·rw[if_pos j,Lr,z];exact ih
   ·rw[if_neg j,Lr,z];exact ih
section
variable{pins:List (Uq×Obj)}{σ:St}{H:Hp}{s:i4}{sc:Scope}{N':List Str}{fr:List (Option Nat)}{fp:List Uq}
theorem gy(I:Inv X pins σ H s)(B:br sc X.env.scope X.N N' fr):∀x∈sc.names,x.2=.free->(X.env.cells.lookup x.1).isSome=Uo:=λx hx e=>by obtain⟨c,j⟩:=I.ok.has x.1 (B.free x hx e);rw[j];rfl
theorem uO(I:Inv X pins σ H s)(f2:∀b∈fp,cA X pins H b)(Hf:∀b∈fp,b<s.heap.objs.size)(B:br sc X.env.scope X.N N' fr):
 Inv (aR X sc N' s H fp) [] (inh fr σ) H {s with heap:=Sw (s.heap.push {cls:=.type "dict",data:=.dict #[]}) sc.names}:=by
 have J:∀b o,s.heap.get? b=S o->(Sw (s.heap.push {cls:=.type "dict",data:=.dict #[]}) sc.names).get? b=S o:=λb o e=>QB _ _ b o (n6 _ e);have ok:=cellsFrom_ok sc.names (s.heap.push {cls:=.type "dict",data:=.dict #[]}) (s.heap.objs.size+1) [] ⟨λ_ _ hm=>(nomatch hm),RX⟩ (by rw[LN];exact JL _)
 rw[LN]at ok;have capp:LU (s.heap.objs.size+1) sc.names (bg X.env.cells sc.names [])=LU (s.heap.objs.size+1) sc.names []++bg X.env.cells sc.names []:=dw sc.names _ [] _;have cof:∀x c,(bu X sc s.heap.objs.size).cells.lookup x=S c->((x,c)∈LU (s.heap.objs.size+1) sc.names []/\s.heap.objs.size<c)∨(X.env.cells.lookup x=S c/\(x,Ki)∈sc.names):=λx c e=>by
  have m:=Lf e;have m':(x,c)∈LU (s.heap.objs.size+1) sc.names (bg X.env.cells sc.names []):=m;rw[capp]at m'
  rcases K0.mp m' with z|z
  ·exact .inl ⟨z,(ok.empty x c z).2⟩
  ·rcases dE z with q|q
   ·simp at q
   ·exact .inr q
 have cOld:∀x c,X.env.cells.lookup x=S c->c<s.heap.objs.size:=λx c e=>by obtain⟨v,q⟩:=I.cell x c e;exact q.lt
 have kindF:∀x,(x,Ki)∈sc.names->(bu X sc s.heap.objs.size).kindOf x=S .cell∨(bu X sc s.heap.objs.size).kindOf x=S .free:=λx hx=>by
  have e1:sc.names.lookup x=S .free:=b9 B.nd hx;have U:(bu X sc s.heap.objs.size).kindOf x=_:=cE (env:=X.env) (names:=sc.names) (x:=x);rw[e1]at U;rw[U]
  by_cases L:(Ki==Ki&&X.env.scope.kind==.function&&X.env.kindOf x==S .cell)=Uo
  ·exact .inl (by simp only[Lz,if_pos L])
  ·exact .inr (by simp only[Lz,if_neg L])
 have cellF:∀x c,(x,Ki)∈sc.names->X.env.cells.lookup x=S c->(bu X sc s.heap.objs.size).cells.lookup x=S c:=λx c hx L=>by
  have m:=dF (acc:=[]) L (.inr hx);have m2:(x,c)∈(bu X sc s.heap.objs.size).cells:=by show(x,c)∈LU (s.heap.objs.size+1) sc.names (bg X.env.cells sc.names []);rw[capp];exact K1 _ m
  cases F:(bu X sc s.heap.objs.size).cells.lookup x with
  |none=>
   exfalso
   have:∀{l:List (Str×Uq)},(x,c)∈l->l.lookup x=Z->False:=by
    intro l
    induction l with
    |nil=>intro h;simp at h
    |cons a r ih=>
     intro h e;obtain⟨y,d⟩:=a;rw[Lr]at e
     rcases JS.mp h with z|z
     ·cases z;simp at e
     ·by_cases hxy:(x==y)=Uo
      ·rw[hxy]at e;cases e
      ·simp only[Ou]at hxy;rw[hxy]at e;exact ih z e
   exact this m2 F
  |some c'=>
   rcases cof x c' F with⟨z,_⟩|⟨z,_⟩
   ·rcases dy z with q|⟨_,q⟩
    ·simp at q
    ·have a1:=b9 B.nd hx;have a2:=b9 B.nd q;rw[a1]at a2;cases a2
   ·rw[L]at z;rw[z]
 have kindC:∀x,(bu X sc s.heap.objs.size).kindOf x=S .cell->(x,LK)∈sc.names∨(x,Ki)∈sc.names:=λx e=>by
  have U:(bu X sc s.heap.objs.size).kindOf x=_:=cE (env:=X.env) (names:=sc.names) (x:=x);rw[U]at e
  cases F:sc.names.lookup x with
  |none=>rw[F]at e;cases e
  |some k=>
   rw[F]at e;have m:=Lf F
   cases k with
   |cell=>exact .inl m
   |free=>exact .inr m
   |«local»=>simp at e
   |globalImplicit=>simp at e
   |globalExplicit=>simp at e
 have kindFr:∀x,(bu X sc s.heap.objs.size).kindOf x=S .free->(x,Ki)∈sc.names:=λx e=>by
  have U:(bu X sc s.heap.objs.size).kindOf x=_:=cE (env:=X.env) (names:=sc.names) (x:=x);rw[U]at e
  cases F:sc.names.lookup x with
  |none=>rw[F]at e;cases e
  |some k=>
   rw[F]at e;have m:=Lf F
   cases k with
   |free=>exact m
   |cell=>simp at e
   |«local»=>simp at e
   |globalImplicit=>simp at e
   |globalExplicit=>simp at e
 refine⟨⟨I.ok.mod,B.kind,I.ok.glob,I.ok.blt,JL _,λy z c h1 h2=>?_,λy hy=>?_,λy c hf h=>?_,I.ok.hd,I.ok.frames,.inl rfl,λb Y=>⟨?_,λx c e=>?_⟩,λb o e=>I.bs b o e,?_,λb o e Y=>?_,λb Y=>?_,I.stack,I.stkFree⟩,
  rfl,I.bare,Un.kept J,⟨_,(Heap.Ns.new s.heap (.type "dict")).keeps (QB _ _),λi x v h1 h2 h3=>?_⟩,λy c h=>?_,I.hok.fresh (JL _),λy c h=>?_,λp hp=>absurd (show p∈([]:List (Uq×Obj))from hp) (by simp),I.hok.kept J,?_⟩
 ·rcases cof y c h1 with⟨a1,a2⟩|⟨a1,a2⟩
  ·rcases cof z c h2 with⟨b1,b2⟩|⟨b1,b2⟩
   ·exact name_of_addr ok.apart a1 b1
   ·exact absurd (cOld z c b1) (Tw.mpr (Nz a2))
  ·rcases cof z c h2 with⟨b1,b2⟩|⟨b1,b2⟩
   ·exact absurd (cOld y c a1) (Tw.mpr (Nz b2))
   ·exact I.ok.inj y z c a1 b1
 ·have Hi:(y,LK)∈sc.names∨(y,Ki)∈sc.names:=by
   rcases hy with hy|hy
   ·exact kindC y hy
   ·exact .inr (kindFr y hy)
  rcases Hi with q|q
  ·exact Ll.mp (O8 sc.names _ _ (.inl (b9 B.nd q)))
  ·obtain⟨c,L⟩:=Ll.mp (gy I B _ q rfl);exact⟨c,cellF y c q L⟩
 ·have Hj:(sc.names.lookup y==S .cell)=Uo:=hf;have Hg:sc.names.lookup y=S .cell:=by simpa using Hj
  rcases cof y c h with⟨_,a2⟩|⟨_,a2⟩
  ·exact Nz a2
  ·rw[b9 B.nd a2]at Hg;cases Hg
 ·exact K6 (Hf b Y)
 ·rcases cof x c e with⟨_,a2⟩|⟨a1,_⟩
  ·exact Mr (RY (Hf b Y) a2)
  ·exact(f2 b Y).2.2.2.2.1 x c a1
 ·exact Ka I.ok.bsz I.sz
 ·obtain⟨f0,f1,f3,f4,f5,f6⟩:=f2 b Y
  rcases f4 with z|z
  ·exact I.ok.noex b o e z
  ·exact absurd (Kc (Kc (JJ e) I.ok.bsz) z) (Lc _)
 ·obtain⟨f0,f1,f3,f4,f5,f6⟩:=f2 b Y;exactλz=>(JS.mp (I.stkSub b z)).elim f1 f3
 ·have hi:∃j,fr[i]?=S (S j)/\σ[j]?=S (S v):=by
   unfold inh at h2;rw[KA]at h2
   cases e:fr[i]? with
   |none=>rw[e]at h2;cases h2
   |some o=>
    rw[e]at h2
    cases o with
    |none=>cases h2
    |some j=>
     refine⟨j,rfl,?_⟩;have O:S ((σ[j]?).join)=S (S v):=h2
     cases e':σ[j]? with
     |none=>rw[e']at O;cases O
     |some w=>rw[e']at O;cases O;rfl
  obtain⟨j,e1,U⟩:=hi;obtain⟨n1,n2⟩:=B.fr i j x h1 e1;obtain⟨m,hn,F⟩:=I.loc;have hv:Vis X.env.scope x:=.inr (B.free (x,.free) n2 rfl);obtain⟨u,ru,lk⟩:=F j x v n1 U hv;refine⟨u,ru,.inr ⟨kindF x n2,?_⟩⟩
  rcases lk with⟨k1,_⟩|⟨_,c,L,Um⟩
  ·have Hh:X.env.scope.names.lookup x=S .local:=k1
   rcases B.free (x,.free) n2 rfl with z|z
   ·rw[Hh]at z;cases z
   ·rw[Hh]at z;cases z
  ·exact⟨c,cellF x c n2 L,Um.keeps J⟩
 ·rcases cof y c h with⟨a1,a2⟩|⟨a1,a2⟩
  ·exact⟨_,(ok.empty y c a1).1⟩
  ·obtain⟨v,q⟩:=I.cell y c a1;exact⟨v,q.keeps J⟩
 ·rcases cof y c h with⟨a1,a2⟩|⟨a1,a2⟩
  ·exact I.hok.fresh (Nz a2)
  ·exact I.freeC y c a1
 ·show(inh fr σ).length=N'.length;unfold inh;rw[B2];exact B.len
theorem ll{σ':St}{s':i4}(I:Inv X pins σ H s)(f2:∀b∈fp,cA X pins H b)(J:Inv (aR X sc N' s H fp) [] σ' H' s')(hs:L6 s.heap.objs.size s'.heap h'):
 Inv X pins σ H' {s' with heap:=h'}:=by
 have u:Un (frs X.stack) fp H H' s.heap s'.heap:=J.base;have ne:∀b o,s.heap.get? b=S o->b≠s.heap.objs.size:=λb o e=>K6 (JJ e);refine I.call' (s':={s' with heap:=h'}) (ch:=fp) J.os ⟨λb o e n j hx=>?_,λb o e n j hx=>?_,u.free,λb o e hx=>?_,u.tups,u.frzs,u.tbls⟩ (λb v e=>?_) J.bare λb j=>?_
 ·exact(hs.2 b (ne b o e)).trans (u.keep b o e n j hx)
 ·obtain⟨sl,q⟩:=u.slot b o e n j hx;exact⟨sl,(hs.2 b (ne b o e)).trans q⟩
 ·obtain⟨o',q⟩:=u.there b o e hx;exact⟨o',(hs.2 b (ne b o e)).trans q⟩
 ·refine(J.hok b v e).stay (λc w L q=>(hs.2 c ?_).trans q) (λ_ q=>q) λ_ _ q=>q;have fr:H' s.heap.objs.size=Z:=J.free
  rcases L with z|z
  ·rw[z];intro F;rw[F,fr]at e;cases e
  ·intro F;rw[F,fr]at z;cases z
 ·obtain⟨f0,f1,Y,f4,O,U⟩:=f2 b j;exact⟨f4,f1,O,U⟩
theorem mK {Q:Env->i4->Prop}{E:h6->i4->Prop}(h:Q {scope:=sc,locals:=s.heap.objs.size,globals:=X.env.globals,cells:=LU (s.heap.objs.size+1) sc.names (bg X.env.cells sc.names []),qual:=X.env.qual,func:=Z,code:=X.env.code,frame:=X.env.frame,builtins:=X.env.builtins}
   {s with heap:=Sw (s.heap.push {cls:=.type "dict",data:=.dict #[]}) sc.names}):
 JK M A (QP sc X.env.globals (bg X.env.cells sc.names []) [] X.env.qual Z .none (S X.env)) Q E s:=by
 simp only[QP,Rw,if_true];refine gV (wpAny_alloc ?_);refine gV (wpAny_layCells _ (λname kind cells=>by cases hkc:kind==LK<;>simp[hkc]) _ _ _ _ ?_)
 rw[show({s with heap:=s.heap.push {cls:=.type "dict",data:=.dict #[]}}:i4).heap.objs.size=s.heap.objs.size+1 from LN ..]
 exact gV (B1 (B1 h))
theorem oj(hc:X.calm=Uo){rest:List Kz}{E:h6->i4->Prop}(hx:∀e s,X.xe e s->False)(B:br sc X.env.scope X.N N' fr)(ha:∀g',rest[0]?=S g'->g'.is_async=0)(hi:PI X target iter wi){tb:Uq->TC}(hg:∀s H fp,PG (aR X sc N' s H fp) target g)(j:∀s H fp p,PB (aR X sc N' s H fp) (λk=>bI ifs (aR X sc N' s H fp).env>>=λok=>if ok=Uo then bq elt (⟨target,iter,ifs,0⟩::rest) sc pos 0 (.ref p) (aR X sc N' s H fp).env k else k) (tb p)){Nn:Uq->St->Hp->Prop}{RR:h6->Uq->Result->i4->Prop}(I:Inv X pins σ H s)(h:wi σ H λJ H1=>∀p,H1 p=Z->cD J g (tb p) (Nn p) (inh fr σ) (upd H1 p (.lst [])))(hR:∀p fp s3 U s' σ' H' f,Inv X pins σ U s3->(∀b∈fp,cA X pins U b)->Inv (aR X sc N' s3 U fp) [] σ' H' s'->Nn p σ' H'->RR (.ref p) s3.heap.objs.size (.ok f) s'):
 JK (model X.prog X.w) X.A (eval iter X.env) (λx s₁=>JK (model X.prog X.w) X.A (QK x) (λit s₂=>JK (model X.prog X.w) X.A (newList []) (λacc s₃=>
  JK (model X.prog X.w) X.A (QP sc X.env.globals (bg X.env.cells sc.names []) [] X.env.qual Z .none (S X.env)) (λcenv s₄=>O7 (model X.prog X.w) X.A (.compStart (.ListComp elt (⟨target,iter,ifs,0⟩::rest) sc pos) 0 it acc {cenv with scope:=relabel sc X.env}) (RR acc cenv.locals) s₄) E s₃) E s₂) E s₁) E s:=by
 refine nox hx (thn (hi pins s σ H _ I h) λv s1 h1=>nox hx (thn h1 λitv s2 h2=>?_));obtain⟨it,fp,tn,J,H2,e,I2,T,F,f2,hw⟩:=h2;subst e;have hf:H2 s2.heap.objs.size=Z:=I2.hok.fresh (JL _);refine PR ?_;have I3:Inv X pins σ (upd H2 s2.heap.objs.size (.lst [])) {s2 with heap:=s2.heap.push {cls:=.type "list",dict:=Z,data:=.seq ([]:List h6).toArray}}:=I2.laid (t':=s2.toks) (λb u e=>n6 _ e) (JL _) ⟨LM _,[],0,.nil,JW _ rfl⟩
 have fneq:∀b∈fp,b≠s2.heap.objs.size:=λb j z=>by obtain⟨o,e,_⟩:=T.obj _ _ F b j;exact absurd (JJ e) (by rw[z];exact Lc _)
 have Y:∀b∈fp,cA X pins (upd H2 s2.heap.objs.size (.lst [])) b:=λb j=>⟨by rw[aj (fneq b j)];exact(f2 b j).1,(f2 b j).2⟩
 have Um:∀b∈fp,b<(s2.heap.push {cls:=.type "list",dict:=Z,data:=.seq ([]:List h6).toArray}).objs.size:=λb j=>by obtain⟨o,e,_⟩:=T.obj _ _ F b j;rw[LN];exact Pz (JJ e)
 have Hf:tn 0 (s2.heap.push {cls:=.type "list",dict:=Z,data:=.seq ([]:List h6).toArray}):=T.keep _ _ _ F λb _ o e=>n6 _ e;refine mK ?_;have O:=uO (N':=N') I3 Y Um B;have L:=T.keep _ (h':=Sw (({s2 with heap:=s2.heap.push {cls:=.type "list",dict:=Z,data:=.seq ([]:List h6).toArray}}:i4).heap.push {cls:=.type "dict",data:=.dict #[]}) sc.names) _ Hf λb _ o e=>QB _ _ b o (n6 _ e)
 have f4:∀b∈fp,cA (aR X sc N' {s2 with heap:=s2.heap.push {cls:=.type "list",dict:=Z,data:=.seq ([]:List h6).toArray}} (upd H2 s2.heap.objs.size (.lst [])) fp) [] (upd H2 s2.heap.objs.size (.lst [])) b:=λb j=>⟨(Y b j).1,(O.ok.exf b j).1,O.ok.exfs b j,.inl j,(O.ok.exf b j).2,λp hp=>absurd (show p∈([]:List (Uq×Obj))from hp) (by simp)⟩
 have loop:=lh (X:=aR X sc N' {s2 with heap:=s2.heap.push {cls:=.type "list",dict:=Z,data:=.seq ([]:List h6).toArray}} (upd H2 s2.heap.objs.size (.lst [])) fp) (λ_ _ z=>z) hc
  (elt:=elt) (pos:=pos) (scope:=sc) (gens:=⟨target,iter,ifs,0⟩::rest) (d:=0) (acc:=.ref s2.heap.objs.size) rfl (λg' e=>ha g' (by simpa using e)) (hg _ _ _) (j _ _ _ _) O T L f4 (hw _ hf)
 refine MU (jl (R:=λr s'=>match r with|.ok _=>∃σ' H',Inv (aR X sc N' {s2 with heap:=s2.heap.push {cls:=.type "list",dict:=Z,data:=.seq ([]:List h6).toArray}} (upd H2 s2.heap.objs.size (.lst [])) fp) [] σ' H' s'/\Nn s2.heap.objs.size σ' H'|.error _=>False)
  (gens:=⟨target,iter,ifs,0⟩::rest) (d:=0) rfl loop (T.self _ 0 _ _ _ L loop)) λr s5 hr=>?_
 cases r with
 |error e=>exact hr.elim
 |ok f=>obtain⟨σ5,H5,I5,n5⟩:=hr;exact hR _ fp _ _ s5 σ5 H5 f I3 Y I5 n5
noncomputable def sN(wi:TI)(g:TG)(tb:Uq->TC)(fr:List (Option Nat)):TE:=λσ H Q=>wi σ H λJ H1=>∀p,H1 p=Z->cD J g (tb p) (λ_ H2=>Q (.ref p) H2) (inh fr σ) (upd H1 p (.lst []))
theorem lq(B:br sc X.env.scope X.N N' fr):∀x∈sc.names,x.2=.local->sc.names.lookup x.1=S .local:=λx hx e=>by obtain⟨n,k⟩:=x;have e':k=.local:=e;subst e';exact b9 B.nd hx
theorem iD(z:X.calm=Uo){rest:List Kz}(hx:∀e s,X.xe e s->False)(B:br sc X.env.scope X.N N' fr)(F:∀g',rest[0]?=S g'->g'.is_async=0)(hi:PI X target iter wi){tb:Uq->TC}(L:∀s H fp,PG (aR X sc N' s H fp) target g)(O:∀s H fp p,PB (aR X sc N' s H fp) (λk=>bI ifs (aR X sc N' s H fp).env>>=λok=>if ok=Uo then bq elt (⟨target,iter,ifs,0⟩::rest) sc pos 0 (.ref p) (aR X sc N' s H fp).env k else k) (tb p))(hs:∀x,Lv iter X.env x=pure x):
 PE X (.ListComp elt (⟨target,iter,ifs,0⟩::rest) sc pos) (sN wi g tb fr):=by
 intro pins s σ H Q I h;rw[eval_ListComp];refine PU (use:=Z) rfl hs (jm (gy I B)) B.kind (lq B) (oj (Nn:=λp _ H2=>Q (.ref p) H2) (RR:=λacc C=>compPost (model X.prog X.w) X.A X.xe Z (EP X pins σ Q) acc C) z hx B F hi L O I h ?_);intro p fp s3 Um s' σ' H' f U Y J q;obtain⟨m,hn,_⟩:=J.loc;exact⟨m,hn,λh' j=>⟨.ref p,H',ll U Y J j,rfl,q⟩⟩
theorem jn(hc:X.calm=Uo){rest:List Kz}{pos' spos:Pos}(hx:∀e s,X.xe e s->False)(B:br sc X.env.scope X.N N' fr)(ha:∀g',rest[0]?=S g'->g'.is_async=0)(hi:PI X target iter wi){tb:Uq->TC}(hg:∀s H fp,PG (aR X sc N' s H fp) target g)(F:∀s H fp p,PB (aR X sc N' s H fp) (λk=>bI ifs (aR X sc N' s H fp).env>>=λok=>if ok=Uo then bq elt (⟨target,iter,ifs,0⟩::rest) sc pos 0 (.ref p) (aR X sc N' s H fp).env k else k) (tb p))(hs:∀x,Lv iter X.env x=pure x)(L:PG X (.Name x pos') (gU i))(O:LD (.ListComp elt (⟨target,iter,ifs,0⟩::rest) sc pos) (S (.Name x pos')) spos.line X.env=pure Uo):
 PS X (.Assign [.Name x pos'] (.ListComp elt (⟨target,iter,ifs,0⟩::rest) sc pos) spos) (nP (sN wi g tb fr) (gU i)):=by
 intro pins s σ H D I h;rw[exec_Assign_Name_used _ _ _ _ O];refine gV (KP (gV ?_));show JK _ X.A (do let _ <-comprehension (.ListComp elt (⟨target,iter,ifs,0⟩::rest) sc pos) sc X.env _ (newList []) Up (eval iter X.env) (S (assign (.Name x pos') X.env))) _ _ s
 refine gV (Kh (PU (use:=S (assign (.Name x pos') X.env)) (Q:=λ_ s'=>SP X pins D .next s') rfl hs (jm (gy I B)) B.kind (lq B)
  (oj (Nn:=λp _ H2=>D.nx (σ.set i (S (.ref p))) H2) (RR:=λacc C=>compPost (model X.prog X.w) X.A X.xe (S (assign (.Name x pos') X.env)) (λ_ s'=>SP X pins D .next s') acc C) hc hx B ha hi hg F I h ?_)) (λ_ s' hq=>B1 (B1 hq)) λ_ _ e=>e)
 intro p fp s3 H3 s' σ' H' f j f3 J q;obtain⟨m,⟨o,es,ep,ho,hd,hk,hm⟩,_⟩:=J.loc;have I4:Inv X pins σ H' s':=ll (h':=s'.heap) j f3 J ⟨rfl,λ_ _=>rfl⟩;have hL:(aR X sc N' s3 H3 fp).env.locals=s3.heap.objs.size:=rfl;rw[hL]at ho;have U:H' s3.heap.objs.size=Z:=J.free;have neL:s3.heap.objs.size≠X.env.locals:=Mr j.lt;have nfs:s3.heap.objs.size∉X.fs:=j.nofs (JL _);have I5:Inv X (pins++[(s3.heap.objs.size,o)]) σ H' s':=I4.pins_of λpr Y=>by
  rcases K0.mp Y with z|z
  ·exact I4.pin pr (K1 _ z)
  ·have e:pr=(s3.heap.objs.size,o):=by simpa using z
   subst e;exact⟨ho,U,neL,nfs,λv z=>by rw[hd]at z;cases z⟩
 show JK _ X.A (assign (.Name x pos') X.env (.ref p)) _ _ _;refine thn (L _ s' σ H' (.ref p) (.ref p) D.nx I5 rfl q) λ_ s6 g9=>?_;obtain⟨σ6,H6,I6,q6⟩:=g9;obtain⟨Um,Hf,_⟩:=I6.pin (s3.heap.objs.size,o) (K1 _ (K1 _ (by simp)))
 refine⟨m,⟨o,es,ep,Um,hd,hk,hm⟩,λh' Hg=>⟨σ6,H6,?_,q6⟩⟩;refine(I6.unpinned).turned (t':=s6.toks) (it:=s3.heap.objs.size) (λb o F e=>(Hg.2 b F).trans e) Hf neL (.inr j.sz) (λy c e z=>?_) λpr Y z=>?_
 ·obtain⟨v,q⟩:=j.cell y c e;exact absurd q.lt (by rw[z];exact Lc _)
 ·exact absurd (JJ (j.pin pr Y).1) (by rw[z];exact Lc _)
end
end
end
section
open PySem.W (CodeHd tabObj kla_fn kla_obj)
noncomputable def fzO(a:Uq)(o:Obj):HO:=.frz o (.ext λh=>h.get? a=S o)
def ET(H:Hp)(P:Uq)(pos:Pos)(q:Str):Prop:=∃ps,H P=S (.tbl ps)/\(ps=#[]∨∃c' oc vs t,ps=#[NH pos.line,NH pos.col,.ref c']/\H c'=S (fzO c' oc)/\oc.data=.fields vs/\vs[1]?=S (.str q t))
def EU(mg:Str->Option h6)(base:Heap):Prop:=∃bm ob,mg "__builtins__"=S (.ref bm)/\bm≠Qk/\base.get? bm=S ob/\ob.cls=.type "module"/\ob.dict=S Qk/\ob.data=.plain
open PySem.W (envX)
structure DE(P:JR)(w:K8)(K:Frag)(mg:Str->Option h6)(base:Heap)(k:Nat)(fs:List Uq)(a:Uq)(sp:Sp)(H:Hp)(h:Heap):Prop where
 fn:∃o fd,H a=S (fzO a o)/\o.data=.func fd
 run:∀(A:K2) (outer:List Env) (s1:i4) (H1:Hp) (u1 u2:h6) (v1 v2:V) (Q:VK),Un fs [] H H1 h s1.heap->Room k A->Env0 P w K mg base A outer s1 H1->RelV v1 u1->RelV v2 u2->sp [v1,v2] H1 Q E0->
  O7 (model P w) A (.call (.ref a) ⟨[u1,u2],[]⟩) (CR CX0 outer P w H1 s1 Q E0) s1
structure DG(P:JR)(w:K8)(K:Frag)(mg:Str->Option h6)(base:Heap)(k:Nat)(f:Uq)(fd:LB)(ps:List Str)(sp:List Env->i4->Sp):Prop where
 len:∀o s vs H Q E,sp o s vs H Q E->vs.length=ps.length
 run:∀(A:K2) (outer:List Env) (s:i4) (H:Hp) (args:Args) (us:List h6) (vs:List V) (Q:VK) (E:XK),Room k A->Env0 P w K mg base A outer s H->R5 s fd args (ps.zip us)->Vals vs us->sp outer s vs H Q E->
  O7 (model P w) A (.call (.ref f) args) (CR CX0 outer P w H s Q E) s
end
namespace Zp
def At(t:Bool)(h:Heap)(i l:Uq)(k:Nat):Prop:=match t with|true=>h.IsTupleIter i l k|false=>h.IsListIter i l k
def Sq(t:Bool)(h:Heap)(l:Uq)(xs:Array h6):Prop:=match t with|true=>h.IsTuple l xs|false=>h.IsList l xs
variable{h:Heap}{i l:Uq}
theorem At.up{t:Bool}{h':Heap}{k:Nat}(x:At t h i l k)(e:∀o,h.get? i=S o->h'.get? i=S o):At t h' i l k:=by cases t<;>(obtain⟨o,ho,r⟩:=x;exact⟨o,e o ho,r⟩)
variable{xs:Array h6}
theorem Sq.up{t:Bool}{h':Heap}(x:Sq t h l xs)(e:∀o,h.get? l=S o->h'.get? l=S o):Sq t h' l xs:=by cases t<;>(obtain⟨o,ho,r⟩:=x;exact⟨o,e o ho,r⟩)
theorem At.lt{t:Bool}{k:Nat}(x:At t h i l k):∃o,h.get? i=S o/\∀v,o.data≠.cell v:=by cases t<;>(obtain⟨o,ho,j,hd⟩:=x;exact⟨o,ho,λv z=>by rw[hd]at z;cases z⟩)
section
variable{prog:JR}{w:K8}{A:K2}{E:h6->i4->Prop}{s:i4}
open Builtin.SmallTypes in
theorem xt{k:Nat}{x:h6}{Q:h6->i4->Prop}(hi:s.heap.IsTupleIter i l k)(U:s.heap.IsTuple l xs)(hx:xs[k]?=S x)(q:∀h',h'.IsTupleIter i l (k+1)->L6 i s.heap h'->Q x {s with heap:=h'}):JK (model prog w) A (nextOf (.ref i)) Q E s:=by
 obtain⟨ob,z,J,j⟩:=id hi;obtain⟨oq,L,_,nq,O⟩:=U;unfold nextOf;refine gV (L9 (name:=i3 "__next__") hi.typeIs Mh (Ld Mh hi.typeIs P1 ?_ (OR _)));refine gV (m:=field (.ref i) 0) (Lq z j (x:=.ref l) rfl ?_);refine(if_neg (c:=(K3 l==Kx)=Uo) q7)▸?_;refine gV (m:=field (.ref i) 1) (Lq z j (x:=.int k 0) rfl ?_);refine gV (m:=seqItems? (.ref l)) (wpAny_seqItems L O ?_);simp only[Lh,hx];refine gV (Nt z j (by simp) (B1 ⟨x,rfl,B1 (q _ ⟨_,Kr _ z (LC (Mg j _)),(S0 ..).trans J,?_⟩ (Ra ..))⟩))
 rw[Mg j];simp[NH]
open Builtin.SmallTypes in
theorem A3{k:Nat}{Q:h6->i4->Prop}(hn:A.handled=Z)(hi:s.heap.IsTupleIter i l k)(O:s.heap.IsTuple l xs)(hx:xs[k]?=Z)(q:∀h' e,SV i s.heap h'->(∃o,h'.get? e=S o/\o.cls=.type "StopIteration")->E (.ref e) {s with heap:=h'}):JK (model prog w) A (nextOf (.ref i)) Q E s:=by
 obtain⟨ob,j,U,z⟩:=id hi;obtain⟨oq,J,_,nq,L⟩:=O;unfold nextOf;refine gV (L9 (name:=i3 "__next__") hi.typeIs Mh (Ld Mh hi.typeIs P1 ?_ (OR _)));refine gV (m:=field (.ref i) 0) (Lq j z (x:=.ref l) rfl ?_);refine(if_neg (c:=(K3 l==Kx)=Uo) q7)▸?_;refine gV (m:=field (.ref i) 1) (Lq j z (x:=.int k 0) rfl ?_);refine gV (m:=seqItems? (.ref l)) (wpAny_seqItems J L ?_);simp only[Lh,hx];refine gV (Me (gV (Nt j z (by simp) ?_)))
 refine gV (m:=newExc (.type "StopIteration") []) ?_;simp only[newExc,newTuple];refine gV (LR ?_ (by size_fits))
 refine gV (m:=Pc _ _) (OJ (a:=Kx) (by first|rfl|(simp only[Pc];rfl)) (LR ?_ (by size_fits)))
 simp only[raiseNew];refine gV (wpAny_handled ?_)
 first|rw[show A.in1.handled=Z from hn]|rw[hn]
 exact gV (B1 (wpAny_throw (q _ _ (((Ra ..).extBut.push _).push _) ⟨_,JW _ rfl,rfl⟩)))
open Builtin.SmallTypes in
theorem jX{t:Bool}{k:Nat}{x:h6}{Q:h6->i4->Prop}(hi:At t s.heap i l k)(j:Sq t s.heap l xs)(hx:xs[k]?=S x)(q:∀h',At t h' i l (k+1)->L6 i s.heap h'->Q x {s with heap:=h'}):JK (model prog w) A (nextOf (.ref i)) Q E s:=by
 cases t with
 |true=>exact xt hi j hx q
 |false=>exact wpAny_nextOf_list_item hi j hx q
open Builtin.SmallTypes in
theorem nx_end{t:Bool}{k:Nat}{Q:h6->i4->Prop}(hn:A.handled=Z)(hi:At t s.heap i l k)(j:Sq t s.heap l xs)(hx:xs[k]?=Z)(q:∀h' e,SV i s.heap h'->(∃o,h'.get? e=S o/\o.cls=.type "StopIteration")->E (.ref e) {s with heap:=h'}):JK (model prog w) A (nextOf (.ref i)) Q E s:=by
 cases t with
 |true=>exact A3 hn hi j hx q
 |false=>exact wpAny_nextOf_list_end hn hi j hx q
noncomputable def itO(t:Bool)(l:Uq):Obj:=match t with|true=>{cls:=.type "tuple_iterator",data:=.fields #[.ref l,.int 0 0]}|false=>{cls:=.type "list_iterator",data:=.fields #[.ref l,.int 0 0]}
theorem at_new{t:Bool}(e:h.get? i=S (itO t l)):At t h i l 0:=by cases t<;>exact⟨_,e,rfl,rfl⟩
end
end Zp
section
section
variable{X:Cx}{pins:List (Uq×Obj)}{σ:St}{H:Hp}{s:i4}{h':Heap}
theorem Inv.turnedL{fp:List Uq}(I:Inv X pins σ H s)(hf:∀b∈fp,cA X pins H b)(k:∀b o,b∉fp->s.heap.get? b=S o->h'.get? b=S o):Inv X pins σ H {s with heap:=h',toks:=t'}:=by
 have nit:∀b u,H b=S u->b∉fp:=λb u e z=>by rw[(hf b z).1]at e;cases e
 refine I.step (g':=s.gens) (d':=s.drawn) (ch:=fp) (λb F=>?_) (λb o _ _ j e _=>k b o j e) (λb o _ _ j e _=>⟨o.slots,k b o j e⟩) (λ_ _ _ _ n=>n)
  (λb o j e=>⟨o,k b o j e⟩) (λ_ _ e=>e) (λ_ _ _ e=>e) (λb ps e=>⟨#[],by rw[e];simp⟩) (λm hm=>?_) (λb u e=>?_) I.bare
 ·obtain⟨_,f1,_,J,f4,L⟩:=hf b F;exact⟨J,f1,f4,L⟩
 ·obtain⟨o,es,ep,ho,r⟩:=hm;exact⟨o,es,ep,k _ o (λz=>(hf _ z).2.1 rfl) ho,r⟩
 ·refine(I.hok b u e).stay (λc v j q=>k c v ?_ q) (λ_ q=>q) λ_ _ q=>q
  rcases j with z|z
  ·rw[z];exact nit b u e
  ·exact nit c _ z
end
def SqV(K:Frag)(t:Bool)(H:Hp)(a:Uq)(xs:List V):Prop:=match t with|true=>SqT K H a xs|false=>SqL K H a xs
theorem Inv.sqv{t:Bool}{xs:List V}(I:Inv X pins σ H s)(h:SqV X.K t H a xs):∃its:List h6,Vals xs its/\Zp.Sq t s.heap a its.toArray:=by
 cases t with
 |true=>obtain⟨its,r,p,_⟩:=I.tuple h;exact⟨its,r,p⟩
 |false=>obtain⟨its,r,p,_⟩:=I.list h;exact⟨its,r,p.isList⟩
theorem Inv.sqv_inj{t:Bool}{xs ys:List V}(I:Inv X pins σ H s)(h:SqV X.K t H a xs)(h':SqV X.K t H a ys):xs=ys:=by
 cases t with
 |true=>exact I.tuple_inj h h'
 |false=>exact I.list_inj h h'
end
namespace Zp
end Zp
namespace En
variable{z i a:Uq}{oo:Int}{xs:Array h6}{old:h6}
section
variable{prog:JR}{w:K8}{A:K2}{E:h6->i4->Prop}{s:i4}
open Builtin.SmallTypes Zp in
theorem C4 {t:Bool}{k:Nat}{x:h6}{Q:h6->i4->Prop}(Y:Qt s.heap z i ((k:Int)+oo) old)(hi:At t s.heap i a k)(ha:Sq t s.heap a xs)(hx:xs[k]?=S x)(j:z≠i)(q:∀h',Sx h' z i ((k:Int)+oo+1) x s.heap.objs.size->At t h' i a (k+1)->h'.get? s.heap.objs.size=S {cls:=.type "tuple",data:=.seq #[.int ((k:Int)+oo) s.toks,x]}->
   (∀b o,b≠z->b≠i->s.heap.get? b=S o->h'.get? b=S o)->Q (.ref s.heap.objs.size) {s with heap:=h',toks:=s.toks+1}):
 JK (model prog w) A (MB.«enumerate.__next__» ⟨[.ref z],[]⟩) (λfin s'=>∃v,fin=.done (.ret v)/\Q v s') E s:=by
 obtain⟨F,g,d,tk,os⟩:=s;refine gV (m:=field (.ref z) 2) (Lq Y rfl (x:=.ref i) rfl (gV (jX hi ha hx λg1 i1 s1=>?_)));have Um:L6 i F g1:=s1;clear s1;have Z1:Qt g1 z i ((k:Int)+oo) old:=(Um.2 z j).trans Y;refine gV (m:=field (.ref z) 3) (Lq (s:=⟨g1,g,d,tk,os⟩) Z1 rfl (x:=NH ((k:Int)+oo)) rfl ?_);refine gV (m:=field (.ref z) 4) (Lq (s:=⟨g1,g,d,tk,os⟩) Z1 rfl (x:=.none) rfl ?_);refine gV (m:=mkInt ((k:Int)+oo)) (wpAny_mkInt ?_);refine gV (m:=setField (.ref z) 3 (NH ((k:Int)+oo+1))) (LG (s:=⟨g1,g,d,tk+1,os⟩) Z1 (by simp) λg2 z2 s2=>?_)
 have S2:L6 z g1 g2:=s2;have Z2:Qt g2 z i ((k:Int)+oo+1) old:=z2;clear s2 z2;refine gV (m:=setField (.ref z) 4 .none) (LG (s:=⟨g2,g,d,tk+1,os⟩) Z2 (by simp) λg3 z3 s3=>?_)
 have S3:L6 z g2 g3:=s3;have Z3:Qt g3 z i ((k:Int)+oo+1) old:=z3;clear s3 z3;refine gV (m:=newTuple [.int ((k:Int)+oo) tk,x]) (wpAny_newTuple ?_);have L:Qt (g3.push {cls:=.type "tuple",data:=.seq #[.int ((k:Int)+oo) tk,x]}) z i ((k:Int)+oo+1) old:=n6 _ Z3;have sz:g3.objs.size=F.objs.size:=by rw[S3.1,S2.1,Um.1]
 have zl:z<F.objs.size:=JJ Y;have T4:(g3.push {cls:=.type "tuple",data:=.seq #[.int ((k:Int)+oo) tk,x]}).get? F.objs.size=S {cls:=.type "tuple",data:=.seq #[.int ((k:Int)+oo) tk,x]}:=by rw[<-sz];exact JW _ rfl
 have K4:∀b o,b≠z->b≠i->F.get? b=S o->(g3.push {cls:=.type "tuple",data:=.seq #[.int ((k:Int)+oo) tk,x]}).get? b=S o:=λb o bz bi e=>n6 _ (S3.extBut b o bz (S2.extBut b o bz (Um.extBut b o bi e)))
 have I4:At t (g3.push {cls:=.type "tuple",data:=.seq #[.int ((k:Int)+oo) tk,x]}) i a (k+1):=i1.up λo e=>n6 _ (S3.extBut i o j.symm (S2.extBut i o j.symm e));rw[sz];generalize g3.push {cls:=.type "tuple",data:=.seq #[.int ((k:Int)+oo) tk,x]}=J at L T4 K4 I4;refine gV (m:=ownedTupleIsFree (.ref z)) ?_;unfold ownedTupleIsFree;refine gV (Lq (s:=⟨J,g,d,tk+1,os⟩) L rfl (x:=.none) rfl (B1 ?_));simp only[if_true];refine gV (Me (gV (Lq (s:=⟨J,g,d,tk+1,os⟩) L rfl (x:=old) rfl (gV (LG (s:=⟨J,g,d,tk+1,os⟩) L (by simp) λg5 z5 s5=>?_)))))
 have S5:L6 z J g5:=s5;have Z5:Qt g5 z i ((k:Int)+oo+1) x:=z5;clear s5 z5;refine gV (m:=ownedTupleHandOut (.ref z) (.ref F.objs.size)) ?_;unfold ownedTupleHandOut;refine gV (LG (s:=⟨g5,g,d,tk+1,os⟩) Z5 (by simp) λO z6 s6=>?_)
 have S6:L6 z g5 O:=s6;have Z6:Sx O z i ((k:Int)+oo+1) x F.objs.size:=z6;clear s6 z6;refine LG (s:=⟨O,g,d,tk+1,os⟩) Z6 (by simp) λU z7 s7=>?_
 have S7:L6 z O U:=s7;have Z7:Sx U z i ((k:Int)+oo+1) x F.objs.size:=z7;clear s7 z7;have up:∀b o,b≠z->J.get? b=S o->U.get? b=S o:=λb o bz e=>S7.extBut b o bz (S6.extBut b o bz (S5.extBut b o bz e));exact gV (wpAny_letGo (B1 ⟨_,rfl,q U Z7 (I4.up λo e=>up i o j.symm e) (up _ _ (Mr zl) T4) λb o bz bi e=>up b o bz (K4 b o bz bi e)⟩))
theorem nxt_item {t:Bool}{k:Nat}{x:h6}{Q:Option h6->i4->Prop}(J:Qt s.heap z i ((k:Int)+oo) old)(hi:Zp.At t s.heap i a k)(L:Zp.Sq t s.heap a xs)(hx:xs[k]?=S x)(j:z≠i)(q:∀h',Sx h' z i ((k:Int)+oo+1) x s.heap.objs.size->Zp.At t h' i a (k+1)->h'.get? s.heap.objs.size=S {cls:=.type "tuple",data:=.seq #[.int ((k:Int)+oo) s.toks,x]}->
   (∀b o,b≠z->b≠i->s.heap.get? b=S o->h'.get? b=S o)->Q (S (.ref s.heap.objs.size)) {s with heap:=h',toks:=s.toks+1}):
 JK (model prog w) A (PN (.ref z)) Q E s:=by
 have ty:s.TypeIs (.ref z) "enumerate":=⟨_,J,rfl⟩;unfold PN;exact gV (OE (L9 (name:=i3 "__next__") ty Ng (Ld Ng ty Qu
  (C4 J hi L hx j λh' a1 a2 O U=>B1 (q h' a1 a2 O U)) (Q9 _))))
theorem nxt_end{t:Bool}{k:Nat}{Q:Option h6->i4->Prop}(hn:A.handled=Z)(j:Qt s.heap z i ((k:Int)+oo) old)(hi:Zp.At t s.heap i a k)(J:Zp.Sq t s.heap a xs)(hx:xs[k]?=Z)(q:∀h',SV i s.heap h'->Q Z {s with heap:=h'}):JK (model prog w) A (PN (.ref z)) Q E s:=by have ty:s.TypeIs (.ref z) "enumerate":=⟨_,j,rfl⟩;unfold PN;refine gV (OE (L9 (name:=i3 "__next__") ty Ng (Ld Ng ty Qu ?_ (Q9 _))));refine gV (m:=field (.ref z) 2) (Lq j rfl (x:=.ref i) rfl (gV (Zp.nx_end hn hi J hx λh' x he hs=>?_)));obtain⟨o,ho,L⟩:=hs;exact gV (Ov (T:="StopIteration") (b:=Uo) ⟨o,ho,L⟩ isSubtype_stop (B1 (q _ he)))
open AutoSeq1 (wpAny_loadPart') in
theorem A4(l:Uq)(items:Array h6)(n:Nat)(dct:Option Uq)(sl:Array (Option h6)):
 Meets (MB.«enumerate.__new__» ⟨[.type "enumerate",.ref l],[]⟩) (λ_ R s=>s.heap.get? l=S {cls:=.type "tuple",dict:=dct,data:=.seq items n,slots:=sl} /\
  R (.ok (.ret (.ref (s.heap.push (Zp.itO Uo l)).objs.size))) {s with heap:=(s.heap.push (Zp.itO Uo l)).push {cls:=.type "enumerate",data:=.fields #[.none,.bool Up,.ref s.heap.objs.size,NH 0,.none,.none]}}):=
 .of_wp λprog w A R s h=>by
  obtain⟨J,g,d,tk,os⟩:=s;obtain⟨j,h⟩:=h;have z:=sub_enumerate;have F:Heap.IsTuple (Shared.heap ⟨J,g,d,tk,os⟩) l items:=⟨_,j,rfl,n,rfl⟩
  wp_walk using N8 j
  refine wpAny_stack_any λst=>B1 ?_
  split
  ·rename_i c _ _ _ _ _
   cases(c==KU "enumerate")<;>(wp_walk using N8 j,MY F;exact⟨_,rfl,h⟩)
  ·wp_walk using N8 j,MY F
   exact⟨_,rfl,h⟩
theorem call_enum{t:Bool}{l:Uq}{items:Array h6}{Q:h6->i4->Prop}(J:Zp.Sq t s.heap l items)(q:∀h',Qt h' (s.heap.objs.size+1) s.heap.objs.size 0 .none->Zp.At t h' s.heap.objs.size l 0->(∀b o,s.heap.get? b=S o->h'.get? b=S o)->Q (.ref (s.heap.objs.size+1)) {s with heap:=h'}):
 JK (model prog w) A (call (.type "enumerate") [.ref l]) Q E s:=by
 cases t with
 |false=>exact call_enumerate_list J λh' a b _ k=>q h' a b k
 |true=>
  obtain⟨⟨c,dct,dt,sl⟩,O,U,n,hd⟩:=J;have j:c=.type "tuple":=U;have z:dt=.seq items n:=hd;subst j z;refine callType_new F.called_enumerate (by decide) (F.typeCall_enumerate_1 _) (F.newCall_enumerate_1 _) (λobj=>F.args_object_init_2 obj _) F.entry_enumerate_new (A4 l items n dct sl) ⟨O,?_⟩
  have L:(s.heap.push (Zp.itO Uo l)).objs.size=s.heap.objs.size+1:=LN ..;have e:((s.heap.push (Zp.itO Uo l)).push {cls:=.type "enumerate",data:=.fields #[.none,.bool Up,.ref s.heap.objs.size,NH 0,.none,.none]}).get? (s.heap.push (Zp.itO Uo l)).objs.size=S _:=JW _ rfl;rw[L]at e;show _/\_;rw[L];exact⟨⟨_,e,rfl⟩,q _ e (Zp.at_new (n6 _ (JW _ rfl))) λb o x=>n6 _ (n6 _ x)⟩
end
end En
noncomputable def Ite(K:Frag)(t:Bool)(a:Uq)(oo:Int:=0):It:=
 ⟨λi H=>∃xs x,SqV K t H a xs/\xs[i]?=S x,
  λi H v H'=>∃p x,H p=Z/\v=.ref p/\H'=upd H p (.tup [.int ((i:Nat)+oo),x])/\∀xs,SqV K t H a xs->xs[i]?=S x,
  λi H=>∃xs,SqV K t H a xs/\xs.length<=i⟩
theorem uP{K:Frag}{elts:List Expr}{cx}{t:Bool}{z i:Uq}{oo:Int}(J:z≠i):
 jQ P w K (.Tuple elts cx pos) (Ite K t a oo) [z,i] z (λk h=>(∃old,Qt h z i ((k:Int)+oo) old)/\Zp.At t h i a k) where
 mem:=by simp
 obj:=λk h ⟨⟨old,F⟩,hi⟩ c j=>by
  simp only[JS,KL,or_false]at j
  rcases j with rfl|rfl
  ·exact⟨_,F,λv e=>by cases e⟩
  ·exact hi.lt
 keep:=λk h h' L kk=>(by obtain⟨⟨old,F⟩,hi⟩:=L;exact⟨⟨old,kk z (by simp) _ F⟩,hi.up λo e=>kk i (by simp) o e⟩)
 item:=by
  intro X O hw U j k pins s σ H E I hf st hg;subst O hw U;obtain⟨⟨old,F⟩,hi⟩:=st;obtain⟨xs,x,qx,ex⟩:=hg;obtain⟨is,rx,px⟩:=I.sqv qx;obtain⟨ux,Y,rux⟩:=rx.get ex;refine En.nxt_item F hi px (by simpa using Y) J λh1 z1 i1 p1 k1=>⟨_,rfl,?_⟩
  refine wpAny_letOwnedTupleGo_enum (s:={s with heap:=h1,toks:=s.toks+1}) z1 λh2 z2 s2=>?_
  have lt:∀{c o},s.heap.get? c=S o->c≠s.heap.objs.size:=λe=>K6 (JJ e);have nz:s.heap.objs.size≠z:=(lt F).symm;have Um:∃o,s.heap.get? i=S o:=hi.lt.imp λ_ h=>h.1;have up:∀c o,c≠z->h1.get? c=S o->h2.get? c=S o:=λc o n e=>s2.extBut _ _ n e;have IL:Inv X pins σ (upd H s.heap.objs.size (.tup [.int ((k:Nat)+oo),x])) {s with heap:=s.heap.push {cls:=.type "tuple",data:=.seq #[.int ((k:Int)+oo) s.toks,ux]},toks:=s.toks+1}:=I.laid (λb o e=>n6 _ e) (JL _) ⟨by rw[D0];simp,[.int ((k:Int)+oo) s.toks,ux],.cons ⟨_,rfl⟩ (.cons rux .nil),R1 _ _⟩
  have fr:∀c∈[z,i],c≠s.heap.objs.size:=λc j=>by
   simp only[JS,KL,or_false]at j
   rcases j with rfl|rfl
   ·exact lt F
   ·obtain⟨o,e⟩:=Um;exact lt e
  have un:∀c∈[z,i],upd H s.heap.objs.size (.tup [.int ((k:Nat)+oo),x]) c=Z:=λc j=>by rw[aj (fr c j)];exact(hf c j).1
  have kk:∀c o,c∉[z,i]->(s.heap.push {cls:=.type "tuple",data:=.seq #[.int ((k:Int)+oo) s.toks,ux]}).get? c=S o->h2.get? c=S o:=λc o j e=>by
   simp only[JS,KL,or_false,not_or]at j
   rcases Heap.get?_push_cases e with⟨rfl,rfl⟩|e
   ·exact up _ _ nz p1
   ·exact up _ _ j.1 (k1 c o j.1 j.2 e)
  have I2:Inv X pins σ (upd H s.heap.objs.size (.tup [.int ((k:Nat)+oo),x])) {s with heap:=h2,toks:=s.toks+1}:=Inv.turnedL (s:={s with heap:=s.heap.push {cls:=.type "tuple",data:=.seq #[.int ((k:Int)+oo) s.toks,ux]},toks:=s.toks+1}) (h':=h2) (t':=s.toks+1) (fp:=[z,i]) IL (λc j=>⟨un c j,(hf c j).2⟩) kk
  refine⟨.ref s.heap.objs.size,_,I2,rfl,⟨_,x,I.hok.fresh (JL _),rfl,rfl,λxs' q1=>?_⟩,⟨⟨ux,by have e9:(((k+1:Nat):Int)+oo)=(k:Int)+oo+1:=∅;rw[e9];exact z2⟩,i1.up λo e=>up _ o J.symm e⟩,un⟩
  rw[I.sqv_inj q1 qx];exact ex
 done:=by
  intro X O hw U j k pins s σ H E I hf st hg;subst O hw U;obtain⟨⟨old,F⟩,hi⟩:=st;obtain⟨xs,qx,Hf⟩:=hg;obtain⟨is,rx,px⟩:=I.sqv qx;have lx:=rx.length;refine En.nxt_end (I.ok.hd j) F hi px (by simp;lia) λh1 k1=>⟨rfl,I.turnedL (t':=s.toks) hf λc o j e=>?_⟩
  simp only[JS,KL,or_false,not_or]at j;exact k1 c o j.2 e
 self:=λA k s Q E L h=>(by obtain⟨⟨old,F⟩,_⟩:=L;exact S4 F h)
section
variable{X:Cx}
noncomputable def DH(K:Frag)(ta:TA):TI:=λσ H R=>ta σ H λvs H1=>∃a t xs,vs=[.ref a]/\SqV K t H1 a xs/\R (Ite K t a) H1
theorem A5{elts:List Expr}{cx}{p pos':Pos}{a:Expr}{ta:TA}(J:Gl X "enumerate")(hm:X.mg "enumerate"=Z)(L:PA X [a] ta)(hs:JU [a] X.env=[(Up,eval a X.env)]):
 PI X (.Tuple elts cx pos) (.Call (.Name "enumerate" p) [a] [] pos') (DH X.K ta):=by
 intro pins s σ H R I h;refine Call_ (gr I J hm (u:=.type "enumerate") boot_enumerate (Ni (thn (L pos' pins s σ H _ I h) λus s1 g9=>?_) hs rfl));obtain⟨vs,H1,j,O,U⟩:=g9;obtain⟨a',t,xs,rfl,qx,q⟩:=U
 cases O with
 |cons r rr=>
  cases rr
  cases r
  obtain⟨is,rx,px⟩:=j.sqv qx;refine En.call_enum px λh1 z Y k1=>?_;refine S4 z ?_;refine⟨_,_,_,_,H1,rfl,j.kept (t':=s1.toks) k1,uP (t:=t) (a:=a') (oo:=0) (by simp),⟨⟨_,z⟩,Y⟩,λc F=>?_,q⟩
  have hle:s1.heap.objs.size<=c:=by
   simp only[JS,KL,or_false]at F
   rcases F with rfl|rfl<;>lia
  exact j.fpOk hle (j.hok.fresh hle)
end
namespace Rv
section
variable{prog:JR}{w:K8}{A:K2}{E:h6->i4->Prop}{s:i4}
theorem aS:Tu (.type "list_reverseiterator") "__length_hint__"=pure (S (.builtin "list_reverseiterator.__length_hint__")):=by rw[typeLookup_type,QF];kernel_rfl
end
end Rv
section
noncomputable abbrev NK:=List (Int ⊕ List Int)
noncomputable def DI(ks:List Int):Int:=reduceHash (Pq (ks.map hashInt))
noncomputable def DJ:Int ⊕ List Int->Int
 |.inl i=>hashInt i
 |.inr ks=>DI ks
noncomputable def DK(ks:NK):Int:=reduceHash (Pq (ks.map DJ))
section
variable(prog:JR)(w:K8)
noncomputable def Is1(h:Heap):Int ⊕ List Int->h6->Prop
 |.inl i,v=>(RI prog w).is i v=Uo
 |.inr ks,v=>∃b,v=.ref b/\IsTupleKey (RI prog w) h ks b
inductive IsN(h:Heap):NK->List h6->Prop
 |nil:IsN h [] []
 |cons {k:Int ⊕ List Int} {v:h6} {ks:NK} {vs:List h6}:Is1 prog w h k v->IsN h ks vs->IsN h (k::ks) (v::vs)
def IsNest(h:Heap)(ks:NK)(a:Uq):Prop:=∃o items n,h.get? a=S o/\o.cls=.type "tuple"/\o.data=.seq items n/\IsN prog w h ks items.toList
variable{prog w}
theorem Is1.inj{x y:Int ⊕ List Int}{v:h6}(hx:Is1 prog w h x v)(z:Is1 prog w h y v):x=y:=by
 cases x with
 |inl i=>
  cases y with
  |inl j=>rw[(RI prog w).inj _ _ _ hx z]
  |inr ks=>obtain⟨b,rfl,_⟩:=z;have:=(RI prog w).byValue _ _ hx;simp[carriedByValue]at this
 |inr ks=>
  cases y with
  |inl j=>obtain⟨b,rfl,_⟩:=hx;have:=(RI prog w).byValue _ _ z;simp[carriedByValue]at this
  |inr ls=>
   obtain⟨b,rfl,F⟩:=hx;obtain⟨c,e,J⟩:=z
   cases e
   rw[F.inj J]
theorem IsN.inj{x y:NK}{vs:List h6}(hx:IsN prog w h x vs)(j:IsN prog w h y vs):x=y:=by
 induction hx generalizing y with
 |nil=>cases j;rfl
 |cons h1 _ ih=>
  cases j with
  |cons h2 z=>rw[h1.inj h2,ih z]
theorem IsNest.inj{x y:NK}(hx:IsNest prog w h x a)(J:IsNest prog w h y a):x=y:=by
 obtain⟨o,items,n,ho,_,hd,hi⟩:=hx;obtain⟨o',items',n',z,_,j,F⟩:=J;obtain rfl:o=o':=Lo.inj (ho.symm.trans z);rw[hd]at j
 injection j with h1 _
 subst h1;exact hi.inj F
variable{A:K2}{E:h6->i4->Prop}{s:i4}
end
noncomputable def zp(a:Uq)(xs:List (NK×Uq×h6)):Heap->Prop:=λh=>xs.length<=D2/\(a==KG)=Up /\
 ∃o es ep,h.get? a=S o/\o.ExactDict/\o.data=.dict es ep/\es.toList=xs.map (λx=>(⟨DK x.1,.ref x.2.1,x.2.2⟩:Mm))/\(xs.map (·.1)).Nodup
noncomputable def Kt1(H:Hp):Int ⊕ List Int->V->Prop
 |.inl i,v=>v=.int i
 |.inr ks,v=>∃b,v=.ref b/\H b=S (.tup (ks.map V.int))
def Kt(H:Hp)(k:NK)(b:Uq):Prop:=∃vs,H b=S (.tup vs)/\Kv (Kt1 H) k vs
theorem Kt.keeps{k:NK}(x:Kt H k b)(j:∀b ys,H b=S (.tup ys)->H' b=S (.tup ys)):Kt H' k b:=by
 obtain⟨vs,e,p⟩:=x;refine⟨vs,j _ _ e,U0 p λq v z=>?_⟩
 cases q with
 |inl i=>exact z
 |inr ks=>obtain⟨c,e,q⟩:=z;exact⟨c,e,j _ _ q⟩
end
namespace Mi
variable{a p:Uq}{K:Frag}{H H':Hp}{xs vs:List V}{i:Nat}{v:V}{x:Str}{σ:St}{ho:HO}{X:Cx}{e:Expr}
section
inductive D where
 |non|bl (b:Bool)|int (i:Int)|str (x:Str)|tup (ds:List D)|con (ds:List D)|ref (a:Uq)|fn (x:Str)
inductive O where
 |lst (ds:List D)
 |dct (t:Bool) (kvs:List (D×D))
 |fdc (kvs:List (D×D))
 |dcn (kvs:List (NK×D))
 |fdn (kvs:List (NK×D))
 |tab (pos:Pos) (q:Str)
noncomputable abbrev Mem:=Uq->Option O
noncomputable def fz:Option O->Bool
 |some (.lst _)=>Up
 |some (.dct _ _)=>Up
 |some (.dcn _)=>Up
 |some (.tab _ _)=>Up
 |_=>Uo
noncomputable abbrev au:=List (Option D)
noncomputable def ag(M:Mem)(a:Uq)(o:O):Mem:=λb=>if b=a then S o else M b
theorem aa{M:Mem}{o:O}:ag M a o a=S o:=by unfold ag;rw[if_pos rfl]
theorem ai{M:Mem}{b:Uq}{o:O}(h:b≠a):ag M a o b=M b:=by unfold ag;rw[if_neg h]
def SqF(K:Frag)(H:Hp)(a:Uq)(xs:List V):Prop:=
 (∃o,H a=S (.frz o (.lst xs))) ∨
  ∃(o:Obj) (its:Array h6) (n:Nat),K.lookup a=S o/\o.cls=.type "list"/\o.dict=Z/\o.data=.seq its n/\its.size<=D2/\Vals xs its.toList
theorem SqF.sq(h:SqF K H a xs):SqL K H a xs:=by
 rcases h with⟨o,h⟩|h
 ·exact .inl (.inr ⟨o,h⟩)
 ·exact .inr h
noncomputable def fk2:Bool:=Uo
noncomputable def fk3:Bool:=Uo
noncomputable def fk:List D->Bool
 |[.int _,.int _,.int _]=>Uo
 |[.tup _,_]=>Uo
 |[.int _,_]=>fk2
 |[]=>Up
 |_=>fk3
def TupR(K:Frag)(H:Hp)(ds:List D)(a:Uq)(vs:List V):Prop:=H a=S (.tup vs)∨(fk ds=Up/\SqT K H a vs)
theorem TupR.sq{ds:List D}(h:TupR K H ds a vs):SqT K H a vs:=h.elim SqT.of (·.2)
mutual
noncomputable def RD(K:Frag)(H:Hp):D->V->Prop
 |.non,v=>v=.non
 |.bl b,v=>v=.bl b
 |.int i,v=>v=.int i
 |.str x,v=>v=.str x
 |.tup ds,v=>∃a vs,v=.ref a/\TupR K H ds a vs/\RDs K H ds vs
 |.con ds,v=>∃a vs,v=.ref a/\SqF K H a vs/\RDs K H ds vs
 |.ref a,v=>v=.ref a
 |.fn x,v=>∃f,v=.ref f/\ND K KR x=S (S (.ref f))
noncomputable def RDs(K:Frag)(H:Hp):List D->List V->Prop
 |[],vs=>vs=[]
 |d::ds,vs=>∃v r,vs=v::r/\RD K H d v/\RDs K H ds r
end
structure Stab(H H':Hp):Prop where
 tup:∀a xs,H a=S (.tup xs)->H' a=S (.tup xs)
 frz:∀a o u,H a=S (.frz o u)->H' a=S (.frz o u)
theorem Stab.sqT(st:Stab H H')(h:SqT K H a xs):SqT K H' a xs:=by
 rcases h with(h|⟨o,h⟩)|h
 ·exact .inl (.inl (st.tup _ _ h))
 ·exact .inl (.inr ⟨o,st.frz _ _ _ h⟩)
 ·exact .inr h
theorem Stab.sqF(st:Stab H H')(h:SqF K H a xs):SqF K H' a xs:=by
 rcases h with⟨o,h⟩|h
 ·exact .inl ⟨o,st.frz _ _ _ h⟩
 ·exact .inr h
mutual
theorem RD.mono{K:Frag}{H H':Hp}(st:Stab H H'):∀{d:D} {v:V},RD K H d v->RD K H' d v
 |.non,_,h=>h
 |.bl _,_,h=>h
 |.int _,_,h=>h
 |.str _,_,h=>h
 |.tup ds,v,h=>by unfold RD at h⊢;obtain⟨a,vs,e,q,r⟩:=h;exact⟨a,vs,e,q.imp (st.tup _ _) (λz=>⟨z.1,st.sqT z.2⟩),RDs.mono st r⟩
 |.con ds,v,h=>by unfold RD at h⊢;obtain⟨a,vs,e,q,r⟩:=h;exact⟨a,vs,e,st.sqF q,RDs.mono st r⟩
 |.ref _,_,h=>h
 |.fn _,_,h=>by unfold RD at h⊢;exact h
theorem RDs.mono{K:Frag}{H H':Hp}(st:Stab H H'):∀{ds:List D} {vs:List V},RDs K H ds vs->RDs K H' ds vs
 |[],_,h=>h
 |d::ds,vs,h=>by unfold RDs at h⊢;obtain⟨v,r,e,h1,h2⟩:=h;exact⟨v,r,e,RD.mono st h1,RDs.mono st h2⟩
end
section
variable{K:Frag}{H H':Hp}
theorem TV{i:Int}:RD K H (.int i) v↔v=.int i:=by unfold RD;exact Tq
theorem TY{b:Bool}:RD K H (.bl b) v↔v=.bl b:=by unfold RD;exact Tq
theorem U2:RD K H .non v↔v=.non:=by unfold RD;exact Tq
theorem U1:RD K H (.str x) v↔v=.str x:=by unfold RD;exact Tq
theorem TX:RD K H (.ref a) v↔v=.ref a:=by unfold RD;exact Tq
theorem Ue:RD K H (.fn x) v↔∃f,v=.ref f/\ND K KR x=S (S (.ref f)):=by rw[RD]
theorem U8{ds:List D}:RD K H (.tup ds) v↔∃a vs,v=.ref a/\TupR K H ds a vs/\RDs K H ds vs:=by rw[RD]
theorem U9{ds:List D}(h:∃a vs,v=.ref a/\H a=S (.tup vs)/\RDs K H ds vs):RD K H (.tup ds) v:=U8.mpr (let⟨a,vs,e,h,r⟩:=h; ⟨a,vs,e,.inl h,r⟩)
theorem U4{ds:List D}(h:RD K H (.tup ds) v):∃a vs,v=.ref a/\SqT K H a vs/\RDs K H ds vs:=let⟨a,vs,e,h,r⟩:=U8.mp h; ⟨a,vs,e,h.sq,r⟩
theorem Ui{ds:List D}(f:fk ds=Uo)(h:RD K H (.tup ds) v):∃a vs,v=.ref a/\H a=S (.tup vs)/\RDs K H ds vs:=let⟨a,vs,e,h,r⟩:=U8.mp h; ⟨a,vs,e,h.elim id λz=>(by rw[f]at z;cases z.1),r⟩
theorem U3{ds:List D}:RD K H (.con ds) v↔∃a vs,v=.ref a/\SqF K H a vs/\RDs K H ds vs:=by rw[RD]
theorem RDs.nil_iff:RDs K H [] vs↔vs=[]:=by rw[RDs]
theorem TZ{d:D}{ds:List D}:RDs K H (d::ds) vs↔∃v r,vs=v::r/\RD K H d v/\RDs K H ds r:=by rw[RDs]
theorem RDs.nil:RDs K H [] []:=RDs.nil_iff.mpr rfl
theorem RDs.cons{d:D}{ds:List D}{v:V}{vs:List V}(h:RD K H d v)(r:RDs K H ds vs):RDs K H (d::ds) (v::vs):=TZ.mpr ⟨v,vs,rfl,h,r⟩
theorem RDs.length:∀{ds:List D} {vs:List V},RDs K H ds vs->vs.length=ds.length
 |[],_,h=>by rw[RDs.nil_iff.mp h];rfl
 |d::ds,_,h=>by obtain⟨v,r,rfl,_,h2⟩:=TZ.mp h;simp[RDs.length h2]
theorem RDs.get:∀{ds:List D} {vs:List V} {i:Nat} {d:D},RDs K H ds vs->ds[i]?=S d->∃v,vs[i]?=S v/\RD K H d v
 |[],_,_,_,_,e=>by simp at e
 |d::ds,_,0,d',h,e=>by obtain⟨v,r,rfl,h1,h2⟩:=TZ.mp h;simp at e;subst e;exact⟨v,rfl,h1⟩
 |d::ds,_,i+1,d',h,e=>by
  obtain⟨v,r,rfl,h1,h2⟩:=TZ.mp h;obtain⟨u,j,z⟩:=RDs.get (i:=i) (d:=d') h2 (by simpa using e)
  exact⟨u,by simpa using j,z⟩
theorem RDs.getV{ds:List D}(h:RDs K H ds vs)(e:vs[i]?=S v):∃d,ds[i]?=S d/\RD K H d v:=by
 have F:=h.length;have hi:i<vs.length:=(JO.mp e).1;obtain⟨d,hd⟩:∃d,ds[i]?=S d:=⟨ds[i]'∅,JF ∅⟩
 obtain⟨u,j,z⟩:=h.get hd;rw[e]at j;cases j;exact⟨d,hd,z⟩
theorem RDs.append:∀{ds es:List D} {vs us:List V},RDs K H ds vs->RDs K H es us->RDs K H (ds++es) (vs++us)
 |[],_,_,_,h,q=>by rw[RDs.nil_iff.mp h];exact q
 |d::ds,_,_,_,h,q=>by obtain⟨v,r,rfl,h1,h2⟩:=TZ.mp h;exact RDs.cons h1 (RDs.append h2 q)
theorem RDs.take:∀{ds:List D} {vs:List V} (n:Nat),RDs K H ds vs->RDs K H (ds.take n) (vs.take n)
 |[],_,n,h=>by rw[RDs.nil_iff.mp h];simp;exact RDs.nil
 |_::_,_,0,h=>by simp;exact RDs.nil
 |d::ds,_,n+1,h=>by obtain⟨v,r,rfl,h1,h2⟩:=TZ.mp h;exact RDs.cons h1 (RDs.take n h2)
theorem RDs.drop:∀{ds:List D} {vs:List V} (n:Nat),RDs K H ds vs->RDs K H (ds.drop n) (vs.drop n)
 |[],_,n,h=>by rw[RDs.nil_iff.mp h];simp;exact RDs.nil
 |d::ds,_,0,h=>h
 |d::ds,_,n+1,h=>by obtain⟨v,r,rfl,h1,h2⟩:=TZ.mp h;exact RDs.drop n h2
theorem RDs.set:∀{ds:List D} {vs:List V} (n:Nat) {d:D} {v:V},RD K H d v->RDs K H ds vs->RDs K H (ds.set n d) (vs.set n v)
 |[],_,n,_,_,_,h=>by rw[RDs.nil_iff.mp h];exact RDs.nil
 |d::ds,_,0,_,_,q,h=>by obtain⟨v,r,rfl,h1,h2⟩:=TZ.mp h;exact RDs.cons q h2
 |d::ds,_,n+1,_,_,q,h=>by obtain⟨v,r,rfl,h1,h2⟩:=TZ.mp h;exact RDs.cons h1 (RDs.set n q h2)
theorem RDs.reverse{ds:List D}(h:RDs K H ds vs):RDs K H ds.reverse vs.reverse:=by
 induction ds generalizing vs with
 |nil=>rw[RDs.nil_iff.mp h];exact RDs.nil
 |cons d ds ih=>obtain⟨v,r,rfl,h1,h2⟩:=TZ.mp h;rw[Oc,Oc];exact(ih h2).append (RDs.cons h1 RDs.nil)
theorem RDs.rep{ds:List D}(h:RDs K H ds vs):∀k:Nat,RDs K H (JZ k ds).flatten (JZ k vs).flatten
 |0=>RDs.nil
 |k+1=>by rw[Lg,Lg,LV,LV];exact h.append (h.rep k)
theorem RDs.ints:∀(ns:List Int),RDs K H (ns.map D.int) (ns.map V.int)
 |[]=>RDs.nil
 |n::ns=>RDs.cons (TV.mpr rfl) (RDs.ints ns)
end
mutual
noncomputable def D.eqb:D->D->Bool
 |.non,.non=>Uo
 |.bl a,.bl b=>a==b
 |.int a,.int b=>decide (a=b)
 |.str a,.str b=>decide (a=b)
 |.tup a,.tup b=>D.eqbs a b
 |.con a,.con b=>D.eqbs a b
 |.ref a,.ref b=>decide (a=b)
 |.fn a,.fn b=>decide (a=b)
 |_,_=>Up
noncomputable def D.eqbs:List D->List D->Bool
 |[],[]=>Uo
 |a::r,b::s=>D.eqb a b&&D.eqbs r s
 |_,_=>Up
end
mutual
theorem Ug:∀(a b:D),D.eqb a b=Uo->a=b
 |.non,b,h=>by cases b<;>first|rfl|cases h
 |.bl a,b,h=>by cases b<;>first|exact congrArg D.bl (Mn h)|cases h
 |.int a,b,h=>by cases b<;>first|exact congrArg D.int (of_decide_eq_true h)|cases h
 |.str a,b,h=>by cases b<;>first|exact congrArg D.str (of_decide_eq_true h)|cases h
 |.tup a,b,h=>by cases b<;>first|exact congrArg D.tup (Ua a _ h)|cases h
 |.con a,b,h=>by cases b<;>first|exact congrArg D.con (Ua a _ h)|cases h
 |.ref a,b,h=>by cases b<;>first|exact congrArg D.ref (of_decide_eq_true h)|cases h
 |.fn a,b,h=>by cases b<;>first|exact congrArg D.fn (of_decide_eq_true h)|cases h
theorem Ua:∀(a b:List D),D.eqbs a b=Uo->a=b
 |[],b,h=>by cases b<;>first|rfl|cases h
 |a::r,b,h=>by
  cases b with
  |nil=>cases h
  |cons b s=>have h:=(i5 _ _).mp h;rw[Ug a b h.1,Ua r s h.2]
end
mutual
theorem Ub:∀(a:D),D.eqb a a=Uo
 |.non=>rfl
 |.bl a=>beq_self_eq_true a
 |.int _=>decide_eq_true rfl
 |.str _=>decide_eq_true rfl
 |.tup a=>U7 a
 |.con a=>U7 a
 |.ref _=>decide_eq_true rfl
 |.fn _=>decide_eq_true rfl
theorem U7:∀(a:List D),D.eqbs a a=Uo
 |[]=>rfl
 |a::r=>(i5 _ _).mpr ⟨Ub a,U7 r⟩
end
noncomputable instance:DecidableEq D:=λa b=>if h:D.eqb a b=Uo then isTrue (Ug a b h)else isFalse λe=>h (by rw[e];exact Ub b)
noncomputable def RKey:D->Key->Prop
 |.int i,k=>k=.inl i
 |.str x,k=>k=.inr x
 |_,_=>False
noncomputable def RKeys:D->List Key->Prop
 |.tup ds,ks=>Kv RKey ds ks
 |_,_=>False
noncomputable def dget(kvs:List (D×D))(k:D):Option D:=(kvs.find? λp=>decide (p.1=k)).map (·.2)
noncomputable def gz(kvs:List (D×D))(k v:D):List (D×D):=if(kvs.any λp=>decide (p.1=k))=Uo then kvs.map (λp=>if p.1=k then(p.1,v)else p)else kvs++[(k,v)]
noncomputable def eP(kvs:List (D×D))(k:D):List (D×D):=kvs.filter λp=>decide (p.1≠k)
noncomputable def dG:D->Bool
 |.int _=>Uo
 |.str _=>Uo
 |_=>Up
noncomputable def ef:D->Bool
 |.tup ds=>ds.all dG&&fk ds
 |_=>Up
noncomputable def eQ(t:Bool)(k:D):Bool:=if t then ef k else dG k
theorem gA{k:D}(h:dG k=Uo):∃q,RKey k q:=by cases k<;>first|(simp[dG]at h;done)|exact⟨_,rfl⟩
theorem rj:∀{ds:List D},ds.all dG=Uo->∃ks,Kv RKey ds ks
 |[],_=>⟨[],.nil⟩
 |d::ds,h=>by simp only[My,i5]at h;obtain⟨k,hk⟩:=gA h.1;obtain⟨ks,hs⟩:=rj h.2;exact⟨k::ks,.cons hk hs⟩
theorem rl{k:D}(h:ef k=Uo):∃q,RKeys k q:=by cases k<;>first|(simp[ef]at h;done)|exact rj (OK.mp h).1
theorem rp{ds:List D}(h:ef (.tup ds)=Uo):fk ds=Uo:=(OK.mp h).2
noncomputable def RO(K:Frag)(H:Hp)(a:Uq):O->Prop
 |.lst ds=>∃vs,H a=S (.lst vs)/\RDs K H ds vs
 |.dct Up kvs=>∃ps,H a=S (.dK ps)/\Kv (λ(p:D×D) (q:Key×V)=>RKey p.1 q.1/\RD K H p.2 q.2) kvs ps
 |.dct Uo kvs=>∃ps,H a=S (.dT ps)/\Kv (λ(p:D×D) (q:List Key×V)=>RKeys p.1 q.1/\RD K H p.2 q.2) kvs ps
 |.fdc kvs=>∃o ps,H a=S (.frz o (.dT ps))/\Kv (λ(p:D×D) (q:List Key×V)=>RKeys p.1 q.1/\RD K H p.2 q.2) kvs ps
 |.dcn kvs=>∃xs,H a=S (.ext (zp a xs))/\Kv (λ(p:NK×D) (q:NK×Uq×h6)=>p.1=q.1/\Kt H q.1 q.2.1/\∃v,RelV v q.2.2/\RD K H p.2 v) kvs xs
 |.fdn kvs=>∃o xs,H a=S (.frz o (.ext (zp a xs)))/\Kv (λ(p:NK×D) (q:NK×Uq×h6)=>p.1=q.1/\Kt H q.1 q.2.1/\∃v,RelV v q.2.2/\RD K H p.2 v) kvs xs
 |.tab pos q=>ET H a pos q
def RM(K:Frag)(M:Mem)(H:Hp):Prop:=∀a o,M a=S o->RO K H a o
def RS(K:Frag)(H:Hp)(σ:St)(ρ:au):Prop:=σ.length=ρ.length/\∀(i:Nat) (d:D),ρ[i]?=S (S d)->∃v,σ[i]?=S (S v)/\RD K H d v
structure Ext(M:Mem)(H:Hp)(M':Mem)(H':Hp):Prop where
 kp:∀a o,fz (M a)=Uo->H a=S o->H' a=S o
 nw:∀a o,fz (M a)=Uo->H a=S o->M' a=M a
section
variable{K:Frag}{M M' M'':Mem}{H H' H'':Hp}
theorem Ext.keep(x:Ext M H M' H')(a:Uq)(o:HO)(n:M a=Z)(e:H a=S o):H' a=S o:=x.kp a o (by rw[n];rfl) e
theorem Ext.new(x:Ext M H M' H')(a:Uq)(o:HO)(n:M a=Z)(e:H a=S o):M' a=Z:=(x.nw a o (by rw[n];rfl) e).trans n
theorem Ext.refl:Ext M H M H:=⟨λ_ _ _ h=>h,λ_ _ _ _=>rfl⟩
theorem Ext.trans(a:Ext M H M' H')(b:Ext M' H' M'' H''):Ext M H M'' H'':=⟨λc o n h=>b.kp c o (by rw[a.nw c o n h];exact n) (a.kp c o n h),λc o n h=>(b.nw c o (by rw[a.nw c o n h];exact n) (a.kp c o n h)).trans (a.nw c o n h)⟩
theorem RM.mut(r:RM K M H){o:O}(h:M a=S o):∃ho,H a=S ho/\(∀xs,ho≠.tup xs)/\(fz (S o)=Up->∀ob u,ho≠.frz ob u):=by
 have q:=r a o h
 cases o with
 |lst ds=>obtain⟨vs,e,_⟩:=q;exact⟨_,e,λ_ z=>(by cases z),λ_ _ _ z=>(by cases z)⟩
 |dct t kvs=>
  cases t with
  |false=>obtain⟨ps,e,_⟩:=q;exact⟨_,e,λ_ z=>(by cases z),λ_ _ _ z=>(by cases z)⟩
  |true=>obtain⟨ps,e,_⟩:=q;exact⟨_,e,λ_ z=>(by cases z),λ_ _ _ z=>(by cases z)⟩
 |fdc kvs=>obtain⟨ob,ps,e,_⟩:=q;exact⟨_,e,λ_ z=>(by cases z),λz=>(by cases z)⟩
 |fdn kvs=>obtain⟨ob,ps,e,_⟩:=q;exact⟨_,e,λ_ z=>(by cases z),λz=>(by cases z)⟩
 |dcn kvs=>obtain⟨xs,e,_⟩:=q;exact⟨_,e,λ_ z=>(by cases z),λ_ _ _ z=>(by cases z)⟩
 |tab pos u=>obtain⟨ps,e,_⟩:=q;exact⟨_,e,λ_ z=>(by cases z),λ_ _ _ z=>(by cases z)⟩
theorem RM.fzT(r:RM K M H)(e:H a=S (.tup xs)):M a=Z:=by
 cases q:M a with
 |none=>rfl
 |some o=>obtain⟨ho,j,z,_⟩:=r.mut q;rw[e]at j;cases j;exact absurd rfl (z xs)
theorem RM.fzF(r:RM K M H){ob:Obj}{u:HO}(e:H a=S (.frz ob u)):fz (M a)=Uo:=by
 cases q:M a with
 |none=>rfl
 |some o=>
  obtain⟨ho,j,_,F⟩:=r.mut q;rw[e]at j;cases j
  cases z:fz (S o)with
  |true=>rfl
  |false=>exact absurd rfl (F z ob u)
theorem RM.out(r:RM K M H)(h:H a=Z):M a=Z:=by
 cases e:M a with
 |none=>rfl
 |some o=>obtain⟨ho,q,_⟩:=r.mut e;rw[h]at q;cases q
theorem Ext.stab(r:RM K M H)(x:Ext M H M' H'):Stab H H' where
 tup:=λa xs e=>x.keep a _ (r.fzT e) e
 frz:=λa o u e=>x.kp a _ (r.fzF e) e
theorem RS.mono(st:Stab H H'){ρ:au}(h:RS K H σ ρ):RS K H' σ ρ:=⟨h.1,λi d e=>let⟨v,q,r⟩:=h.2 i d e; ⟨v,q,r.mono st⟩⟩
theorem RS.set{ρ:au}(h:RS K H σ ρ)(i:Nat){d:D}(r:RD K H d v):RS K H (σ.set i (S v)) (ρ.set i (S d)):=by
 refine⟨by simp[h.1],λj e q=>?_⟩
 by_cases hij:i=j
 ·subst hij;have hi:i<ρ.length:=by
   have:=(JO.mp q).1;simpa using this
  rw[Ku hi]at q
  cases q
  exact⟨v,by rw[Ku (by rw[h.1];exact hi)],r⟩
 ·rw[Mq hij]at q⊢;exact h.2 j e q
noncomputable def sP(fr:List (Option Nat))(ρ:au):au:=fr.map λo=>o.bind λj=>(ρ[j]?).join
theorem RS.inh{ρ:au}(h:RS K H σ ρ)(fr:List (Option Nat)):RS K H (inh fr σ) (sP fr ρ):=by
 refine⟨by simp[L2.inh,sP],λi d e=>?_⟩
 unfold sP at e;unfold L2.inh;rw[KA]at e⊢
 cases q:fr[i]? with
 |none=>rw[q]at e;cases e
 |some o=>
  rw[q]at e
  cases o with
  |none=>cases e
  |some j=>
   have e':S ((ρ[j]?).join)=S (S d):=e
   cases q':ρ[j]? with
   |none=>rw[q']at e';cases e'
   |some w=>
    rw[q']at e'
    cases e'
    obtain⟨v,v1,v2⟩:=h.2 j d q';exact⟨v,by simp[v1],v2⟩
theorem RO.mono(st:Stab H H'){o:O}(h:RO K H a o)(e:∀ho,H a=S ho->H' a=S ho):RO K H' a o:=by
 cases o with
 |lst ds=>obtain⟨vs,q,r⟩:=h;exact⟨vs,e _ q,r.mono st⟩
 |dct t kvs=>
  cases t with
  |false=>obtain⟨ps,q,r⟩:=h;exact⟨ps,e _ q,U0 r λ_ _ z=>⟨z.1,z.2.mono st⟩⟩
  |true=>obtain⟨ps,q,r⟩:=h;exact⟨ps,e _ q,U0 r λ_ _ z=>⟨z.1,z.2.mono st⟩⟩
 |fdc kvs=>obtain⟨ob,ps,q,r⟩:=h;exact⟨ob,ps,e _ q,U0 r λ_ _ z=>⟨z.1,z.2.mono st⟩⟩
 |fdn kvs=>obtain⟨ob,xs,q,r⟩:=h;exact⟨ob,xs,e _ q,U0 r λ_ _ j=>(by obtain⟨F,J,v,L,U⟩:=j;exact⟨F,J.keeps st.tup,v,L,U.mono st⟩)⟩
 |dcn kvs=>obtain⟨xs,q,r⟩:=h;exact⟨xs,e _ q,U0 r λ_ _ j=>(by obtain⟨F,J,v,L,U⟩:=j;exact⟨F,J.keeps st.tup,v,L,U.mono st⟩)⟩
 |tab pos u=>obtain⟨ps,Y,Um⟩:=h;exact⟨ps,e _ Y,Um.imp_right λj=>(by obtain⟨c',oc,vs,t,F,J,L⟩:=j;exact⟨c',oc,vs,t,F,st.frz _ _ _ J,L⟩)⟩
theorem RM.new(r:RM K M H)(n:H p=Z):RM K M (upd H p ho):=λa o e=>by
 have ne:a≠p:=λz=>by subst z;obtain⟨_,q,_⟩:=r.mut e;rw[n]at q;cases q
 refine(r a o e).mono ⟨λb xs q=>?_,λb o u q=>?_⟩ λj q=>by rw[aj ne];exact q
 ·rw[aj (bh q n)];exact q
 ·rw[aj (bh q n)];exact q
theorem U5(n:H p=Z):Ext M H M (upd H p ho):=⟨λa o _ e=>by rw[aj (bh e n)];exact e,λ_ _ _ _=>rfl⟩
theorem RM.lay{o:O}(r:RM K M H)(n:H p=Z)(h:RO K (upd H p ho) p o):RM K (ag M p o) (upd H p ho):=λa o' e=>by
 by_cases z:a=p
 ·subst z;rw[aa]at e;cases e;exact h
 ·rw[ai z]at e;exact r.new n a o' e
theorem Ext.lay{o:O}(n:H p=Z):Ext M H (ag M p o) (upd H p ho):=⟨λa u _ e=>by rw[aj (bh e n)];exact e,λa u m e=>by rw[ai (bh e n)]⟩
theorem RM.put{o o0:O}(r:RM K M H)(m:M p=S o0)(h:RO K (upd H p ho) p o)(w:fz (S o0)=Up:=by rfl):RM K (ag M p o) (upd H p ho):=λa o' e=>by
 by_cases z:a=p
 ·subst z;rw[aa]at e;cases e;exact h
 ·rw[ai z]at e;obtain⟨U,j,F,J⟩:=r.mut m;refine(r a o' e).mono ⟨λb xs q=>?_,λb o u q=>?_⟩ λL q=>by rw[aj z];exact q
  ·rw[aj (λz=>by subst z;rw[j]at q;cases q;exact F xs rfl)];exact q
  ·rw[aj (λz=>by subst z;rw[j]at q;cases q;exact J w o u rfl)];exact q
theorem Ext.put{o o0:O}(m:M p=S o0)(w:fz (S o0)=Up:=by rfl):Ext M H (ag M p o) (upd H p ho):=⟨λa u n e=>by rw[aj (λz=>by subst z;rw[m,w]at n;cases n)];exact e,λa u n e=>ai (λz=>by subst z;rw[m,w]at n;cases n)⟩
theorem RM.stabPut{o0:O}(r:RM K M H)(m:M p=S o0)(w:fz (S o0)=Up:=by rfl):Stab H (upd H p ho):=(Ext.put (o:=o0) (ho:=ho) m w).stab r
end
noncomputable abbrev QD:=D->Mem->Prop
noncomputable abbrev TEd:=au->Mem->QD->Prop
noncomputable abbrev TTd:=au->Mem->(Bool->Mem->Prop)->Prop
noncomputable abbrev TAd:=au->Mem->(List D->Mem->Prop)->Prop
structure bj where
 nx:au->Mem->Prop
 rt:QD
 bk:au->Mem->Prop:=λ_ _=>False
 ct:au->Mem->Prop:=λ_ _=>False
noncomputable abbrev TSd:=bj->au->Mem->Prop
def af(T:TEd):Prop:=∀ρ M Q Q',(∀d M',Q d M'->Q' d M')->T ρ M Q->T ρ M Q'
def aN(T:TTd):Prop:=∀ρ M Q Q',(∀d M',Q d M'->Q' d M')->T ρ M Q->T ρ M Q'
def bb(T:TAd):Prop:=∀ρ M Q Q',(∀d M',Q d M'->Q' d M')->T ρ M Q->T ρ M Q'
structure LeD(a b:bj):Prop where
 nx:∀ρ M,a.nx ρ M->b.nx ρ M
 rt:∀d M,a.rt d M->b.rt d M
 bk:∀ρ M,a.bk ρ M->b.bk ρ M
 ct:∀ρ M,a.ct ρ M->b.ct ρ M
def aP(T:TSd):Prop:=∀a b ρ M,LeD a b->T a ρ M->T b ρ M
noncomputable def KE'(K:Frag)(M:Mem)(H:Hp)(Q:VK):QD:=λd M'=>∀v H',Ext M H M' H'->RM K M' H'->RD K H' d v->Q v H'
noncomputable def KT'(K:Frag)(M:Mem)(H:Hp)(Q:Bool->Hp->Prop):Bool->Mem->Prop:=λb M'=>∀H',Ext M H M' H'->RM K M' H'->Q b H'
noncomputable def KA'(K:Frag)(M:Mem)(H:Hp)(Q:List V->Hp->Prop):List D->Mem->Prop:=λds M'=>∀vs H',Ext M H M' H'->RM K M' H'->RDs K H' ds vs->Q vs H'
noncomputable def lE(K:Frag)(T:TEd):TE:=λσ H Q=>∃ρ M,RS K H σ ρ/\RM K M H/\T ρ M (KE' K M H Q)
noncomputable def lT(K:Frag)(T:TTd):TT:=λσ H Q=>∃ρ M,RS K H σ ρ/\RM K M H/\T ρ M (KT' K M H Q)
noncomputable def lA(K:Frag)(T:TAd):TA:=λσ H Q=>∃ρ M,RS K H σ ρ/\RM K M H/\T ρ M (KA' K M H Q)
structure Link(K:Frag)(M:Mem)(H:Hp)(a:bj)(b:bJ):Prop where
 nx:∀ρ M' σ H',Ext M H M' H'->RS K H' σ ρ->RM K M' H'->a.nx ρ M'->b.nx σ H'
 rt:∀d M' v H',Ext M H M' H'->RM K M' H'->RD K H' d v->a.rt d M'->b.rt v H'
 bk:∀ρ M' σ H',Ext M H M' H'->RS K H' σ ρ->RM K M' H'->a.bk ρ M'->b.bk σ H'
 ct:∀ρ M' σ H',Ext M H M' H'->RS K H' σ ρ->RM K M' H'->a.ct ρ M'->b.ct σ H'
noncomputable def lS(K:Frag)(T:TSd):TS:=λD σ H=>∃ρ M A,RS K H σ ρ/\RM K M H/\Link K M H A D/\T A ρ M
theorem Link.ext{M M':Mem}{a:bj}{b:bJ}(l:Link K M H a b)(x:Ext M H M' H'):Link K M' H' a b:=⟨λρ M2 σ H2 y=>l.nx ρ M2 σ H2 (x.trans y),λd M2 v H2 y=>l.rt d M2 v H2 (x.trans y),λρ M2 σ H2 y=>l.bk ρ M2 σ H2 (x.trans y),λρ M2 σ H2 y=>l.ct ρ M2 σ H2 (x.trans y)⟩
theorem PE.imp{t t':TE}(h:PE X e t)(i:∀σ H Q,t' σ H Q->t σ H Q):PE X e t':=λpins s σ H Q I q=>h pins s σ H Q I (i _ _ _ q)
theorem PT.imp{t t':TT}(h:PT X e t)(i:∀σ H Q,t' σ H Q->t σ H Q):PT X e t':=λpins s σ H Q I q=>h pins s σ H Q I (i _ _ _ q)
theorem PW.imp{t t':TT}(h:PW X e t)(i:∀σ H Q,t' σ H Q->t σ H Q):PW X e t':=λwh pins s σ H Q I q=>h wh pins s σ H Q I (i _ _ _ q)
theorem PA.imp{e:List Expr}{t t':TA}(h:PA X e t)(i:∀σ H Q,t' σ H Q->t σ H Q):PA X e t':=λp pins s σ H Q I q=>h p pins s σ H Q I (i _ _ _ q)
theorem PS.imp{e:Stmt}{t t':TS}(h:PS X e t)(i:∀D σ H,t' D σ H->t D σ H):PS X e t':=λpins s σ H D I q=>h pins s σ H D I (i _ _ _ q)
theorem PSs.imp{e:List Stmt}{t t':TS}(h:PSs X e t)(i:∀D σ H,t' D σ H->t D σ H):PSs X e t':=λpins s σ H D I q=>h pins s σ H D I (i _ _ _ q)
end
variable{M M':Mem}{ds:List D}{d:D}{Q:VK}{ta:TEd}{tr:TAd}{j:Nat}{es:List Expr}
section
theorem KE'.ext{M2:Mem}{H2:Hp}(x:Ext M H M2 H2)(h:KE' K M H Q d M'):KE' K M2 H2 Q d M':=λv H' y=>h v H' (x.trans y)
theorem KT'.ext{M2:Mem}{H2:Hp}{Q:Bool->Hp->Prop}{d:Bool}(x:Ext M H M2 H2)(h:KT' K M H Q d M'):KT' K M2 H2 Q d M':=λH' y=>h H' (x.trans y)
noncomputable abbrev R2d:=D->D->Mem->QD->Prop
noncomputable abbrev R1d:=D->Mem->QD->Prop
noncomputable abbrev RAd:=List D->Mem->QD->Prop
def az(r:R2d):Prop:=∀x y M Q Q',(∀d M',Q d M'->Q' d M')->r x y M Q->r x y M Q'
def sQ(r:R1d):Prop:=∀x M Q Q',(∀d M',Q d M'->Q' d M')->r x M Q->r x M Q'
def b8(r:RAd):Prop:=∀x M Q Q',(∀d M',Q d M'->Q' d M')->r x M Q->r x M Q'
noncomputable def l2(K:Frag)(rd:R2d):R2:=λv u H Q=>∃x y M,RM K M H/\RD K H x v/\RD K H y u/\rd x y M (KE' K M H Q)
noncomputable def l1(K:Frag)(rd:R1d):V->Hp->VK->Prop:=λv H Q=>∃x M,RM K M H/\RD K H x v/\rd x M (KE' K M H Q)
noncomputable def lR(K:Frag)(rd:RAd):List V->Hp->VK->Prop:=λvs H Q=>∃ds M,RM K M H/\RDs K H ds vs/\rd ds M (KE' K M H Q)
noncomputable def lMt(K:Frag)(rd:D->List D->Mem->QD->Prop):V->List V->Hp->VK->Prop:=λv vs H Q=>∃x ds M,RM K M H/\RD K H x v/\RDs K H ds vs/\rd x ds M (KE' K M H Q)
noncomputable def iJ(i:Nat):TEd:=λρ M Q=>∃d,ρ[i]?=S (S d)/\Q d M
noncomputable def wC(d:D):TEd:=λ_ M Q=>Q d M
noncomputable def wOp(rd:R2d)(ta tb:TEd):TEd:=λρ M Q=>ta ρ M λx M1=>tb ρ M1 λy M2=>rd x y M2 Q
noncomputable def wUn(rd:R1d)(ta:TEd):TEd:=λρ M Q=>ta ρ M λx M1=>rd x M1 Q
noncomputable def bN:TAd:=λ_ M Q=>Q [] M
noncomputable def aO(ta:TEd)(tr:TAd):TAd:=λρ M Q=>ta ρ M λx M1=>tr ρ M1 λxs M2=>Q (x::xs) M2
noncomputable def wAr(rd:RAd)(t:TAd):TEd:=λρ M Q=>t ρ M λds M1=>rd ds M1 Q
theorem xu:af (iJ i):=λ_ _ _ _ h j=>(by obtain⟨d,e,q⟩:=j;exact⟨d,e,h _ _ q⟩)
theorem jo:af (wC d):=λ_ _ _ _ h q=>h _ _ q
theorem fB{rd:R2d}{tb:TEd}(hr:az rd)(j:af ta)(z:af tb):af (wOp rd ta tb):=λρ M Q Q' h q=>j _ _ _ _ (λx M1 F=>z _ _ _ _ (λy M2 J=>hr _ _ _ _ _ h J) F) q
theorem A6{rd:R1d}(hr:sQ rd)(j:af ta):af (wUn rd ta):=λρ M Q Q' h q=>j _ _ _ _ (λx M1 z=>hr _ _ _ _ h z) q
theorem aE:bb bN:=λ_ _ _ _ h q=>h _ _ q
theorem av(j:af ta)(hr:bb tr):bb (aO ta tr):=λρ M Q Q' h q=>j _ _ _ _ (λx M1 z=>hr _ _ _ _ (λxs M2 F=>h _ _ F) z) q
theorem gZ{rd:RAd}{t:TAd}(hr:b8 rd)(j:bb t):af (wAr rd t):=λρ M Q Q' h q=>j _ _ _ _ (λds M1 z=>hr _ _ _ _ h z) q
section
variable{X:Cx}{a b:Expr}{ta tb:TEd}{pos:Pos}
theorem C5(F:X.N[i]?=S x)(j:Vis X.env.scope x)(hd:(x==("__debug__":Str))=Up)(z:(x==("__classdict__":Str))=Up):PE X (.Name x pos) (lE X.K (iJ i)):=by refine PE.imp (gp F j hd z) λσ H Q h=>?_;obtain⟨ρ,M,rs,rm,d,e,q⟩:=h;obtain⟨v,j,rd⟩:=rs.2 i d e;exact⟨v,j,q v H Ext.refl rm rd⟩
theorem le_int{i:Int}:PE X (.Constant (.int i) j pos) (lE X.K (wC (.int i))):=PE.imp Bu λσ H Q g9=>(by obtain⟨ρ,M,rs,rm,q⟩:=g9;exact q _ H Ext.refl rm (TV.mpr rfl))
theorem DL{i:Bool}:PE X (.Constant (.bool i) j pos) (lE X.K (wC (.bl i))):=PE.imp Dm λσ H Q g9=>(by obtain⟨ρ,M,rs,rm,q⟩:=g9;exact q _ H Ext.refl rm (TY.mpr rfl))
theorem C6:PE X (.Constant .none j pos) (lE X.K (wC .non)):=PE.imp ja λσ H Q g9=>(by obtain⟨ρ,M,rs,rm,q⟩:=g9;exact q _ H Ext.refl rm (U2.mpr rfl))
theorem C7:PE X (.Constant (.str x) j pos) (lE X.K (wC (.str x))):=PE.imp jb λσ H Q g9=>(by obtain⟨ρ,M,rs,rm,q⟩:=g9;exact q _ H Ext.refl rm (U1.mpr rfl))
theorem hJ{rd:R2d}(hr:az rd)(ma:af ta)(mb:af tb)(σ:St)(H:Hp)(Q:VK)(h:lE K (wOp rd ta tb) σ H Q):tOp (l2 K rd) (lE K ta) (lE K tb) σ H Q:=by obtain⟨ρ,M,rs,rm,q⟩:=h;refine⟨ρ,M,rs,rm,ma _ _ _ _ (λx M1 O v H1 x1 j z=>?_) q⟩;refine⟨ρ,M1,rs.mono (x1.stab rm),j,mb _ _ _ _ (λy M2 U u H2 L F J=>?_) O⟩;exact⟨x,y,M2,F,z.mono (L.stab j),J,hr _ _ _ _ _ (λd M' k=>k.ext (x1.trans L)) U⟩
theorem DM{op:RN}{rd:R2d}(ho:OpR X (Lj op) (l2 X.K rd))(hr:az rd)(ma:af ta)(mb:af tb)(j:PE X a (lE X.K ta))(z:PE X b (lE X.K tb)):PE X (.BinOp a op b pos) (lE X.K (wOp rd ta tb)):=PE.imp (Ds ho j z) (hJ hr ma mb)
theorem C8{op:QL}{rd:R2d}(ho:OpR X (Kb op) (l2 X.K rd))(hr:az rd)(ma:af ta)(mb:af tb)(j:PE X a (lE X.K ta))(z:PE X b (lE X.K tb))(hm:Mx op b=Up):PE X (.Compare a [op] [b] pos) (lE X.K (wOp rd ta tb)):=PE.imp (zR ho j z hm) (hJ hr ma mb)
noncomputable def dz(t:TEd):TTd:=λρ M Q=>t ρ M λx M1=>∃k,x=.bl k/\Q k M1
theorem om{t:TEd}(h:af t):aN (dz t):=λρ M Q Q' i q=>h _ _ _ _ (λx M1 j=>(by obtain⟨k,e,z⟩:=j;exact⟨k,e,i _ _ z⟩)) q
theorem on{t:TEd}(m:af t)(σ:St)(H:Hp)(Q:Bool->Hp->Prop)(h:lT K (dz t) σ H Q):sC (lE K t) σ H Q:=by obtain⟨ρ,M,rs,rm,q⟩:=h;refine⟨ρ,M,rs,rm,m _ _ _ _ (λx M1 g9 v H1 x1 j z=>?_) q⟩;obtain⟨k,e,F⟩:=g9;subst e;exact⟨k,TY.mp z,F H1 x1 j⟩
theorem C9{op:QL}{rd:R2d}(ho:OpR X (Kb op) (l2 X.K rd))(hr:az rd)(ma:af ta)(mb:af tb)(j:PE X a (lE X.K ta))(z:PE X b (lE X.K tb))(hm:Mx op b=Up):
 PT X (.Compare a [op] [b] pos) (lT X.K (dz (wOp rd ta tb))):=
 PT.imp (qY ho j z hm) λσ H Q h=>by have h1:=on (fB hr ma mb) σ H Q h;exact hJ hr ma mb σ H _ h1
theorem DN{op:UnaryOp}{rd:R1d}(ho:UnR X (unaryOp op) (l1 X.K rd))(hr:sQ rd)(ma:af ta)(F:PE X a (lE X.K ta)):PE X (.UnaryOp op a pos) (lE X.K (wUn rd ta)):=PE.imp (Dt ho F) λσ H Q g9=>(by obtain⟨ρ,M,rs,rm,q⟩:=g9;exact⟨ρ,M,rs,rm,ma _ _ _ _ (λx M1 J v H1 x1 j z=>⟨x,M1,j,z,hr _ _ _ _ (λd M' k=>k.ext x1) J⟩) q⟩)
theorem DO{rd:R2d}(ho:IxR X (l2 X.K rd))(hr:az rd)(ma:af ta)(mb:af tb)(j:PE X a (lE X.K ta))(z:PE X b (lE X.K tb))(hs:jS b):PE X (.Subscript a b pos) (lE X.K (wOp rd ta tb)):=PE.imp (Dz ho j z hs) (hJ hr ma mb)
theorem eg:PA X [] (lA X.K bN):=PA.imp dh λσ H Q g9=>(by obtain⟨ρ,M,rs,rm,q⟩:=g9;exact q _ H Ext.refl rm RDs.nil)
theorem uQ(ma:af ta)(mr:bb tr)(σ:St)(H:Hp)(Q:List V->Hp->Prop)(h:lA K (aO ta tr) σ H Q):zf (lE K ta) (lA K tr) σ H Q:=by obtain⟨ρ,M,rs,rm,q⟩:=h;refine⟨ρ,M,rs,rm,ma _ _ _ _ (λx M1 O v H1 x1 j z=>?_) q⟩;refine⟨ρ,M1,rs.mono (x1.stab rm),j,mr _ _ _ _ (λxs M2 U vs H2 L F J=>?_) O⟩;exact U (v::vs) H2 (x1.trans L) F (RDs.cons (z.mono (L.stab j)) J)
theorem bO(ma:af ta)(mr:bb tr)(j:PE X e (lE X.K ta))(hr:PA X es (lA X.K tr))(hs:JU (e::es) X.env=(Up,eval e X.env)::JU es X.env):PA X (e::es) (lA X.K (aO ta tr)):=PA.imp (bn j hr hs) (uQ ma mr)
theorem bP{rd:RAd}{t:TAd}(hr:b8 rd)(mt:bb t)(σ:St)(H:Hp)(Q:VK)(h:lE K (wAr rd t) σ H Q):tCB (lR K rd) (lA K t) σ H Q:=by obtain⟨ρ,M,rs,rm,q⟩:=h;exact⟨ρ,M,rs,rm,mt _ _ _ _ (λds M1 F vs H1 x1 j z=>⟨ds,M1,j,z,hr _ _ _ _ (λd M' k=>k.ext x1) F⟩) q⟩
noncomputable def ou:RAd:=λds M Q=>ds.length<=D2/\Q (.tup ds) M
noncomputable def sR:RAd:=λds M Q=>ds.length<=D2/\∀p,M p=Z->Q (.ref p) (ag M p (.lst ds))
theorem uR:b8 ou:=λ_ _ _ _ h j=>(by obtain⟨z,q⟩:=j;exact⟨z,h _ _ q⟩)
theorem uS:b8 sR:=λ_ _ _ _ h j=>(by obtain⟨z,q⟩:=j;exact⟨z,λp n=>h _ _ (q p n)⟩)
theorem jY(rm:RM K M H)(rd:RDs K H ds vs)(q:KE' K M H Q (.tup ds) M)(n:H p=Z):Q (.ref p) (upd H p (.tup vs)):=by have x:Ext M H M (upd H p (.tup vs)):=U5 n;exact q (.ref p) _ x (rm.new n) (U9 ⟨p,vs,rfl,ar,rd.mono (x.stab rm)⟩)
theorem fG(rm:RM K M H)(rd:RDs K H ds vs)(q:∀p,M p=Z->KE' K M H Q (.ref p) (ag M p (.lst ds)))(n:H p=Z):Q (.ref p) (upd H p (.lst vs)):=by have x:Ext M H (ag M p (.lst ds)) (upd H p (.lst vs)):=Ext.lay n;have x0:Ext M H M (upd H p (.lst vs)):=U5 n;exact q p (rm.out n) (.ref p) _ x (rm.lay n ⟨vs,ar,rd.mono (x0.stab rm)⟩) (TX.mpr rfl)
theorem Ca{t:TAd}{k:Nat}(mt:bb t)(h:PA X es (lA X.K t)):PE X (.Tuple es k pos) (lE X.K (wAr ou t)):=PE.imp (uw h) λσ H Q F=>(by obtain⟨ρ,M,rs,rm,q⟩:=F;exact⟨ρ,M,rs,rm,mt _ _ _ _ (λds M1 F vs H1 x1 J j=>(by obtain⟨z,L⟩:=F;exact⟨by rw[j.length];exact z,λp n=>jY J j (L.ext x1) n⟩)) q⟩)
theorem Cb{t:TAd}(mt:bb t)(h:PA X es (lA X.K t)):PE X (.List es pos) (lE X.K (wAr sR t)):=PE.imp (BU h) λσ H Q F=>(by obtain⟨ρ,M,rs,rm,q⟩:=F;exact⟨ρ,M,rs,rm,mt _ _ _ _ (λds M1 F vs H1 x1 J j=>(by obtain⟨z,L⟩:=F;exact⟨by rw[j.length];exact z,λp n=>fG J j (λp' n'=>(L p' n').ext x1) n⟩)) q⟩)
end
end
end Mi
namespace Mi
end Mi
section
theorem iK:fillsNumberSlot (.type "tuple") "mul"=pure Up:=PyProof.Rows.fillsNumberSlot_seq (id:="tuple.__mul__") (r:=S (.builtin "tuple.__rmul__")) F.slot_tuple_mul.lookup (by decide +kernel) F.slot_tuple_rmul.lookup (by decide +kernel)
theorem ox:seqRepeat? (.type "tuple")=pure (S (.builtin "tuple.__mul__")):=by
 unfold seqRepeat?;rw[Qa (T:="tuple") (name:="__mul__") (id:="tuple.__mul__") F.slot_tuple_mul.lookup (by decide +kernel),Qa (T:="tuple") (name:="__rmul__") (id:="tuple.__rmul__") F.slot_tuple_rmul.lookup (by decide +kernel)]
 rfl
theorem jZ(a:Int)(t:Tok)(l:Uq)(items:Array h6)(n:Nat)(d:Option Uq)(sl:Array (Option h6)):
 Meets (MB.«int.__rmul__» ⟨[.int a t,.ref l],[]⟩) (λ_ R s=>s.heap.get? l=S {cls:=.type "tuple",dict:=d,data:=.seq items n,slots:=sl}/\R (.ok (.ret Value.notImplemented)) s):=
 .of_wp λprog w A R s h=>by obtain⟨j,g,d,tk,os⟩:=s;obtain⟨z,h⟩:=h;wp_walk;exact⟨_,rfl,h⟩
open AutoSeq1 (wpAny_loadPart') in
theorem uT(l:Uq)(items:Array h6)(n:Nat)(dd:Option Uq)(sl:Array (Option h6))(x:Int)(u:Tok)(h1:-(2^63)<=x)(h2:x<2^63)(J:items.size*x.toNat<=D2):
 Meets (MB.«tuple.__mul__» ⟨[.ref l,.int x u],[]⟩) (λ_ R s=>s.heap.get? l=S {cls:=.type "tuple",dict:=dd,data:=.seq items n,slots:=sl} /\
  (if items.isEmpty || x==1 then R (.ok (.ret (.ref l))) s else R (.ok (.ret (.ref s.heap.objs.size))) {s with heap:=s.heap.push {cls:=.type "tuple",data:=.seq ((JZ x.toNat items).foldl (· ++ ·) #[])}})):=
 .of_wp λprog w A R s h=>by
  obtain⟨hp,g,d,tk,os⟩:=s;obtain⟨z,h⟩:=h;have f1:=AutoSeq1.idx_int;have L:(decide (x < -(2^63)) || decide (x≥2^63))=Up:=by rw[decide_eq_false ∅,decide_eq_false ∅];rfl
  wp_walk using N8 z
  refine wpAny_ite_false (decide_eq_false (by rw[L];decide)) ?_
  dsimp only
  by_cases j:(items.isEmpty || x==1)=Uo
  ·rw[if_pos j]at h
   wp_walk using N8 z
   exact⟨_,rfl,h⟩
  ·rw[if_neg j]at h
   wp_walk using N8 z
   simp only[OS,not_or]at j
   by_cases e2:x<=0
   ·have F:(decide (x<=0) || items.isEmpty)=Uo:=by rw[decide_eq_true e2];rfl
    rw[if_pos F];have O:x.toNat=0:=∅
    rw[O]at h
    wp_walk
    exact⟨_,rfl,h⟩
   ·have F:¬(decide (x<=0) || items.isEmpty)=Uo:=by simp;exact⟨∅,by simpa using j.1⟩
    rw[if_neg F];have hx:((items.size:Nat):Int)*x=((items.size*x.toNat:Nat):Int):=by rw[Int.natCast_mul,NI ∅]
    have hs:D2=16777216:=D0;have U:¬((items.size:Nat):Int)*x > (2^63-1) / 8:=by rw[hx];lia
    rw[if_neg U];have Y:¬Pe (((items.size:Nat):Int)*x)=Uo:=by rw[hx];unfold Pe;intro Um;have h7:=of_decide_eq_true Um;lia
    rw[if_neg Y]
    wp_walk
    have hsz:((JZ x.toNat items).foldl (· ++ ·) #[]).size<=D2:=by
     have:∀(k:Nat) (a:Array h6),((JZ k items).foldl (· ++ ·) a).size=a.size+items.size*k:=by
      intro k;induction k with
      |zero=>intro a;simp
      |succ k ih=>intro a;rw[Lg,Qz,ih,Nj,Nat.mul_succ];lia
     rw[this];simpa using J
    refine wpAny_ite_false (decide_eq_false (Tw.mpr hsz)) ?_
    wp_walk
    exact⟨_,rfl,h⟩
end
section
section
variable{X:Cx}
noncomputable def zq(K:Frag):R2:=λx y H Q=>∃l k xs,x=.ref l/\y=.int k/\SqT K H l xs /\ -(2^63)<=k/\k<2^63/\xs.length*k.toNat<=D2 /\
 ((xs=[]∨k=1)->Q (.ref l) H)/\(¬(xs=[]∨k=1)->∀p,H p=Z->Q (.ref p) (upd H p (.tup (JZ k.toNat xs).flatten)))
theorem A7:OpR X (Lj .Mult) (zq X.K):=by
 intro pins s σ H x y v u Q I rx ry h;obtain⟨l,k,xs,rfl,rfl,L,h1,h2,j,O,Y⟩:=h
 cases rx
 obtain⟨t,rfl⟩:=ry;obtain⟨its,r,Um,_⟩:=I.tuple L;have hl:=r.length;obtain⟨⟨cls,dd,dat,sl⟩,e,J,n,hd⟩:=Um;dsimp only at J hd;subst J hd;have hlen:its.toArray.size*k.toNat<=D2:=by rw[JN,<-hl];exact j
 have f0:∀m:Nat,Oq (λx1 x2=>x1++x2) #[] (JZ m its.toArray)=(JZ m its).flatten.toArray:=λm=>by have:=gx its m [];rw[Ml]at this;exact this
 refine Pn (T:="tuple") (U:="int") (by decide) ⟨_,e,rfl⟩ (λs'=>Qp s' k t) iK Ta OO ox F.slot_int_index.lookup
  (P9 OO (Qp s k t) Ss (RW _ _) (jZ k t l its.toArray n dd sl)
    ⟨e,rfl,⟨_,e,rfl⟩,P9 F.slot_tuple_mul ⟨_,e,rfl⟩ F.entry_tuple_mul (F.args_tuple_mul_2 _ _) (uT l its.toArray n dd sl k t h1 h2 hlen) ⟨e,?_⟩⟩)
 have hi:(its.toArray.isEmpty || k==1)=Uo↔(xs=[]∨k=1):=by rw[<-r.nil_iff];simp
 split
 ·next c=>exact⟨.ref l,H,I,rfl,O (hi.mp c)⟩
 ·next c=>rw[f0];refine⟨.ref s.heap.objs.size,_,I.laid (t':=s.toks) (o:=.tup (JZ k.toNat xs).flatten) (λb ob q=>n6 _ q) (JL _) ?_,rfl,Y (λz=>c (hi.mpr z)) _ (I.hok.fresh (JL _))⟩;exact⟨by rw[rg,Nat.mul_comm];exact j,_,r.rep k.toNat,R1 _ _⟩
end
end
section
section
variable{X:Cx}
theorem A8:OpR X (Lj .Add) (λx y H Q=>∃a b ys,x=.ref a/\y=.ref b/\SqT X.K H a []/\SqT X.K H b ys/\Q (.ref b) H):=by
 intro pins s σ H x y v u Q I rx ry h;obtain⟨a,b,ys,rfl,rfl,Um,hb,q⟩:=h
 cases rx
 cases ry
 obtain⟨its,r1,p1,_⟩:=I.tuple Um;obtain⟨j,r2,p2,_⟩:=I.tuple hb;have e0:its=[]:=r1.nil_iff.mpr rfl;obtain⟨⟨cls,dd,data,sl⟩,ho,U,n,hd⟩:=id p1;obtain⟨⟨Y,L,data2,O⟩,z,J,n2,hd2⟩:=id p2;simp only at U hd J hd2;subst U hd J hd2;exact RV ⟨_,ho,rfl⟩ ⟨_,z,rfl⟩ Q3 Rf O9 O2 (NN _ _)
  (tuple_addW0 a b its.toArray j.toArray n n2 dd L sl O (by simp[e0])) ⟨ho,z,⟨.ref b,H,I,rfl,q⟩⟩
end
end
namespace Mi
variable{K:Frag}{M:Mem}{H:Hp}{Q:VK}{v:V}
section
def MulOk(i j:Int):Prop:=(-(2^64)<i/\i<2^64)∨(-(2^64)<j/\j<2^64)∨(OY i<=2^20/\OY j<=2^20)
theorem MulOk.ok{i j:Int}(h:MulOk i j):IntMulOk i j:=by
 rcases h with h|h|h
 ·exact IntMulOk.of_left (intBits_le_64 h.1 h.2)
 ·exact IntMulOk.of_right (intBits_le_64 h.1 h.2)
 ·exact IntMulOk.of_bits h.1 h.2
noncomputable def eh:R2d
 |.int i,.int j,M,Q=>Q (.int (i+j)) M
 |.tup a,.tup b,M,Q=>(a≠[]∨True)/\a.length+b.length<=D2/\Q (.tup (a++b)) M
 |.ref a,.ref b,M,Q=>∃xs ys,M a=S (.lst xs)/\M b=S (.lst ys)/\xs.length+ys.length<=D2/\∀p,M p=Z->Q (.ref p) (ag M p (.lst (xs++ys)))
 |.str x,.str y,M,Q=>x.length+y.length<=D2/\Q (.str (x++y)) M
 |_,_,_,_=>False
noncomputable def oz:R2d
 |.int i,.int j,M,Q=>Q (.int (i-j)) M
 |_,_,_,_=>False
noncomputable def iL:R2d
 |.int i,.int j,M,Q=>MulOk i j/\Q (.int (i*j)) M
 |.ref a,.int k,M,Q=>∃xs,M a=S (.lst xs) /\ -(2^63)<=k/\k<2^63/\xs.length*k.toNat<=D2/\∀p,M p=Z->Q (.ref p) (ag M p (.lst (JZ k.toNat xs).flatten))
 |.tup ds,.int k,M,Q=>-(2^63)<=k/\k<2^63/\ds.length*k.toNat<=D2/\Q (.tup (JZ k.toNat ds).flatten) M
 |_,_,_,_=>False
noncomputable def jq:R2d
 |.int i,.int j,M,Q=>0<j/\j<2^256/\Q (.int (i / j)) M
 |_,_,_,_=>False
noncomputable def oB:R2d
 |.int i,.int j,M,Q=>0<j/\Q (.int (i%j)) M
 |_,_,_,_=>False
noncomputable def oC:R2d
 |.int i,.int j,M,Q=>0<=j/\j<=1000000/\i.natAbs<2^64/\Q (.int (i^j.toNat)) M
 |_,_,_,_=>False
theorem xv:az eh:=by
 intro x y M Q Q' h q
 cases x<;>cases y<;>first
  |exact q.elim
  |exact h _ _ q
  |exact⟨q.1,h _ _ q.2⟩
  |exact⟨q.1,q.2.1,h _ _ q.2.2⟩
  |(obtain⟨xs,ys,j,F,z,q⟩:=q;exact⟨xs,ys,j,F,z,λp n=>h _ _ (q p n)⟩)
theorem xw:az oz:=by
 intro x y M Q Q' h q
 cases x<;>cases y<;>first|exact q.elim|exact h _ _ q
theorem xz:az iL:=by
 intro x y M Q Q' h q
 cases x<;>cases y<;>first
  |exact q.elim
  |exact⟨q.1,h _ _ q.2⟩
  |exact⟨q.1,q.2.1,q.2.2.1,h _ _ q.2.2.2⟩
  |(obtain⟨xs,j,z,F,J,q⟩:=q;exact⟨xs,j,z,F,J,λp n=>h _ _ (q p n)⟩)
theorem uU:az jq:=by
 intro x y M Q Q' h q
 cases x<;>cases y<;>first|exact q.elim|exact⟨q.1,q.2.1,h _ _ q.2.2⟩
theorem xA:az oB:=by
 intro x y M Q Q' h q
 cases x<;>cases y<;>first|exact q.elim|exact⟨q.1,h _ _ q.2⟩
theorem xB:az oC:=by
 intro x y M Q Q' h q
 cases x<;>cases y<;>first|exact q.elim|exact⟨q.1,q.2.1,q.2.2.1,h _ _ q.2.2.2⟩
section
variable{X:Cx}
theorem OpR.of{f:h6->h6->Sem h6}{r r':R2}(h:OpR X f r)(i:∀v u H Q,r' v u H Q->r v u H Q):OpR X f r':=λpins s σ H x y v u Q I rx ry q=>h pins s σ H x y v u Q I rx ry (i _ _ _ _ q)
theorem IxR.of{r r':R2}(h:IxR X r)(i:∀v u H Q,r' v u H Q->r v u H Q):IxR X r':=λa b pins s σ H x y v u Q I rx ry q=>h a b pins s σ H x y v u Q I rx ry (i _ _ _ _ q)
theorem CallR.of{f:h6}{r r':List V->Hp->VK->Prop}(h:CallR X f r)(i:∀vs H Q,r' vs H Q->r vs H Q):CallR X f r':=λpins s σ H xs us Q I rx q=>h pins s σ H xs us Q I rx (i _ _ _ q)
theorem DP{a b:List D}{u:V}(rm:RM K M H)(rx:RD K H (.tup a) v)(ry:RD K H (.tup b) u)(q:eh (.tup a) (.tup b) M (KE' K M H Q)):zi K v u H Q∨∃a b ys,v=.ref a/\u=.ref b/\SqT K H a []/\SqT K H b ys/\Q (.ref b) H:=by
 obtain⟨a',vs,rfl,z,j⟩:=U4 rx;obtain⟨b',us,rfl,F,J⟩:=U4 ry;obtain⟨_,O,q⟩:=q;have l1:=j.length;have l2:=J.length
 by_cases L:a=[]
 ·subst L;have:vs=[]:=RDs.nil_iff.mp j;subst this;exact .inr ⟨a',b',us,rfl,rfl,z,F,q _ H Ext.refl rm ry⟩
 refine .inl ⟨a',b',vs,us,rfl,rfl,z,F,λe=>L (Kl.mp (by rw[<-l1,e];rfl)),∅,λe=>?_,λ_ p n=>jY rm (j.append J) q n⟩
 have eb:b=[]:=Kl.mp (by rw[<-l2,e];rfl)
 subst eb;rw[Kw]at q;exact q _ H Ext.refl rm rx
theorem xC:OpR X (Lj .Add) (l2 X.K eh):=by
 refine OpR.of (op_add.or ((op_catT.or A8).or (op_cat.or sH))) λv u H Q h=>?_;obtain⟨x,y,M,rm,rx,ry,q⟩:=h
 cases x<;>cases y<;>first
  |exact q.elim
  |(cases TV.mp rx;cases TV.mp ry;exact .inl ⟨_,_,rfl,rfl,q _ H Ext.refl rm (TV.mpr rfl)⟩)
  |exact .inr (.inl (DP rm rx ry q))
  | (cases TX.mp rx;cases TX.mp ry
     obtain⟨xs,ys,J,L,z,q⟩:=q;obtain⟨vs,h1,j⟩:=rm _ _ J;obtain⟨us,h2,F⟩:=rm _ _ L;have l1:=j.length;have l2:=F.length;refine .inr (.inr (.inl ⟨_,_,vs,us,rfl,rfl,h1,h2,∅,λp n=>fG rm (j.append F) q n⟩)))
  |(cases U1.mp rx;cases U1.mp ry;exact .inr (.inr (.inr ⟨_,_,rfl,rfl,q.1,q.2 _ H Ext.refl rm (U1.mpr rfl)⟩)))
theorem xE:OpR X (Lj .Sub) (l2 X.K oz):=by
 refine OpR.of BK λv u H Q h=>?_;obtain⟨x,y,M,rm,rx,ry,q⟩:=h
 cases x<;>cases y<;>first
  |exact q.elim
  |(cases TV.mp rx;cases TV.mp ry;exact⟨_,_,rfl,rfl,q _ H Ext.refl rm (TV.mpr rfl)⟩)
theorem op_mul_i:OpR X (Lj .Mult) (rI MulOk λi j=>.int (i*j)):=opI λ_ _ _ _ _ _ _ z q=>mul_int q z.ok
theorem DQ{a:List D}{k:Int}{u:V}(rm:RM K M H)(rx:RD K H (.tup a) v)(ry:RD K H (.int k) u)(q:iL (.tup a) (.int k) M (KE' K M H Q)):zq K v u H Q:=by
 obtain⟨a',vs,rfl,z,j⟩:=U4 rx
 cases TV.mp ry
 obtain⟨F,J,L,q⟩:=q;have l1:=j.length;refine⟨a',k,vs,rfl,rfl,z,F,J,by rw[l1];exact L,λe=>?_,λ_ p n=>jY rm (j.rep _) q n⟩
 have ea:(JZ k.toNat a).flatten=a:=by
  rcases e with e|e
  ·have:a=[]:=Kl.mp (by rw[<-l1,e];rfl)
   subst this;simp
  ·subst e;simp
 rw[ea]at q;exact q _ H Ext.refl rm rx
theorem xF:OpR X (Lj .Mult) (l2 X.K iL):=by
 refine OpR.of (op_mul_i.or (op_rep.or A7)) λv u H Q h=>?_;obtain⟨x,y,M,rm,rx,ry,q⟩:=h
 cases x<;>cases y<;>first
  |exact q.elim
  |(cases TV.mp rx;cases TV.mp ry;exact .inl ⟨_,_,rfl,rfl,q.1,q.2 _ H Ext.refl rm (TV.mpr rfl)⟩)
  | (cases TX.mp rx;cases TV.mp ry
     obtain⟨xs,z,F,J,L,q⟩:=q;obtain⟨vs,h1,j⟩:=rm _ _ z;have l1:=j.length;exact .inr (.inl ⟨_,_,vs,rfl,rfl,h1,F,J,by rw[l1];exact L,λp n=>fG rm (j.rep _) q n⟩))
  |exact .inr (.inr (DQ rm rx ry q))
theorem xG:OpR X (Lj .FloorDiv) (rI (λ_ j=>0<j/\j<2^256) λi j=>.int (i / j)):=L2.opI λi j _ _ _ _ _ z q=>by
 have h1:(0:Int)<j:=z.1;have h2:j<2^256:=z.2;have F:j.natAbs.log2<256:=(Nat.log2_lt ∅).mpr ∅
 exact floordiv_int ∅ (by rw[Int.fdiv_eq_ediv_of_nonneg i ∅];exact q) (.inl (PyProof.noPylong_of_log2 ∅))
theorem uW:OpR X (Lj .FloorDiv) (l2 X.K jq):=by
 refine OpR.of xG λv u H Q h=>?_;obtain⟨x,y,M,rm,rx,ry,q⟩:=h
 cases x<;>cases y<;>first
  |exact q.elim
  |(cases TV.mp rx;cases TV.mp ry;exact⟨_,_,rfl,rfl,⟨q.1,q.2.1⟩,q.2.2 _ H Ext.refl rm (TV.mpr rfl)⟩)
theorem xH:OpR X (Lj .Mod) (l2 X.K oB):=by
 refine OpR.of BL λv u H Q h=>?_;obtain⟨x,y,M,rm,rx,ry,q⟩:=h
 cases x<;>cases y<;>first
  |exact q.elim
  |(cases TV.mp rx;cases TV.mp ry;exact⟨_,_,rfl,rfl,q.1,q.2 _ H Ext.refl rm (TV.mpr rfl)⟩)
theorem xI:OpR X (Lj .Pow) (l2 X.K oC):=by
 refine OpR.of BM λv u H Q h=>?_;obtain⟨x,y,M,rm,rx,ry,q⟩:=h
 cases x<;>cases y<;>first
  |exact q.elim
  |(cases TV.mp rx;cases TV.mp ry;exact⟨_,_,rfl,rfl,⟨q.1,q.2.1,q.2.2.1⟩,q.2.2.2 _ H Ext.refl rm (TV.mpr rfl)⟩)
noncomputable def oE:R1d
 |.int i,M,Q=>Q (.int (-i)) M
 |_,_,_=>False
theorem oF:sQ oE:=by
 intro x M Q Q' h q
 cases x<;>first|exact q.elim|exact h _ _ q
theorem UnR.of{f:h6->Sem h6}{r r':V->Hp->VK->Prop}(h:UnR X f r)(i:∀v H Q,r' v H Q->r v H Q):UnR X f r':=λpins s σ H x v Q I rx q=>h pins s σ H x v Q I rx (i _ _ _ q)
theorem xJ:UnR X (unaryOp .USub) (l1 X.K oE):=by
 refine UnR.of BN λv H Q h=>?_;obtain⟨x,M,rm,rx,q⟩:=h
 cases x<;>first
  |exact q.elim
  |(cases TV.mp rx;exact⟨_,rfl,q _ H Ext.refl rm (TV.mpr rfl)⟩)
noncomputable def aA{α β:Type}(f:α->Option β):List α->Option (List β)
 |[]=>S []
 |x::xs=>(f x).bind λy=>(aA f xs).map (y :: ·)
noncomputable def rb:Nat->Mem->D->Option KQ
 |_,_,.non=>S .none
 |_,_,.bl b=>S (.bool b)
 |_,_,.int i=>S (.int i)
 |_,_,.str x=>if S8 x=Uo then S (.str x)else Z
 |n+1,M,.tup ds=>(aA (rb n M) ds).map PyData.tuple
 |n+1,M,.con ds=>(aA (rb n M) ds).map SW
 | n+1,M,.ref a=>match M a with
   |some (.lst ds)=>(aA (rb n M) ds).map SW
   |_=>Z
 |0,_,.tup _=>Z
 |0,_,.con _=>Z
 |0,_,.ref _=>Z
 |_,_,.fn _=>Z
theorem dH{n:Nat}{M:Mem}(ih:∀d p,rb n M d=S p->p.depth<=n/\p.canLay0=Uo):∀{ds:List D} {ps:List KQ},aA (rb n M) ds=S ps->LY ps<=n/\L8 ps=Uo
 |[],ps,h=>by simp[aA]at h;subst h;exact⟨LM _,rfl⟩
 |d::ds,ps,h=>by
  simp only[aA]at h
  cases e1:rb n M d with
  |none=>rw[e1]at h;cases h
  |some p=>
   rw[e1]at h
   cases e2:aA (rb n M) ds with
   |none=>simp[e2]at h
   |some qs=>
    simp[e2]at h;subst h;obtain⟨a1,a2⟩:=ih d p e1;obtain⟨z,j⟩:=dH ih e2;refine⟨?_,?_⟩
    ·show max p.depth (LY qs)<=n;lia
    ·show(p.canLay0&&L8 qs)=Uo;rw[a2,j];rfl
theorem cv{M:Mem}:∀(n:Nat) (d:D) (p:KQ),rb n M d=S p->p.depth<=n/\p.canLay0=Uo
 |n,.non,p,h=>by simp[rb]at h;subst h;exact⟨LM _,rfl⟩
 |n,.bl b,p,h=>by simp[rb]at h;subst h;exact⟨LM _,rfl⟩
 |n,.int b,p,h=>by simp[rb]at h;subst h;exact⟨LM _,rfl⟩
 |n,.str x,p,h=>by simp[rb]at h;obtain⟨h1,h2⟩:=h;subst h2;exact⟨LM _,h1⟩
 |0,.tup _,p,h=>by simp[rb]at h
 |0,.con _,p,h=>by simp[rb]at h
 |0,.ref _,p,h=>by simp[rb]at h
 |n,.fn _,p,h=>by simp[rb]at h
 |n+1,.tup ds,p,h=>by
  simp only[rb]at h
  cases e:aA (rb n M) ds with
  |none=>rw[e]at h;cases h
  |some ps=>rw[e]at h;cases h;obtain⟨a,b⟩:=dH (cv n) e;exact⟨Qb a,b⟩
 |n+1,.con ds,p,h=>by
  simp only[rb]at h
  cases e:aA (rb n M) ds with
  |none=>rw[e]at h;cases h
  |some ps=>rw[e]at h;cases h;obtain⟨a,b⟩:=dH (cv n) e;exact⟨Qb a,b⟩
 |n+1,.ref a,p,h=>by
  simp only[rb]at h
  cases e0:M a with
  |none=>rw[e0]at h;cases h
  |some o=>
   rw[e0]at h
   cases o with
   |dct _ _=>cases h
   |fdc _=>cases h
   |dcn _=>cases h
   |tab _ _=>cases h
   |fdn _=>cases h
   |lst ds=>
    simp only at h
    cases e:aA (rb n M) ds with
    |none=>rw[e]at h;cases h
    |some ps=>rw[e]at h;cases h;obtain⟨a,b⟩:=dH (cv n) e;exact⟨Qb a,b⟩
theorem dJ{K:Frag}{H:Hp}{n:Nat}{M:Mem}{h:Heap}(ih:∀d p v u,rb n M d=S p->RD K H d v->RelV v u->∃as,Od h u p as):
 ∀{ds:List D} {ps:List KQ} {vs:List V} {us:List h6},aA (rb n M) ds=S ps->RDs K H ds vs->Vals vs us->∃as,QR h us ps as
 |[],ps,vs,us,hm,r,rv=>by
  simp[aA]at hm;subst hm;rw[RDs.nil_iff.mp r]at rv
  cases rv
  exact⟨_,.nil⟩
 |d::ds,ps,vs,us,hm,r,rv=>by
  obtain⟨v,vr,rfl,j,z⟩:=TZ.mp r
  cases rv with
  |cons F J=>
   simp only[aA]at hm
   cases e1:rb n M d with
   |none=>rw[e1]at hm;cases hm
   |some p=>
    rw[e1]at hm
    cases e2:aA (rb n M) ds with
    |none=>simp[e2]at hm
    |some qs=>simp[e2]at hm;subst hm;obtain⟨as,ra⟩:=ih d p v _ e1 j F;obtain⟨bs,rbs⟩:=dJ ih e2 z J;exact⟨_,.cons ra rbs⟩
theorem bU{pins:List (Uq×Obj)}{σ:St}{H:Hp}{s:i4}{M:Mem}(I:Inv X pins σ H s)(rm:RM X.K M H):∀(n:Nat) (d:D) (p:KQ) (v:V) (u:h6),rb n M d=S p->RD X.K H d v->RelV v u->∃as,Od s.heap u p as
 |n,.non,p,v,u,h,r,q=>by simp[rb]at h;subst h;cases U2.mp r;cases q;exact⟨_,.none⟩
 |n,.bl b,p,v,u,h,r,q=>by simp[rb]at h;subst h;cases TY.mp r;cases q;exact⟨_,.bool b⟩
 |n,.int b,p,v,u,h,r,q=>by simp[rb]at h;subst h;cases TV.mp r;obtain⟨t,rfl⟩:=q;exact⟨_,.int b t⟩
 |n,.str x,p,v,u,h,r,q=>by simp[rb]at h;obtain⟨_,h2⟩:=h;subst h2;cases U1.mp r;obtain⟨t,rfl⟩:=q;exact⟨_,.str x t⟩
 |0,.tup _,p,_,_,h,_,_=>by simp[rb]at h
 |0,.con _,p,_,_,h,_,_=>by simp[rb]at h
 |0,.ref _,p,_,_,h,_,_=>by simp[rb]at h
 |n,.fn _,p,_,_,h,_,_=>by simp[rb]at h
 |n+1,.tup ds,p,v,u,h,r,q=>by
  simp only[rb]at h
  cases e:aA (rb n M) ds with
  |none=>rw[e]at h;cases h
  |some ps=>
   rw[e]at h;cases h;obtain⟨a,vs,rfl,j,rs⟩:=U4 r
   cases q
   obtain⟨its,rv,⟨o,ho,z,k,hd⟩,_⟩:=I.tuple j;obtain⟨as,ra⟩:=dJ (bU I rm n) e rs rv;exact⟨_,.tuple ho z hd (by simpa using ra)⟩
 |n+1,.con ds,p,v,u,h,r,q=>by
  simp only[rb]at h
  cases e:aA (rb n M) ds with
  |none=>rw[e]at h;cases h
  |some ps=>
   rw[e]at h;cases h;obtain⟨a,vs,rfl,j,rs⟩:=U3.mp r
   cases q
   obtain⟨its,rv,⟨o,k,ho,z,_,hd⟩,_⟩:=I.list j.sq;obtain⟨as,ra⟩:=dJ (bU I rm n) e rs rv;exact⟨_,.list ho z hd (by simpa using ra)⟩
 |n+1,.ref a,p,v,u,h,r,q=>by
  simp only[rb]at h
  cases e0:M a with
  |none=>rw[e0]at h;cases h
  |some o=>
   rw[e0]at h
   cases o with
   |dct _ _=>cases h
   |fdc _=>cases h
   |dcn _=>cases h
   |tab _ _=>cases h
   |fdn _=>cases h
   |lst ds=>
    simp only at h
    cases e:aA (rb n M) ds with
    |none=>rw[e]at h;cases h
    |some ps=>
     rw[e]at h;cases h
     cases TX.mp r
     cases q
     obtain⟨vs,j,rs⟩:=rm _ _ e0;obtain⟨its,rv,⟨o,k,ho,z,_,hd⟩,_⟩:=I.list (SqL.of j);obtain⟨as,ra⟩:=dJ (bU I rm n) e rs rv;exact⟨_,.list ho z hd (by simpa using ra)⟩
noncomputable def wEq:R2d:=λx y M Q=>∃p q,rb 16 M x=S p/\rb 16 M y=S q/\Q (.bl (Kk p q)) M
noncomputable def wNe:R2d:=λx y M Q=>∃p q,rb 16 M x=S p/\rb 16 M y=S q/\Q (.bl (!PyData.eqv p q)) M
theorem A9:az wEq:=λ_ _ _ _ _ h j=>(by obtain⟨p,q,a,b,c⟩:=j;exact⟨p,q,a,b,h _ _ c⟩)
theorem Ab:az wNe:=λ_ _ _ _ _ h j=>(by obtain⟨p,q,a,b,c⟩:=j;exact⟨p,q,a,b,h _ _ c⟩)
theorem Ac(J:X.A.units+16<Mj):OpR X (Kb .Eq) (l2 X.K wEq):=by intro pins s σ H x y v u Q I rx ry h;obtain⟨d,e,M,rm,rd,re,p,q,j,z,k⟩:=h;obtain⟨as,ra⟩:=bU I rm _ _ _ _ _ j rd rx;obtain⟨bs,rb'⟩:=bU I rm _ _ _ _ _ z re ry;obtain⟨L,p2⟩:=cv _ _ _ j;obtain⟨O,F⟩:=cv _ _ _ z;exact SeqAt.compareEq_reads ra rb' p2 F ∅ ⟨.bl _,H,I,rfl,k _ H Ext.refl rm (TY.mpr rfl)⟩
theorem Ad(J:X.A.units+16<Mj):OpR X (Kb .NotEq) (l2 X.K wNe):=by intro pins s σ H x y v u Q I rx ry h;obtain⟨d,e,M,rm,rd,re,p,q,j,z,k⟩:=h;obtain⟨as,ra⟩:=bU I rm _ _ _ _ _ j rd rx;obtain⟨bs,rb'⟩:=bU I rm _ _ _ _ _ z re ry;obtain⟨L,p2⟩:=cv _ _ _ j;obtain⟨O,F⟩:=cv _ _ _ z;exact SeqAt.compareNe_reads ra rb' p2 F ∅ ⟨.bl _,H,I,rfl,k _ H Ext.refl rm (TY.mpr rfl)⟩
noncomputable def wLt:R2d
 |.int i,.int j,M,Q=>Q (.bl (decide (i<j))) M
 |_,_,_,_=>False
noncomputable def wLe:R2d
 |.int i,.int j,M,Q=>Q (.bl (decide (i<=j))) M
 |_,_,_,_=>False
noncomputable def wGt:R2d
 |.int i,.int j,M,Q=>Q (.bl (decide (j<i))) M
 |_,_,_,_=>False
noncomputable def wGe:R2d
 |.int i,.int j,M,Q=>Q (.bl (decide (j<=i))) M
 |_,_,_,_=>False
theorem Ae:az wLt:=by
 intro x y M Q Q' h q
 cases x<;>cases y<;>first|exact q.elim|exact h _ _ q
theorem Af:az wLe:=by
 intro x y M Q Q' h q
 cases x<;>cases y<;>first|exact q.elim|exact h _ _ q
theorem Ag:az wGt:=by
 intro x y M Q Q' h q
 cases x<;>cases y<;>first|exact q.elim|exact h _ _ q
theorem Ah:az wGe:=by
 intro x y M Q Q' h q
 cases x<;>cases y<;>first|exact q.elim|exact h _ _ q
theorem Ai:OpR X (Kb .Lt) (l2 X.K wLt):=by
 refine OpR.of Du λv u H Q h=>?_;obtain⟨x,y,M,rm,rx,ry,q⟩:=h
 cases x<;>cases y<;>first
  |exact q.elim
  |(cases TV.mp rx;cases TV.mp ry;exact⟨_,_,rfl,rfl,q _ H Ext.refl rm (TY.mpr rfl)⟩)
theorem Aj:OpR X (Kb .LtE) (l2 X.K wLe):=by
 refine OpR.of Dv λv u H Q h=>?_;obtain⟨x,y,M,rm,rx,ry,q⟩:=h
 cases x<;>cases y<;>first
  |exact q.elim
  |(cases TV.mp rx;cases TV.mp ry;exact⟨_,_,rfl,rfl,q _ H Ext.refl rm (TY.mpr rfl)⟩)
theorem Ak:OpR X (Kb .Gt) (l2 X.K wGt):=by
 refine OpR.of Dw λv u H Q h=>?_;obtain⟨x,y,M,rm,rx,ry,q⟩:=h
 cases x<;>cases y<;>first
  |exact q.elim
  |(cases TV.mp rx;cases TV.mp ry;exact⟨_,_,rfl,rfl,q _ H Ext.refl rm (TY.mpr rfl)⟩)
theorem Al:OpR X (Kb .GtE) (l2 X.K wGe):=by
 refine OpR.of Dx λv u H Q h=>?_;obtain⟨x,y,M,rm,rx,ry,q⟩:=h
 cases x<;>cases y<;>first
  |exact q.elim
  |(cases TV.mp rx;cases TV.mp ry;exact⟨_,_,rfl,rfl,q _ H Ext.refl rm (TY.mpr rfl)⟩)
end
end
variable{a:Uq}{ds:List D}{vs:List V}{d x:D}
section
noncomputable def wIx:R2d:=λx y M Q=>match x with
 |.tup ds=>∃i d,y=.int i/\atI ds i=S d/\Q d M
 |.con ds=>∃i d,y=.int i/\atI ds i=S d/\Q d M
 |.ref a=>(∃ds i d,M a=S (.lst ds)/\y=.int i/\atI ds i=S d/\Q d M)∨(∃t kvs d,M a=S (.dct t kvs)/\eQ t y=Uo/\dget kvs y=S d/\Q d M)∨∃kvs d,M a=S (.fdc kvs)/\ef y=Uo/\dget kvs y=S d/\Q d M
 |_=>False
theorem rq:az wIx:=by
 intro x y M Q Q' h q
 cases x with
 |tup ds=>obtain⟨i,d,e,j,q⟩:=q;exact⟨i,d,e,j,h _ _ q⟩
 |con ds=>obtain⟨i,d,e,j,q⟩:=q;exact⟨i,d,e,j,h _ _ q⟩
 |ref a=>
  rcases q with⟨ds,i,d,z,j,F,q⟩|⟨t,kvs,d,z,j,F,q⟩|⟨kvs,d,z,j,F,q⟩
  ·exact .inl ⟨ds,i,d,z,j,F,h _ _ q⟩
  ·exact .inr (.inl ⟨t,kvs,d,z,j,F,h _ _ q⟩)
  ·exact .inr (.inr ⟨kvs,d,z,j,F,h _ _ q⟩)
 |_=>exact q.elim
theorem oG{i:Int}(r:RDs K H ds vs)(e:atI ds i=S d):∃v,atI vs i=S v/\RD K H d v:=by
 unfold atI at e⊢;rw[r.length]
 cases q:ixN ds.length i with
 |none=>rw[q]at e;cases e
 |some j=>rw[q]at e;exact r.get e
theorem fH{k:D}{q:Key}(r:RKey k q)(h:RD K H k v):v=kV q:=by
 cases k<;>first
  |exact r.elim
  |(cases(show q=_ from r);first|exact TV.mp h|exact U1.mp h)
theorem iM{K:Frag}{H:Hp}:∀{ds:List D} {ks:List Key} {vs:List V},Kv RKey ds ks->RDs K H ds vs->vs=ks.map kV
 |_,_,vs,.nil,h=>by rw[RDs.nil_iff.mp h];rfl
 |_,_,vs,.cons r t,h=>by obtain⟨v,vr,rfl,h1,h2⟩:=TZ.mp h;rw[fH r h1,iM t h2];rfl
theorem RKey.inj{e:D}{k:Key}(a:RKey d k)(b:RKey e k):d=e:=by
 cases d<;>first
  |exact a.elim
  |(cases e<;>first|exact b.elim|(cases(show k=_ from a);injection (show _=_ from b)with z;rw[z])|(cases(show k=_ from a);cases(show _=_ from b)))
theorem RKeysP.inj:∀{d e:List D} {k:List Key},Kv RKey d k->Kv RKey e k->d=e
 |_,_,_,.nil,.nil=>rfl
 |_,_,_,.cons r t,.cons r' t'=>by rw[r.inj r',RKeysP.inj t t']
theorem RKeys.inj{e:D}{k:List Key}(a:RKeys d k)(b:RKeys e k):d=e:=by
 cases d<;>first
  |exact a.elim
  |(cases e<;>first|exact b.elim|exact congrArg D.tup (RKeysP.inj a b))
theorem RKey.fun{k k':Key}(a:RKey d k)(b:RKey d k'):k=k':=by
 cases d<;>first
  |exact a.elim
  |(cases(show k=_ from a);cases(show k'=_ from b);rfl)
theorem RKeysP.fun:∀{d:List D} {k k':List Key},Kv RKey d k->Kv RKey d k'->k=k'
 |_,_,_,.nil,.nil=>rfl
 |_,_,_,.cons r t,.cons r' t'=>by rw[r.fun r',RKeysP.fun t t']
theorem RKeys.fun{k k':List Key}(a:RKeys d k)(b:RKeys d k'):k=k':=by
 cases d<;>first
  |exact a.elim
  |exact RKeysP.fun a b
section
variable{κ:Type}[DecidableEq κ]{K:Frag}{H:Hp}{RK:D->κ->Prop}(inj:∀{d e:D} {k:κ},RK d k->RK e k->d=e)(fn:∀{d:D} {k k':κ},RK d k->RK d k'->k=k')
include inj fn
theorem el{k:D}{q:κ}(hk:RK k q):∀{kvs:List (D×D)} {ps:List (κ×V)},Kv (λp r=>RK p.1 r.1/\RD K H p.2 r.2) kvs ps->
 (∀d,dget kvs k=S d->∃v,bK ps q=S v/\RD K H d v)/\(dget kvs k=Z->bK ps q=Z)
 |_,_,.nil=>⟨λd e=>by simp[dget]at e,λ_=>rfl⟩
 |_,_,.cons (a:=p) (b:=r) (l₂:=ps) hr t=>by
  obtain⟨j,F⟩:=el hk t
  by_cases e:p.1=k
  ·have e':r.1=q:=by
    have h1:=hr.1;rw[e]at h1;exact fn h1 hk
   refine⟨λd he=>?_,λhe=>?_⟩
   ·simp[dget,Lm,e]at he;subst he;exact⟨r.2,fT e',hr.2⟩
   ·simp[dget,Lm,e]at he
  ·have e':¬r.1=q:=fun z=>e (by
    have h1:=hr.1;rw[z]at h1;exact inj h1 hk)
   have eq1:∀l:List (D×D),dget (p::l) k=dget l k:=λl=>by simp[dget,Lm,e]
   have eq2:bK (r::ps) q=bK ps q:=fU e';refine⟨λd he=>?_,λhe=>?_⟩
   ·rw[eq1]at he;rw[eq2];exact j d he
   ·rw[eq1]at he;rw[eq2];exact F he
end
section
variable{X:Cx}
theorem oH{ps:List (List Key×V)}{kvs:List (D×D)}{k:D}(F:Rd H a (.dT ps))(pr:Kv (λ(p:D×D) (q:List Key×V)=>RKeys p.1 q.1/\RD K H p.2 q.2) kvs ps)(ok:ef k=Uo)(rk:RD K H k v):
 ∃o,DGet H a v o/\(∀d,dget kvs k=S d->∃w,o=S w/\RD K H d w)/\(dget kvs k=Z->o=Z):=by
 obtain⟨q,j⟩:=rl ok;obtain⟨g1,g2⟩:=el (RK:=RKeys) RKeys.inj RKeys.fun j pr;refine⟨bK ps q,?_,g1,g2⟩
 cases k<;>first
  |exact j.elim
  | (obtain⟨b,us,rfl,z,ru⟩:=Ui (rp ok) rk
     rw[iM j ru]at z;exact .inr ⟨ps,q,b,F,rfl,z,rfl⟩)
theorem kb{t:Bool}{kvs:List (D×D)}{k:D}(rm:RM K M H)(e:M a=S (.dct t kvs))(ok:eQ t k=Uo)(rk:RD K H k v):
 ∃o,DGet H a v o/\(∀d,dget kvs k=S d->∃w,o=S w/\RD K H d w)/\(dget kvs k=Z->o=Z):=by
 have ro:=rm a _ e
 cases t with
 |false=>obtain⟨ps,j,pr⟩:=ro;obtain⟨q,z⟩:=gA (show dG k=Uo from ok);obtain⟨g1,g2⟩:=el (RK:=RKey) RKey.inj RKey.fun z pr;refine⟨bK ps q,?_,g1,g2⟩;rw[fH z rk];exact DGet.k j
 |true=>obtain⟨ps,j,pr⟩:=ro;exact oH (.inl j) pr ok rk
theorem Am(j:X.A.units+1<Mj):IxR X (λx y H Q=>∃a v,x=.ref a/\DGet H a y (S v)/\Q v H):=by
 intro value slice pins s σ H x y v u Q I rx ry h hs;obtain⟨a,w,rfl,g,q⟩:=h
 cases rx
 have hd:IsD H a:=by
  rcases g with⟨kvs,k,e,_⟩|⟨kvs,k,b,e,_⟩
  ·exact .inl ⟨kvs,e⟩
  ·exact .inr ⟨kvs,e⟩
 obtain⟨z,_⟩:=ji I hd;exact tail_any z PySem.F.slot_dict_getitem.lookup (uH j I g ry λw' s' I' r'=>⟨w,H,I',r',q⟩) hs
theorem EV(L:X.A.units+1<Mj):IxR X (l2 X.K wIx):=by
 refine IxR.of (ix_list.or (ix_tup.or (Am L))) λv u H Q h=>?_;obtain⟨x,y,M,rm,rx,ry,q⟩:=h
 cases x with
 |tup ds=>
  obtain⟨i,d,rfl,e,q⟩:=q;obtain⟨a,vs,rfl,j,rs⟩:=U4 rx
  cases TV.mp ry
  obtain⟨w,hw,rw'⟩:=oG rs e;exact .inr (.inl ⟨a,vs,i,w,rfl,rfl,j,hw,q w H Ext.refl rm rw'⟩)
 |con ds=>
  obtain⟨i,d,rfl,e,q⟩:=q;obtain⟨a,vs,rfl,j,rs⟩:=U3.mp rx
  cases TV.mp ry
  obtain⟨w,hw,rw'⟩:=oG rs e;exact .inl ⟨a,vs,i,w,rfl,rfl,j.sq,hw,q w H Ext.refl rm rw'⟩
 |ref a=>
  cases TX.mp rx
  rcases q with⟨ds,i,d,z,rfl,F,q⟩|⟨t,kvs,d,z,J,F,q⟩|⟨kvs,d,z,J,F,q⟩
  ·cases TV.mp ry
   obtain⟨vs,j,rs⟩:=rm _ _ z;obtain⟨w,hw,rw'⟩:=oG rs F;exact .inl ⟨a,vs,i,w,rfl,rfl,SqL.of j,hw,q w H Ext.refl rm rw'⟩
  ·obtain⟨o,g,g1,_⟩:=kb rm z J ry;obtain⟨w,rfl,rw'⟩:=g1 d F;exact .inr (.inr ⟨a,w,rfl,g,q w H Ext.refl rm rw'⟩)
  ·obtain⟨ob,ps,O,pr⟩:=rm _ _ z;obtain⟨o,g,g1,_⟩:=oH (.inr ⟨ob,O⟩) pr J ry;obtain⟨w,rfl,rw'⟩:=g1 d F;exact .inr (.inr ⟨a,w,rfl,g,q w H Ext.refl rm rw'⟩)
 |_=>exact q.elim
noncomputable def gB(M:Mem):D->Option Nat
 |.tup ds=>S ds.length
 |.con ds=>S ds.length
 |.ref a=>match M a with
  |some (.lst ds)=>S ds.length
  |_=>Z
 |_=>Z
noncomputable def fg:RAd:=λxs M Q=>∃x n,xs=[x]/\gB M x=S n/\Q (.int n) M
theorem oJ:b8 fg:=λ_ _ _ _ h j=>(by obtain⟨x,n,e,l,q⟩:=j;exact⟨x,n,e,l,h _ _ q⟩)
theorem RDs.one(h:RDs K H [d] vs):∃v,vs=[v]/\RD K H d v:=by obtain⟨v,r,rfl,h1,h2⟩:=TZ.mp h;rw[RDs.nil_iff.mp h2];exact⟨v,rfl,h1⟩
theorem RDs.two{e:D}(h:RDs K H [d,e] vs):∃v u,vs=[v,u]/\RD K H d v/\RD K H e u:=by obtain⟨v,r,rfl,h1,h2⟩:=TZ.mp h;obtain⟨u,rfl,j⟩:=RDs.one h2;exact⟨v,u,rfl,h1,j⟩
theorem sU:CallR X (.builtin "len") (lR X.K fg):=by
 refine CallR.of wZ λvs H Q h=>?_;obtain⟨ds,M,rm,rs,x,n,rfl,l,q⟩:=h;obtain⟨v,rfl,r⟩:=rs.one;refine⟨v,n,rfl,?_,q _ H Ext.refl rm (TV.mpr rfl)⟩
 cases x with
 |tup ds=>
  cases l
  obtain⟨a,us,rfl,j,ru⟩:=U4 r;exact .inr ⟨us,j,ru.length.symm⟩
 |con ds=>
  cases l
  obtain⟨a,us,rfl,j,ru⟩:=U3.mp r;exact .inl ⟨us,j.sq,ru.length.symm⟩
 |ref a=>
  cases TX.mp r
  simp only[gB]at l
  cases e:M a with
  |none=>rw[e]at l;cases l
  |some o=>
   rw[e]at l
   cases o with
   |dct _ _=>cases l
   |fdc _=>cases l
   |dcn _=>cases l
   |tab _ _=>cases l
   |fdn _=>cases l
   |lst ds=>
    cases l
    obtain⟨us,j,ru⟩:=rm _ _ e;exact .inl ⟨us,SqL.of j,ru.length.symm⟩
 |_=>cases l
noncomputable def ke:RAd:=λxs M Q=>∃i,xs=[.int i]/\Q (.int (if i<0 then -i else i)) M
noncomputable def jr:RAd:=λxs M Q=>∃i j,xs=[.int i,.int j]/\Q (.int (if j > i then j else i)) M
noncomputable def jt:RAd:=λxs M Q=>∃i j,xs=[.int i,.int j]/\Q (.int (if j<i then j else i)) M
noncomputable def kf:RAd:=λxs M Q=>(∃i,xs=[.int i]/\Q (.int i) M)∨∃k,xs=[.bl k]/\Q (.int (if k then 1 else 0)) M
theorem oK:b8 ke:=λ_ _ _ _ h j=>(by obtain⟨i,e,q⟩:=j;exact⟨i,e,h _ _ q⟩)
theorem lu:b8 jr:=λ_ _ _ _ h z=>(by obtain⟨i,j,e,q⟩:=z;exact⟨i,j,e,h _ _ q⟩)
theorem lw:b8 jt:=λ_ _ _ _ h z=>(by obtain⟨i,j,e,q⟩:=z;exact⟨i,j,e,h _ _ q⟩)
theorem oM:b8 kf:=λ_ _ _ _ h q=>q.elim (λj=>(by obtain⟨i,e,q⟩:=j;exact .inl ⟨i,e,h _ _ q⟩)) λj=>(by obtain⟨i,e,q⟩:=j;exact .inr ⟨i,e,h _ _ q⟩)
theorem sV:CallR X (.builtin "abs") (lR X.K ke):=by
 refine CallR.of wY λvs H Q h=>?_;obtain⟨ds,M,rm,rs,i,rfl,q⟩:=h;obtain⟨v,rfl,r⟩:=rs.one
 cases TV.mp r
 exact⟨i,rfl,q _ H Ext.refl rm (TV.mpr rfl)⟩
theorem qK(z:X.calm=Uo):CallR X (.builtin "max") (lR X.K jr):=by
 refine CallR.of (uq z) λvs H Q h=>?_;obtain⟨ds,M,rm,rs,i,j,rfl,q⟩:=h;obtain⟨v,u,rfl,F,J⟩:=rs.two
 cases TV.mp F
 cases TV.mp J
 exact⟨i,j,rfl,q _ H Ext.refl rm (TV.mpr rfl)⟩
theorem qL(z:X.calm=Uo):CallR X (.builtin "min") (lR X.K jt):=by
 refine CallR.of (ur z) λvs H Q h=>?_;obtain⟨ds,M,rm,rs,i,j,rfl,q⟩:=h;obtain⟨v,u,rfl,F,J⟩:=rs.two
 cases TV.mp F
 cases TV.mp J
 exact⟨i,j,rfl,q _ H Ext.refl rm (TV.mpr rfl)⟩
theorem sW:CallR X (.type "int") (lR X.K kf):=by
 refine CallR.of ut λvs H Q h=>?_;obtain⟨ds,M,rm,rs,⟨i,rfl,q⟩|⟨i,rfl,q⟩⟩:=h
 ·obtain⟨v,rfl,r⟩:=rs.one
  cases TV.mp r
  exact .inl ⟨i,rfl,q _ H Ext.refl rm (TV.mpr rfl)⟩
 ·obtain⟨v,rfl,r⟩:=rs.one
  cases TY.mp r
  exact .inr ⟨i,rfl,q _ H Ext.refl rm (TV.mpr rfl)⟩
noncomputable def bv(M:Mem):D->Option (List D)
 |.tup ds=>S ds
 |.con ds=>S ds
 |.ref a=>match M a with
  |some (.lst ds)=>S ds
  |_=>Z
 |_=>Z
theorem fJ(rm:RM K M H)(r:RD K H x v)(e:bv M x=S ds):∃p vs,v=.ref p/\(SqL K H p vs∨SqT K H p vs)/\RDs K H ds vs:=by
 cases x with
 |tup es=>
  cases e
  obtain⟨a,us,rfl,j,ru⟩:=U4 r;exact⟨a,us,rfl,.inr j,ru⟩
 |con es=>
  cases e
  obtain⟨a,us,rfl,j,ru⟩:=U3.mp r;exact⟨a,us,rfl,.inl j.sq,ru⟩
 |ref a=>
  cases TX.mp r
  simp only[bv]at e
  cases e0:M a with
  |none=>rw[e0]at e;cases e
  |some o=>
   rw[e0]at e
   cases o with
   |dct _ _=>cases e
   |fdc _=>cases e
   |dcn _=>cases e
   |tab _ _=>cases e
   |fdn _=>cases e
   |lst es=>
    cases e
    obtain⟨us,j,ru⟩:=rm _ _ e0;exact⟨a,us,rfl,.inl (SqL.of j),ru⟩
 |_=>cases e
noncomputable def mQ:RAd:=λxs M Q=>∃x ds,xs=[x]/\bv M x=S ds/\∀p,M p=Z->Q (.ref p) (ag M p (.lst ds))
theorem lB:b8 mQ:=λ_ _ _ _ h j=>(by obtain⟨x,ds,e,l,q⟩:=j;exact⟨x,ds,e,l,λp n=>h _ _ (q p n)⟩)
theorem qM:CallR X (.type "list") (lR X.K mQ):=by refine CallR.of nU λvs H Q h=>?_;obtain⟨ds,M,rm,rs,x,es,rfl,l,q⟩:=h;obtain⟨v,rfl,r⟩:=rs.one;obtain⟨p,us,rfl,sq,ru⟩:=fJ rm r l;exact⟨p,us,rfl,sq,λl' n=>fG rm ru q n⟩
end
end
variable{e:Expr}{tA:TTd}
section
section
variable{X:Cx}
noncomputable def oO:RAd:=λxs M Q=>∃(x:D) (ns:List Int),xs=[x]/\bv M x=S (ns.map D.int)/\Q (.int ns.sum) M
theorem oP:b8 oO:=λ_ _ _ _ h j=>(by obtain⟨x,ds,e,l,q⟩:=j;exact⟨x,ds,e,l,h _ _ q⟩)
theorem RDs.ints_eq{K:Frag}{H:Hp}:∀{ns:List Int} {vs:List V},RDs K H (ns.map D.int) vs->vs=ns.map V.int
 |[],_,h=>RDs.nil_iff.mp h
 |n::ns,_,h=>by obtain⟨v,r,rfl,h1,h2⟩:=TZ.mp h;rw[TV.mp h1,RDs.ints_eq h2];rfl
theorem oQ{pins:List (Uq×Obj)}{σ:St}{s:i4}{p:Uq}{ns:List Int}{its:List h6}(I:Inv X pins σ H s)(U:X.calm=Uo)(rv:Vals (ns.map V.int) its)(q:Q (.int ns.sum) H)(h:∀(R:h6->i4->Prop),(∀I' St fp,(∀b∈fp,b<(s.heap.push I').objs.size)->St 0 (s.heap.push I')->Walks X.prog X.w X.A.in1 s.heap.objs.size fp [s.heap.objs.size] its.toArray.size (λi v=>its.toArray[i]?=S v) St->R (.ref s.heap.objs.size) {s with heap:=s.heap.push I'})->JK (model X.prog X.w) X.A.in1 (QK (.ref p)) R X.xe s):
 JK (model X.prog X.w) X.A (call (.builtin "sum") [.ref p]) (EP X pins σ Q) X.xe s:=by
 refine call_sum_walkG (h _ λob St fp z st W=>⟨_,fp,_,_,_,St,λi=>ns.getD i 0,rfl,W,st,z,λi v J=>?_,λh' tk t' hk=>?_⟩)
 ·have j:its[i]?=S v:=by simpa using J
  have L:=rv.length;rw[B2]at L;have hi:i<its.length:=(JO.mp j).1;have O:(ns.map V.int)[i]?=S (.int (ns.getD i 0)):=by
   rw[KA,JF ∅]
   simp[Lb,JF (show i<ns.length by lia)]
  obtain⟨u,F,t,rfl⟩:=rv.get O;rw[j]at F;cases F;exact⟨t,rfl⟩
 ·have e:preSum (fun i=>ns.getD i 0) its.toArray.size=ns.sum:=by
   rw[preSum_getD,JN,<-rv.length,B2,List.take_length]
  rw[e];refine⟨.int ns.sum,H,I.kept (h':=h') (t':=tk) λb o eb=>?_,⟨t',rfl⟩,q⟩;exact hk b o (by simp;exact K6 (JJ eb)) (n6 _ eb)
theorem sY(F:X.calm=Uo):CallR X (.builtin "sum") (lR X.K oO):=by
 intro pins s σ H xs us Q I rv h;obtain⟨ds,M,rm,rs,x,ns,rfl,l,q⟩:=h;obtain⟨v,rfl,r⟩:=rs.one;obtain⟨u,rfl,ru⟩:=dC rv;obtain⟨p,vs,rfl,sq,U⟩:=fJ rm r l
 cases ru
 have e:=RDs.ints_eq U;subst e;have fin:=q (.int ns.sum) H Ext.refl rm (TV.mpr rfl)
 rcases sq with sq|sq
 ·obtain⟨its,rv,pl,Y⟩:=I.list sq;have J:p≠s.heap.objs.size:=by
   obtain⟨o,n,e,_⟩:=pl;exact K6 (JJ e)
  refine oQ I F rv fin λR L=>PD pl.isList ?_;refine L _ _ [s.heap.objs.size,p] (λb O=>?_) ⟨⟨_,JW _ rfl,rfl,rfl⟩,pl.isList.at λo e=>n6 _ e⟩ (Walks.list (by rw[NZ];exact I.ok.hd F) s.heap.objs.size p J its.toArray)
  rw[LN]
  rcases JS.mp O with z|z
  ·lia
  ·have z':b=p:=by simpa using z
   subst z';obtain⟨o,n,e,_⟩:=pl;exact Pz (JJ e)
 ·obtain⟨its,rv,pl,Y⟩:=I.tuple sq;have j:p<s.heap.objs.size:=by
   obtain⟨o,e,_⟩:=pl;exact JJ e
  refine oQ I F rv fin λR L=>MY (show s.heap.IsTuple p its.toArray from pl) ?_;refine L _ _ [s.heap.objs.size,p] (λb O=>?_) ⟨⟨_,JW _ rfl,rfl,rfl⟩,?_⟩ (Walks.tuple (by rw[NZ];exact I.ok.hd F) s.heap.objs.size p (K6 j) its.toArray)
  ·rw[LN]
   rcases JS.mp O with z|z
   ·lia
   ·have z':b=p:=by simpa using z
    rw[z'];exact Pz j
  ·obtain⟨o,e,c,n,d⟩:=pl;exact⟨o,n6 _ e,c,n,d⟩
noncomputable def xK(M:Mem):D->Option Bool
 |.non=>S Up
 |.bl b=>S b
 |.int i=>S (i != 0)
 |.tup ds=>S (!ds.isEmpty)
 |.con ds=>S (!ds.isEmpty)
 |.ref a=>match M a with
  |some (.lst ds)=>S (!ds.isEmpty)
  |_=>Z
 |_=>Z
noncomputable def sZ(t:TEd):TTd:=λρ M Q=>t ρ M λx M1=>∃b,xK M1 x=S b/\Q b M1
theorem xL{t:TEd}(h:af t):aN (sZ t):=λρ M Q Q' i q=>h _ _ _ _ (λx M1 j=>(by obtain⟨k,e,z⟩:=j;exact⟨k,e,i _ _ z⟩)) q
theorem Cd{b:Bool}(rm:RM K M H)(r:RD K H x v)(e:xK M x=S b):wW K v H b:=by
 have emp:∀{ds:List D} {vs:List V},RDs K H ds vs->(!ds.isEmpty) = !vs.isEmpty:=λ{ds vs} h=>by
  have l:=h.length
  cases ds<;>cases vs<;>first|rfl|(simp at l)
 cases x with
 |non=>cases e;cases U2.mp r;rfl
 |bl k=>cases e;cases TY.mp r;rfl
 |int i=>cases e;cases TV.mp r;rfl
 |tup ds=>
  cases e
  obtain⟨a,vs,rfl,j,rs⟩:=U4 r;exact .inr (.inl ⟨vs,j,emp rs⟩)
 |con ds=>
  cases e
  obtain⟨a,vs,rfl,j,rs⟩:=U3.mp r;exact .inl ⟨vs,j.sq,emp rs⟩
 |ref a=>
  cases TX.mp r
  simp only[xK]at e
  cases e0:M a with
  |none=>rw[e0]at e;cases e
  |some o=>
   rw[e0]at e
   cases o with
   |dct _ _=>cases e
   |fdc _=>cases e
   |dcn _=>cases e
   |tab _ _=>cases e
   |fdn _=>cases e
   |lst ds=>
    cases e
    obtain⟨vs,j,rs⟩:=rm _ _ e0;exact .inl ⟨vs,SqL.of j,emp rs⟩
 |str _=>cases e
 |fn _=>cases e
variable{a b:Expr}{ta tb:TEd}{pos:Pos}
theorem Ce(m:af ta)(F:PE X a (lE X.K ta))(he:∀whole,isTrue a X.env whole=(do let v <-whole;O6 a.pos;holding [v] (truthy v))):PT X a (lT X.K (sZ ta)):=by refine PT.imp (wX F he) λσ H Q h=>?_;obtain⟨ρ,M,rs,rm,q⟩:=h;exact⟨ρ,M,rs,rm,m _ _ _ _ (λx M1 J v H1 x1 j z=>(by obtain⟨k,e,L⟩:=J;exact⟨k,Cd j z e,L H1 x1 j⟩)) q⟩
noncomputable def mR(t:TTd):TTd:=λρ M Q=>t ρ M λc M1=>Q (!c) M1
theorem uX{t:TTd}(h:aN t):aN (mR t):=λρ M Q Q' i q=>h _ _ _ _ (λc M1 j=>i _ _ j) q
theorem Cf(m:aN tA)(j:PT X a (lT X.K tA)):PT X (.UnaryOp .Not a pos) (lT X.K (mR tA)):=by refine PT.imp (nO j) λσ H Q h=>?_;obtain⟨ρ,M,rs,rm,q⟩:=h;exact⟨ρ,M,rs,rm,m _ _ _ _ (λc M1 z=>z) q⟩
noncomputable def mU(t u:TTd):TTd:=λρ M Q=>t ρ M λc M1=>if c=Uo then u ρ M1 Q else Q Up M1
noncomputable def t6(t u:TTd):TTd:=λρ M Q=>t ρ M λc M1=>if c=Uo then Q Uo M1 else u ρ M1 Q
theorem uY{t u:TTd}(h:aN t)(k:aN u):aN (mU t u):=λρ M Q Q' i q=>h _ _ _ _ (λc M1 j=>by
 cases c with
 |true=>rw[if_pos rfl]at j⊢;exact k _ _ _ _ i j
 |false=>rw[if_neg q7]at j⊢;exact i _ _ j) q
theorem xM{t u:TTd}(h:aN t)(k:aN u):aN (t6 t u):=λρ M Q Q' i q=>h _ _ _ _ (λc M1 j=>by
 cases c with
 |true=>rw[if_pos rfl]at j⊢;exact i _ _ j
 |false=>rw[if_neg q7]at j⊢;exact k _ _ _ _ i j) q
theorem An(j:PT X a (lT X.K tA)):PW X (.BoolOp .And [a] pos) (lT X.K tA):=zN j
theorem Cg(j:PT X a (lT X.K tA)):PW X (.BoolOp .Or [a] pos) (lT X.K tA):=ue j
theorem Ch{tB:TTd}{rest:List Expr}(mA:aN tA)(mB:aN tB)(F:PT X a (lT X.K tA))(J:PW X (.BoolOp .And (b::rest) pos) (lT X.K tB)):PW X (.BoolOp .And (a::b::rest) pos) (lT X.K (mU tA tB)):=by
 refine PW.imp (Bv F J) λσ H Q h=>?_;obtain⟨ρ,M,rs,rm,q⟩:=h;refine⟨ρ,M,rs,rm,mA _ _ _ _ (λc M1 z H1 x1 j=>?_) q⟩
 cases c with
 |true=>rw[if_pos rfl]at z⊢;exact⟨ρ,M1,rs.mono (x1.stab rm),j,mB _ _ _ _ (λd M2 k=>k.ext x1) z⟩
 |false=>rw[if_neg q7]at z⊢;exact z H1 x1 j
theorem DR{tB:TTd}{rest:List Expr}(mA:aN tA)(mB:aN tB)(F:PT X a (lT X.K tA))(J:PW X (.BoolOp .Or (b::rest) pos) (lT X.K tB)):PW X (.BoolOp .Or (a::b::rest) pos) (lT X.K (t6 tA tB)):=by
 refine PW.imp (sg F J) λσ H Q h=>?_;obtain⟨ρ,M,rs,rm,q⟩:=h;refine⟨ρ,M,rs,rm,mA _ _ _ _ (λc M1 z H1 x1 j=>?_) q⟩
 cases c with
 |true=>rw[if_pos rfl]at z⊢;exact z H1 x1 j
 |false=>rw[if_neg q7]at z⊢;exact⟨ρ,M1,rs.mono (x1.stab rm),j,mB _ _ _ _ (λd M2 k=>k.ext x1) z⟩
noncomputable def mV(ta tb:TEd):TEd:=λρ M Q=>ta ρ M λx M1=>∃c,x=.bl c/\if c=Uo then tb ρ M1 Q else Q (.bl Up) M1
noncomputable def t7(ta tb:TEd):TEd:=λρ M Q=>ta ρ M λx M1=>∃c,x=.bl c/\if c=Uo then Q (.bl Uo) M1 else tb ρ M1 Q
noncomputable def mW(ta:TEd):TEd:=λρ M Q=>ta ρ M λx M1=>∃c,x=.bl c/\Q (.bl (!c)) M1
theorem uZ(h:af ta)(k:af tb):af (mV ta tb):=λρ M Q Q' i q=>h _ _ _ _ (λx M1 ⟨c,e,j⟩=>⟨c,e,by
 cases c with
 |true=>rw[if_pos rfl]at j⊢;exact k _ _ _ _ i j
 |false=>rw[if_neg q7]at j⊢;exact i _ _ j⟩) q
theorem xN(h:af ta)(k:af tb):af (t7 ta tb):=λρ M Q Q' i q=>h _ _ _ _ (λx M1 ⟨c,e,j⟩=>⟨c,e,by
 cases c with
 |true=>rw[if_pos rfl]at j⊢;exact i _ _ j
 |false=>rw[if_neg q7]at j⊢;exact k _ _ _ _ i j⟩) q
theorem v5(h:af ta):af (mW ta):=λρ M Q Q' i q=>h _ _ _ _ (λx M1 j=>(by obtain⟨c,e,z⟩:=j;exact⟨c,e,i _ _ z⟩)) q
theorem v6{op:BoolOp}{t:TEd}(h:PE X a (lE X.K t)):PE X (.BoolOp op [a] pos) (lE X.K t):=Bw h
theorem Ci{rest:List Expr}(ma:af ta)(mb:af tb)(J:PE X a (lE X.K ta))(L:PE X (.BoolOp .And (b::rest) pos) (lE X.K tb)):PE X (.BoolOp .And (a::b::rest) pos) (lE X.K (mV ta tb)):=by
 refine PE.imp (By J L) λσ H Q h=>?_;obtain⟨ρ,M,rs,rm,q⟩:=h;refine⟨ρ,M,rs,rm,ma _ _ _ _ (λx M1 g9 v H1 x1 j F=>?_) q⟩;obtain⟨c,e,z⟩:=g9;subst e;refine⟨c,TY.mp F,?_⟩
 cases c with
 |true=>rw[if_pos rfl]at z⊢;exact⟨ρ,M1,rs.mono (x1.stab rm),j,mb _ _ _ _ (λd M2 k=>k.ext x1) z⟩
 |false=>rw[if_neg q7]at z⊢;exact z _ H1 x1 j (TY.mpr rfl)
theorem DS{rest:List Expr}(ma:af ta)(mb:af tb)(J:PE X a (lE X.K ta))(L:PE X (.BoolOp .Or (b::rest) pos) (lE X.K tb)):PE X (.BoolOp .Or (a::b::rest) pos) (lE X.K (t7 ta tb)):=by
 refine PE.imp (Dp J L) λσ H Q h=>?_;obtain⟨ρ,M,rs,rm,q⟩:=h;refine⟨ρ,M,rs,rm,ma _ _ _ _ (λx M1 g9 v H1 x1 j F=>?_) q⟩;obtain⟨c,e,z⟩:=g9;subst e;refine⟨c,TY.mp F,?_⟩
 cases c with
 |true=>rw[if_pos rfl]at z⊢;exact z _ H1 x1 j (TY.mpr rfl)
 |false=>rw[if_neg q7]at z⊢;exact⟨ρ,M1,rs.mono (x1.stab rm),j,mb _ _ _ _ (λd M2 k=>k.ext x1) z⟩
theorem Cj(ma:af ta)(F:PE X a (lE X.K ta)):PE X (.UnaryOp .Not a pos) (lE X.K (mW ta)):=by refine PE.imp (Bz F) λσ H Q h=>?_;obtain⟨ρ,M,rs,rm,q⟩:=h;refine⟨ρ,M,rs,rm,ma _ _ _ _ (λx M1 g9 v H1 x1 j z=>?_) q⟩;obtain⟨c,e,J⟩:=g9;subst e;exact⟨c,TY.mp z,J _ H1 x1 j (TY.mpr rfl)⟩
noncomputable def wIf(t:TTd)(ta tb:TEd):TEd:=λρ M Q=>t ρ M λc M1=>if c=Uo then ta ρ M1 Q else tb ρ M1 Q
theorem Ao{t:TTd}(h:aN t)(z:af ta)(F:af tb):af (wIf t ta tb):=λρ M Q Q' i q=>h _ _ _ _ (λc M1 j=>by
 cases c with
 |true=>rw[if_pos rfl]at j⊢;exact z _ _ _ _ i j
 |false=>rw[if_neg q7]at j⊢;exact F _ _ _ _ i j) q
theorem DT{c:Expr}{t:TTd}(mt:aN t)(ma:af ta)(mb:af tb)(F:PT X c (lT X.K t))(J:PE X a (lE X.K ta))(L:PE X b (lE X.K tb)):PE X (.IfExp c a b pos) (lE X.K (wIf t ta tb)):=by
 refine PE.imp (wK F J L) λσ H Q h=>?_;obtain⟨ρ,M,rs,rm,q⟩:=h;refine⟨ρ,M,rs,rm,mt _ _ _ _ (λx M1 z H1 x1 j=>?_) q⟩
 cases x with
 |true=>rw[if_pos rfl]at z⊢;exact⟨ρ,M1,rs.mono (x1.stab rm),j,ma _ _ _ _ (λd M2 k=>k.ext x1) z⟩
 |false=>rw[if_neg q7]at z⊢;exact⟨ρ,M1,rs.mono (x1.stab rm),j,mb _ _ _ _ (λd M2 k=>k.ext x1) z⟩
noncomputable abbrev TOd:=au->Mem->(Option Int->Mem->Prop)->Prop
def t8(T:TOd):Prop:=∀ρ M Q Q',(∀d M',Q d M'->Q' d M')->T ρ M Q->T ρ M Q'
noncomputable def kh:TOd:=λ_ M Q=>Q Z M
noncomputable def t9(t:TEd):TOd:=λρ M Q=>t ρ M λx M1=>∃i,x=.int i/\Q (S i) M1
theorem qN:t8 kh:=λ_ _ _ _ h q=>h _ _ q
theorem v7(h:af ta):t8 (t9 ta):=λρ M Q Q' i q=>h _ _ _ _ (λx M1 j=>(by obtain⟨c,e,z⟩:=j;exact⟨c,e,i _ _ z⟩)) q
noncomputable def lO(K:Frag)(T:TOd):TO:=λσ H Q=>∃ρ M,RS K H σ ρ/\RM K M H/\T ρ M (λo M'=>∀H',Ext M H M' H'->RM K M' H'->Q o H')
theorem Ap:PO X Z (lO X.K kh):=λpins s σ H Q I h=>by obtain⟨ρ,M,rs,rm,q⟩:=h;exact zW pins s σ H Q I (q H Ext.refl rm)
theorem Aq(m:af ta)(h:PE X e (lE X.K ta)):PO X (S e) (lO X.K (t9 ta)):=λpins s σ H Q I hq=>by obtain⟨ρ,M,rs,rm,q⟩:=hq;refine zX h pins s σ H Q I ⟨ρ,M,rs,rm,m _ _ _ _ (λx M1 g9 v H1 x1 j z=>?_) q⟩;obtain⟨i,e,F⟩:=g9;subst e;exact⟨i,TV.mp z,F H1 x1 j⟩
end
end
variable{ta:TEd}{pos:Pos}{tg:Expr}{H1:Hp}
section
section
variable{X:Cx}
noncomputable def tyN(M:Mem):D->Option String
 |.non=>S "NoneType"
 |.bl _=>S "bool"
 |.int _=>S "int"
 |.str _=>S "str"
 |.tup _=>S "tuple"
 |.ref a=>match M a with
  |some (.lst _)=>S "list"
  |some (.dct _ _)=>S "dict"
  |_=>Z
 |.con _=>Z
 |.fn _=>Z
noncomputable def tf(T t:String):Bool:=t==T || (t=="bool"&&T=="int")
theorem DU{t:String}(rm:RM K M H)(r:RD K H x v)(e:tyN M x=S t):cB K H v (.type t):=by
 cases x with
 |non=>cases e;cases U2.mp r;exact .non
 |bl k=>cases e;cases TY.mp r;exact .bl k
 |int i=>cases e;cases TV.mp r;exact .int i
 |str i=>cases e;cases U1.mp r;exact .str i
 |tup ds=>
  cases e
  obtain⟨a,vs,rfl,j,rs⟩:=U4 r;exact .tup j
 |con ds=>cases e
 |fn _=>cases e
 |ref a=>
  cases TX.mp r
  simp only[tyN]at e
  cases e0:M a with
  |none=>rw[e0]at e;cases e
  |some o=>
   rw[e0]at e
   cases o with
   |lst ds=>
    cases e
    obtain⟨vs,j,rs⟩:=rm _ _ e0;exact .lst j
   |dct t kvs=>
    cases e
    have ro:=rm _ _ e0
    cases t with
    |false=>obtain⟨ps,j,_⟩:=ro;exact .dK j
    |true=>obtain⟨ps,j,_⟩:=ro;exact .dT j
   |fdc kvs=>cases e
   |dcn _=>cases e
   |tab _ _=>cases e
   |fdn _=>cases e
noncomputable def dP:List String:=["NoneType","bool","int","str","tuple","list","dict"]
theorem Ar(K:Frag):∀T∈["bool","int","str","tuple","list","dict"],∀t∈dP,Nq K (.type t) (.type T)=S (tf T t):=by
 intro T j t z;simp only[dP,JS,KL,or_false]at j z
 rcases j with rfl|rfl|rfl|rfl|rfl|rfl<;>rcases z with rfl|rfl|rfl|rfl|rfl|rfl|rfl<;>rfl
noncomputable def mX(T:String)(ta:TEd):TEd:=λρ M Q=>ta ρ M λx M1=>∃t,tyN M1 x=S t/\Q (.bl (tf T t)) M1
theorem v8{T:String}(h:af ta):af (mX T ta):=λρ M Q Q' i q=>h _ _ _ _ (λx M1 j=>(by obtain⟨t,e,z⟩:=j;exact⟨t,e,i _ _ z⟩)) q
theorem As{t:String}(e:tyN M x=S t):t∈dP:=by
 cases x with
 |ref a=>
  simp only[tyN]at e
  cases e0:M a with
  |none=>rw[e0]at e;cases e
  |some o=>rw[e0]at e;cases o<;>cases e<;>simp[dP]
 |con _=>cases e
 |fn _=>cases e
 |_=>cases e;simp[dP]
theorem v9(T:String)(j:T∈["bool","int","str","tuple","list","dict"]):CallR X (.builtin "isinstance") (λvs H Q=>∃v t,vs=[v,.ty T]/\cB X.K H v (.type t)/\t∈dP/\Q (.bl (tf T t)) H):=by
 intro pins s σ H xs us Q I r h;obtain⟨v,t,rfl,ty,z,q⟩:=h;obtain⟨u,c,rfl,ru,rc⟩:=mP r
 cases rc
 exact uv I ru ty (Ar X.K T j t z) λtk=>⟨.bl _,H,I.tok tk,rfl,q⟩
theorem Au{T:String}{y:Str}{p p2:Pos}(U:T∈["bool","int","str","tuple","list","dict"])(m:af ta)(he:PE X e (lE X.K ta))(Y:Gl X "isinstance")(hm:X.mg "isinstance"=Z)(z:Gl X y)(F:X.mg y=Z)(Um:Mp y=S (.type T))(hn:y≠"__name__")(J:(y==("__debug__":Str))=Up)(hs:JU [e,.Name y p2] X.env=(Up,eval e X.env)::JU [.Name y p2] X.env)(L:(LA pos (JU [.Name y p2] X.env)).any (·.1)=Up):
 PE X (.Call (.Name "isinstance" p) [e,.Name y p2] [] pos) (lE X.K (mX T ta)):=by
 have h2:PE X (.Name y p2) (tC (.ty T)):=qW z F Um rfl hn J;refine PE.imp (bp (v9 T U) Y hm (by decide +kernel) (bn he (bn h2 dh rfl) hs) (by decide) (by decide) hs L) λσ H Q h=>?_
 obtain⟨ρ,M,rs,rm,q⟩:=h;exact⟨ρ,M,rs,rm,m _ _ _ _ (λx M1 g9 v H1 x1 j O=>(by obtain⟨t,e,q1⟩:=g9;exact⟨v,t,rfl,DU j O e,As e,q1 _ H1 x1 j (TY.mpr rfl)⟩)) q⟩
noncomputable def wBM(rd:D->List D->Mem->QD->Prop)(to:TEd)(t:TAd):TEd:=λρ M Q=>to ρ M λx M1=>(∃a xs,x=.ref a/\M1 a=S (.lst xs))/\t ρ M1 λds M2=>rd x ds M2 Q
def ju(rd:D->List D->Mem->QD->Prop):Prop:=∀x ds M Q Q',(∀d M',Q d M'->Q' d M')->rd x ds M Q->rd x ds M Q'
theorem rB{rd:D->List D->Mem->QD->Prop}{to:TEd}{t:TAd}(hr:ju rd)(mo:af to)(mt:bb t):af (wBM rd to t):=λρ M Q Q' i q=>mo _ _ _ _ (λx M1 j=>(by obtain⟨e,z⟩:=j;exact⟨e,mt _ _ _ _ (λds M2 F=>hr _ _ _ _ _ i F) z⟩)) q
theorem DV(rm:RM K M H)(r:RD K H x v)(h:∃a xs,x=.ref a/\M a=S (.lst xs)):tyV K "list" v H:=by
 obtain⟨a,xs,rfl,e⟩:=h
 cases TX.mp r
 obtain⟨vs,j,_⟩:=rm _ _ e;exact .inl ⟨rfl,vs,SqL.of j⟩
theorem rC{rd:D->List D->Mem->QD->Prop}{r:V->List V->Hp->VK->Prop}{to:TEd}{t:TAd}(hr:ju rd)(mo:af to)(mt:bb t)(O:∀v vs H Q,lMt K rd v vs H Q->r v vs H Q)(σ:St)(H:Hp)(Q:VK)(h:lE K (wBM rd to t) σ H Q):tBM K "list" r (lE K to) (lA K t) σ H Q:=by obtain⟨ρ,M,rs,rm,q⟩:=h;refine⟨ρ,M,rs,rm,mo _ _ _ _ (λx M1 ⟨e,U⟩ v H1 x1 j z=>⟨DV j z e,?_⟩) q⟩;refine⟨ρ,M1,rs.mono (x1.stab rm),j,mt _ _ _ _ (λds M2 Y vs H2 L F J=>?_) U⟩;exact O v vs H2 Q ⟨x,ds,M2,F,z.mono (L.stab j),J,hr _ _ _ _ _ (λd M' k=>k.ext (x1.trans L)) Y⟩
noncomputable def hW:D->List D->Mem->QD->Prop:=λx ds M Q=>∃a xs y,x=.ref a/\ds=[y]/\M a=S (.lst xs)/\xs.length<D2/\Q .non (ag M a (.lst (xs++[y])))
theorem iE:ju hW:=λ_ _ _ _ _ h j=>(by obtain⟨a,xs,y,F,J,L,z,q⟩:=j;exact⟨a,xs,y,F,J,L,z,h _ _ q⟩)
theorem rD{o0:O}(rm:RM K M H)(m:M a=S o0)(rd:RDs K H ds vs)(r:RD K H d v)(q:KE' K M H Q d (ag M a (.lst ds)))(w:fz (S o0)=Up:=by rfl):
 Q v (upd H a (.lst vs)):=by
 have st:Stab H (upd H a (.lst vs)):=rm.stabPut m w;exact q v _ (Ext.put m w) (rm.put m ⟨vs,ar,rd.mono st⟩ w) (r.mono st)
theorem xO(v:V)(vs:List V)(H:Hp)(Q:VK)(h:lMt K hW v vs H Q):r6 v vs H Q:=by
 obtain⟨x,ds,M,rm,rx,rs,a,xs,y,rfl,rfl,e,z,q⟩:=h
 cases TX.mp rx
 obtain⟨w,rfl,rw'⟩:=rs.one;obtain⟨us,j,ru⟩:=rm _ _ e;exact⟨a,us,w,rfl,rfl,j,by rw[ru.length];exact z,rD rm e (ru.append (RDs.cons rw' RDs.nil)) (U2.mpr rfl) q⟩
noncomputable abbrev BT:=D->au->Option au
noncomputable abbrev BTs:=List D->au->Option au
noncomputable def be(i:Nat):BT:=λd ρ=>S (ρ.set i (S d))
noncomputable def eA:BTs:=λds ρ=>match ds with|[]=>S ρ|_=>Z
noncomputable def bf(b:BT)(bs:BTs):BTs:=λds ρ=>match ds with|d::r=>(b d ρ).bind λρ'=>bs r ρ'|[]=>Z
noncomputable def xP(bs:BTs):BT:=λd ρ=>match d with|.tup ds=>bs ds ρ|_=>Z
noncomputable def lG(K:Frag)(b:BT):TG:=λv σ H Q=>∃d ρ ρ',RD K H d v/\RS K H σ ρ/\b d ρ=S ρ'/\∀σ',RS K H σ' ρ'->Q σ' H
noncomputable def lGs(K:Frag)(b:BTs):TGs:=λvs σ H Q=>∃ds ρ ρ',RDs K H ds vs/\RS K H σ ρ/\b ds ρ=S ρ'/\∀σ',RS K H σ' ρ'->Q σ' H
theorem PG.imp{t t':TG}(h:PG X e t)(i:∀v σ H Q,t' v σ H Q->t v σ H Q):PG X e t':=λpins s σ H v u Q I r q=>h pins s σ H v u Q I r (i _ _ _ _ q)
theorem PGs.imp{e:List Expr}{t t':TGs}(h:PGs X e t)(i:∀v σ H Q,t' v σ H Q->t v σ H Q):PGs X e t':=λpins s σ H v u Q I r q=>h pins s σ H v u Q I r (i _ _ _ _ q)
theorem Av{i:Nat}{x:Str}(j:X.N.Nodup)(hi:X.N[i]?=S x)(hx:Loc X.env.scope x)(hf:X.fn x=Uo∨X.env.scope.names.lookup x=S .local):PG X (.Name x pos) (lG X.K (be i)):=
 PG.imp (qX j hi hx hf) λv σ H Q ⟨d,ρ,ρ',r,rs,e,q⟩=>by
  cases e
  exact q _ (rs.set i r)
theorem Aw:PGs X [] (lGs X.K eA):=PGs.imp zQ λvs σ H Q ⟨ds,ρ,ρ',r,rs,e,q⟩=>by
 cases ds with
 |nil=>cases e;exact⟨RDs.nil_iff.mp r,q σ rs⟩
 |cons _ _=>cases e
theorem xQ{es:List Expr}{b:BT}{bs:BTs}(h1:PG X e (lG X.K b))(h2:PGs X es (lGs X.K bs))(hs:(LF (e::es) X.env).map (·.2)=assign e X.env::(LF es X.env).map (·.2)):
 PGs X (e::es) (lGs X.K (bf b bs)):=PGs.imp (wM h1 h2 hs) λvs σ H Q ⟨ds,ρ,ρ',r,rs,e,q⟩=>by
 cases ds with
 |nil=>cases e
 |cons d ds=>
  obtain⟨v,vr,rfl,z,F⟩:=TZ.mp r;simp only[bf]at e
  cases j:b d ρ with
  |none=>rw[j]at e;cases e
  |some ρ1=>rw[j]at e;exact⟨v,vr,rfl,d,ρ,ρ1,z,rs,j,λσ' rs'=>⟨ds,ρ1,ρ',F,rs',e,q⟩⟩
theorem Ck{es:List Expr}{k:Nat}{bs:BTs}{n:Nat}(z:X.calm=Uo)(hlen:∀ds ρ ρ',bs ds ρ=S ρ'->ds.length=n)(h:PGs X es (lGs X.K bs))(hn:(LF es X.env).length=n)(j:(LF es X.env).findIdx? (·.1)=Z):
 PG X (.Tuple es k pos) (lG X.K (xP bs)):=PG.imp (BD z h hn j) λv σ H Q ⟨d,ρ,ρ',r,rs,e,q⟩=>by
 cases d with
 |tup ds=>obtain⟨a,vs,rfl,F,rv⟩:=U4 r;exact⟨a,vs,rfl,F,by rw[rv.length];exact hlen _ _ _ e,ds,ρ,ρ',rv,rs,e,q⟩
 |_=>cases e
noncomputable abbrev TId:=au->Mem->(List D->(Mem->Prop)->Mem->Prop)->Prop
def cm(T:TId):Prop:=∀ρ M Q Q',(∀xs c M',Q xs c M'->Q' xs c M')->T ρ M Q->T ρ M Q'
def Yl(H H':Hp):Prop:=H'=H∨∃q vs,H q=Z/\H'=upd H q (.tup vs)
def ki(K:Frag)(H1:Hp)(xs:List D)(chk:Mem->Prop)(J:It):Prop:=∀M H,Stab H1 H->RM K M H->chk M->∀i,(xs.length<=i->J.stop i H)/\(i<xs.length->J.go i H /\
 ∀x H',J.yld i H x H'->Yl H H'/\∃d,xs[i]?=S d/\RD K H' d x)
noncomputable def lI(K:Frag)(T:TId):TI:=λσ H R=>∃ρ M,RS K H σ ρ/\RM K M H/\T ρ M (λxs chk M1=>∀J H1,Ext M H M1 H1->RM K M1 H1->ki K H1 xs chk J->R J H1)
theorem PI.imp{t t':TI}(h:PI X tg e t)(i:∀σ H Q,t' σ H Q->t σ H Q):PI X tg e t':=λpins s σ H Q I q=>h pins s σ H Q I (i _ _ _ q)
theorem Yl.ext{H':Hp}(rm:RM K M H)(y:Yl H H'):Ext M H M H'/\RM K M H':=by
 rcases y with rfl|⟨q,vs,n,rfl⟩
 ·exact⟨Ext.refl,rm⟩
 ·exact⟨U5 n,rm.new n⟩
noncomputable def EW(K:Frag)(tl:TE):TI:=λσ H R=>tl σ H λx H1=>∃a,x=.ref a/\(((∃xs,SqL K H1 a xs)/\R (Itl K a) H1)∨((∃xs,SqT K H1 a xs)/\R (Itt K a) H1))
theorem Cl{l:Expr}{tl:TE}(J:PE X l tl):PI X tg l (EW X.K tl):=by
 intro pins s σ H R I h;refine thn (J pins s σ H _ I h) λv s1 L=>?_;obtain⟨x,H1,j,O,U⟩:=L;obtain⟨a,e,q⟩:=U;subst e
 cases O
 rcases q with⟨⟨xs,z⟩,q⟩|⟨⟨xs,z⟩,q⟩
 ·obtain⟨its,rv,p,Y⟩:=j.list z;refine PD p.isList ?_;refine⟨s1.heap.objs.size,[s1.heap.objs.size],_,_,H1,rfl,j.kept (t':=s1.toks) λb o e=>n6 _ e,uj a _,⟨_,JW _ rfl,rfl,rfl⟩,λb F=>?_,q⟩;have e:b=s1.heap.objs.size:=by simpa using F
  subst e;exact j.fpOk (JL _) (j.hok.fresh (JL _))
 ·obtain⟨its,rv,p,Y⟩:=j.tuple z;refine MY (show s1.heap.IsTuple a its.toArray from p) ?_;refine⟨s1.heap.objs.size,[s1.heap.objs.size],_,_,H1,rfl,j.kept (t':=s1.toks) λb o e=>n6 _ e,su a _,⟨_,JW _ rfl,rfl,rfl⟩,λb F=>?_,q⟩;have e:b=s1.heap.objs.size:=by simpa using F
  subst e;exact j.fpOk (JL _) (j.hok.fresh (JL _))
noncomputable def tj(ta:TEd):TId:=λρ M R=>ta ρ M λx M1=>∃ds,bv M1 x=S ds/\R ds (λM=>bv M x=S ds) M1
theorem xR(h:af ta):cm (tj ta):=λρ M Q Q' i q=>h _ _ _ _ (λx M1 j=>(by obtain⟨ds,e,z⟩:=j;exact⟨ds,e,i _ _ _ z⟩)) q
theorem va{chk:Mem->Prop}(h:∀M H,Stab H1 H->RM K M H->chk M->∃vs,SqL K H a vs/\RDs K H ds vs):ki K H1 ds chk (Itl K a):=λM H st rm c i=>by
 obtain⟨vs,sq,r⟩:=h M H st rm c;have l:=r.length;refine⟨λhi=>⟨vs,sq,∅⟩,λhi=>⟨⟨vs,vs[i]'∅,sq,JF ∅⟩,λx H' y=>?_⟩⟩
 obtain⟨e,y⟩:=y;subst e;exact⟨.inl rfl,r.getV (y vs sq)⟩
theorem Cn{chk:Mem->Prop}(h:∀M H,Stab H1 H->RM K M H->chk M->∃vs,SqT K H a vs/\RDs K H ds vs):ki K H1 ds chk (Itt K a):=λM H st rm c i=>by
 obtain⟨vs,sq,r⟩:=h M H st rm c;have l:=r.length;refine⟨λhi=>⟨vs,sq,∅⟩,λhi=>⟨⟨vs,vs[i]'∅,sq,JF ∅⟩,λx H' y=>?_⟩⟩
 obtain⟨e,y⟩:=y;subst e;exact⟨.inl rfl,r.getV (y vs sq)⟩
theorem Co{l:Expr}(m:af ta)(J:PE X l (lE X.K ta)):PI X tg l (lI X.K (tj ta)):=by
 refine PI.imp (Cl J) λσ H R h=>?_;obtain⟨ρ,M,rs,rm,q⟩:=h;refine⟨ρ,M,rs,rm,m _ _ _ _ (λx M1 g9 v H1 x1 j rd1=>?_) q⟩;obtain⟨ds,e,F⟩:=g9
 cases x with
 |tup es=>
  cases e
  obtain⟨a,vs,rfl,z,rv⟩:=U4 rd1;exact⟨a,rfl,.inr ⟨⟨vs,z⟩,F _ H1 x1 j (Cn λM' H' st _ _=>⟨vs,st.sqT z,rv.mono st⟩)⟩⟩
 |con es=>
  cases e
  obtain⟨a,vs,rfl,z,rv⟩:=U3.mp rd1;exact⟨a,rfl,.inl ⟨⟨vs,z.sq⟩,F _ H1 x1 j (va λM' H' st _ _=>⟨vs,(st.sqF z).sq,rv.mono st⟩)⟩⟩
 |ref a=>
  cases TX.mp rd1
  have get:∀{M':Mem} {es:List D},bv M' (.ref a)=S es->M' a=S (.lst es):=λ{M' es} e=>by
   simp only[bv]at e
   cases e0:M' a with
   |none=>rw[e0]at e;cases e
   |some o=>
    rw[e0]at e
    cases o with
    |dct _ _=>cases e
    |fdc _=>cases e
    |dcn _=>cases e
    |tab _ _=>cases e
    |fdn _=>cases e
    |lst es'=>cases e;rfl
  obtain⟨vs,z,rv⟩:=j _ _ (get e);exact⟨a,rfl,.inl ⟨⟨vs,SqL.of z⟩,F _ H1 x1 j (va λM' H' st rm' c=>by obtain⟨us,L,ru⟩:=rm' _ _ (get c);exact⟨us,SqL.of L,ru⟩)⟩⟩
 |_=>cases e
noncomputable def ci(lo:Int)(n:Nat):List D:=(L4 n).map λi=>.int (lo+(i:Nat))
theorem Cp{lo:Int}{n:Nat}:ki K H1 (ci lo n) (λ_=>True) (Itr lo n):=λM H st rm c i=>by
 have l:(ci lo n).length=n:=by simp[ci]
 refine⟨λhi=>by show n<=i;lia,λhi=>⟨by show i<n;lia,λx H' y=>?_⟩⟩
 obtain⟨e,y⟩:=y;subst e y;refine⟨.inl rfl,.int (lo+i),?_,TV.mpr rfl⟩;simp only[ci,KA,List.getElem?_range (show i<n by lia),Lz]
noncomputable def mY(ta:TAd):TId:=λρ M R=>ta ρ M λds M1=>∃j:Int,ds=[.int j] /\ -(2^62)<=j/\j<2^62/\R (ci 0 j.toNat) (λ_=>True) M1
theorem vc{ta:TAd}(h:bb ta):cm (mY ta):=λρ M Q Q' i q=>h _ _ _ _ (λx M1 z=>(by obtain⟨j,e,a,b,F⟩:=z;exact⟨j,e,a,b,i _ _ _ F⟩)) q
theorem Ax{a:Expr}{ta:TAd}{p:Pos}(m:bb ta)(F:Gl X "range")(hm:X.mg "range"=Z)(J:PA X [a] (lA X.K ta))(hs:JU [a] X.env=[(Up,eval a X.env)]):PI X tg (.Call (.Name "range" p) [a] [] pos) (lI X.K (mY ta)):=by
 refine PI.imp (uk F hm J hs) λσ H R h=>?_;obtain⟨ρ,M,rs,rm,q⟩:=h;refine⟨ρ,M,rs,rm,m _ _ _ _ (λds M1 g9 vs H1 x1 z rd1=>?_) q⟩;obtain⟨j,e,L,O,U⟩:=g9;subst e;obtain⟨v,rfl,r⟩:=rd1.one
 cases TV.mp r
 exact⟨j,rfl,L,O,U _ H1 x1 z Cp⟩
end
end
end Mi
namespace Mi
end Mi
namespace Mi
variable{K:Frag}{M:Mem}{H:Hp}
section
section
variable{X:Cx}
noncomputable def isT:D->Bool|.tup _=>Uo|_=>Up
theorem vd{x:D}{ds:List D}{v:V}(rm:RM K M H)(r:RD K H x v)(e:bv M x=S ds):∃p vs,v=.ref p/\SqV K (isT x) H p vs/\RDs K H ds vs:=by
 cases x with
 |tup es=>
  cases e
  obtain⟨a,vs,rfl,j,rv⟩:=U4 r;exact⟨a,vs,rfl,j,rv⟩
 |con es=>
  cases e
  obtain⟨a,vs,rfl,j,rv⟩:=U3.mp r;exact⟨a,vs,rfl,j.sq,rv⟩
 |ref a=>
  cases TX.mp r
  simp only[bv]at e
  cases e0:M a with
  |none=>rw[e0]at e;cases e
  |some o=>
   rw[e0]at e
   cases o with
   |dct _ _=>cases e
   |fdc _=>cases e
   |dcn _=>cases e
   |tab _ _=>cases e
   |fdn _=>cases e
   |lst es=>
    cases e
    obtain⟨vs,j,rv⟩:=rm _ _ e0;exact⟨a,vs,rfl,SqL.of j,rv⟩
 |_=>cases e
theorem xS{p:Uq}{o:HO}(n:H p=Z):Stab H (upd H p o):=⟨λa xs e=>by rw[aj (λz=>by rw[z,n]at e;cases e)];exact e,λa o u e=>by rw[aj (λz=>by rw[z,n]at e;cases e)];exact e⟩
end
end
section
section
variable{X:Cx}
noncomputable def fV(xs:List D):List D:=xs.mapIdx λi x=>.tup [.int (i:Nat),x]
noncomputable def mZ(ta:TEd):TId:=λρ M R=>ta ρ M λx M1=>∃xs,bv M1 x=S xs/\R (fV xs) (λM=>bv M x=S xs) M1
theorem ve{ta:TEd}(h:af ta):cm (mZ ta):=λρ M Q Q' i q=>h _ _ _ _ (λx M1 j=>(by obtain⟨ds,e,z⟩:=j;exact⟨ds,e,i _ _ _ z⟩)) q
theorem Cq{H1:Hp}{x:D}{xs:List D}{a:Uq}(rx:RD K H1 x (.ref a)):ki K H1 (fV xs) (λM=>bv M x=S xs) (Ite K (isT x) a):=λM H st rm c i=>by
 obtain⟨U,vs,L,j,J⟩:=vd rm (rx.mono st) c
 cases L
 have l1:=J.length;have lz:(fV xs).length=xs.length:=by simp[fV]
 refine⟨λhi=>⟨vs,j,∅⟩,λhi=>⟨⟨vs,vs[i]'∅,j,JF ∅⟩,λv H' O=>?_⟩⟩
 obtain⟨p,v1,n,rfl,rfl,g⟩:=O;obtain⟨d1,z,F⟩:=J.getV (g vs j);have sb:=xS (o:=.tup [.int (i:Nat),v1]) n;refine⟨.inr ⟨p,[.int (i:Nat),v1],n,rfl⟩,.tup [.int (i:Nat),d1],?_,U9 ⟨p,[.int (i:Nat),v1],rfl,ar,RDs.cons (TV.mpr rfl) (RDs.cons (F.mono sb) RDs.nil)⟩⟩;simp[fV,QS,z]
theorem Ay{elts:List Expr}{cx}{pos p pos':Pos}{a:Expr}{ta:TEd}(ma:af ta)(F:Gl X "enumerate")(hm:X.mg "enumerate"=Z)(J:PA X [a] (lA X.K (aO ta bN)))(hs:JU [a] X.env=[(Up,eval a X.env)]):
 PI X (.Tuple elts cx pos) (.Call (.Name "enumerate" p) [a] [] pos') (lI X.K (mZ ta)):=by
 refine PI.imp (A5 F hm J hs) λσ H R h=>?_;obtain⟨ρ,M,rs,rm,q⟩:=h;refine⟨ρ,M,rs,rm,ma _ _ _ _ (λx M1 g9 vs H1 x1 j rd1=>?_) q⟩;obtain⟨xs,L,O⟩:=g9;obtain⟨v,rfl,z⟩:=rd1.one;obtain⟨U,us,rfl,s1,_⟩:=vd j z L;exact⟨U,isT x,us,rfl,s1,O _ H1 x1 j (Cq z)⟩
end
end
variable{vs:List V}{te:TEd}{src:TId}{b:BT}
section
noncomputable abbrev NC:=au->Mem->List D->Prop
noncomputable abbrev TCd:=au->Mem->List D->NC->Prop
def bY(T:TCd):Prop:=∀ρ M acc N N',(∀ρ' M' acc',N ρ' M' acc'->N' ρ' M' acc')->T ρ M acc N->T ρ M acc N'
structure ExtP(p:Uq)(M:Mem)(H:Hp)(M':Mem)(H':Hp):Prop where
 kp:∀a o,a≠p->fz (M a)=Uo->H a=S o->H' a=S o
 nw:∀a o,fz (M a)=Uo->H a=S o->M' a=M a
section
variable{K:Frag}{M M' M'':Mem}{H H' H'':Hp}{p:Uq}
theorem ExtP.new(x:ExtP p M H M' H')(a:Uq)(o:HO)(n:M a=Z)(e:H a=S o):M' a=Z:=(x.nw a o (by rw[n];rfl) e).trans n
theorem Ext.toP(x:Ext M H M' H'):ExtP p M H M' H':=⟨λa o _=>x.kp a o,x.nw⟩
theorem ExtP.refl:ExtP p M H M H:=⟨λ_ _ _ _ h=>h,λ_ _ _ _=>rfl⟩
theorem ExtP.trans(a:ExtP p M H M' H')(F:H p=S (.lst vs))(j:∃vs',H' p=S (.lst vs'))(b:ExtP p M' H' M'' H''):ExtP p M H M'' H'':=
 ⟨fun c o ne n h=>b.kp c o ne (by rw[a.nw c o n h];exact n) (a.kp c o ne n h),fun c o n h=>by
  have n':fz (M' c)=Uo:=by rw[a.nw c o n h];exact n
  refine Eq.trans ?_ (a.nw c o n h)
  by_cases z:c=p
  ·subst z;obtain⟨vs',e⟩:=j;exact b.nw c _ n' e
  ·exact b.nw c o n' (a.kp c o z n h)⟩
theorem ExtP.stab(r:RM K M H)(j:H p=S (.lst vs))(x:ExtP p M H M' H'):Stab H H' where
 tup:=λa xs e=>x.kp a _ (λz=>by subst z;rw[j]at e;cases e) (by rw[r.fzT e];rfl) e
 frz:=λa o u e=>x.kp a _ (λz=>by subst z;rw[j]at e;cases e) (r.fzF e) e
theorem oR{ho:HO}(j:H p=S (.lst vs)):Stab H (upd H p ho):=⟨λa xs e=>by rw[aj (λz=>by subst z;rw[j]at e;cases e)];exact e,λa o u e=>by rw[aj (λz=>by subst z;rw[j]at e;cases e)];exact e⟩
theorem RM.side{ho:HO}(r:RM K M H)(n:M p=Z)(j:H p=S (.lst vs)):RM K M (upd H p ho):=λa o e=>by
 have ne:a≠p:=λz=>by subst z;rw[n]at e;cases e
 exact(r a o e).mono (oR j) λF q=>by rw[aj ne];exact q
end
def hZ(K:Frag)(H:Hp)(p:Uq)(acc:List D):Prop:=∃vs,H p=S (.lst vs)/\RDs K H acc vs
noncomputable def KC(K:Frag)(p:Uq)(M:Mem)(H:Hp)(N:St->Hp->Prop):NC:=λρ' M' acc'=>∀σ' H',ExtP p M H M' H'->RS K H' σ' ρ'->RM K M' H'->hZ K H' p acc'->N σ' H'
noncomputable def lC(K:Frag)(p:Uq)(T:TCd):TC:=λσ H N=>∃ρ M acc,RS K H σ ρ/\RM K M H/\M p=Z/\hZ K H p acc/\T ρ M acc (KC K p M H N)
theorem KC.ext{p:Uq}{M2 M':Mem}{H2:Hp}{N:St->Hp->Prop}{ρ:au}{acc:List D}(z:H p=S (.lst vs))(j:∃vs',H2 p=S (.lst vs'))(x:ExtP p M H M2 H2)(h:KC K p M H N ρ M' acc):KC K p M2 H2 N ρ M' acc:=λσ' H' y=>h σ' H' (x.trans z j y)
noncomputable def eR(te:TEd):TCd:=λρ M acc N=>te ρ M λx M1=>acc.length<D2/\N ρ M1 (acc++[x])
noncomputable def bC:List TTd->TCd->TCd
 |[],tb=>tb
 |t::r,tb=>λρ M acc N=>t ρ M λb M1=>if b=Uo then bC r tb ρ M1 acc N else N ρ M1 acc
noncomputable def bZ(b:BT)(tb:TCd)(chk:Mem->Prop)(N:NC):List D->NC
 |[]=>λρ M acc=>chk M/\N ρ M acc
 |x::xs=>λρ M acc=>chk M/\∃ρ',b x ρ=S ρ'/\tb ρ' M acc (bZ b tb chk N xs)
noncomputable def dQ(src:TId)(b:BT)(tb:TCd):TCd:=λρ M acc N=>src ρ M λxs chk M1=>bZ b tb chk N xs ρ M1 acc
noncomputable def i6(fr:List (Option Nat))(src:TId)(b:BT)(tb:TCd):TEd:=λρ M Q=>src ρ M λxs chk M1=>bZ b tb chk (λ_ M' acc=>∀p,M' p=Z->Q (.ref p) (ag M' p (.lst acc))) xs (sP fr ρ) M1 []
theorem bQ(h:af te):bY (eR te):=λρ M acc N N' i q=>h _ _ _ _ (λx M1 j=>(by obtain⟨z,F⟩:=j;exact⟨z,i _ _ _ F⟩)) q
theorem aX{tb:TCd}(z:bY tb):∀{ts:List TTd},(∀t∈ts,aN t)->bY (bC ts tb)
 |[],_=>z
 |t::r,h=>fun ρ M acc N N' i q=>h t Ks _ _ _ _ (fun b M1 j=>by
  cases b with
  |true=>rw[if_pos rfl]at j⊢;exact aX z (λt' F=>h t' (K5 _ F)) _ _ _ _ _ i j
  |false=>rw[if_neg q7]at j⊢;exact i _ _ _ j) q
theorem gC{b:BT}{tb:TCd}(z:bY tb){chk:Mem->Prop}{N N':NC}(i:∀ρ' M' acc',N ρ' M' acc'->N' ρ' M' acc'):∀(xs:List D) (ρ:au) (M:Mem) (acc:List D),bZ b tb chk N xs ρ M acc->bZ b tb chk N' xs ρ M acc
 |[],ρ,M,acc,h=>⟨h.1,i _ _ _ h.2⟩
 |x::xs,ρ,M,acc,⟨c,ρ',e,q⟩=>⟨c,ρ',e,z _ _ _ _ _ (λρ2 M2 j F=>gC z i xs ρ2 M2 j F) q⟩
theorem iF{tb:TCd}(hs:cm src)(j:bY tb):bY (dQ src b tb):=λρ M acc N N' i q=>hs _ _ _ _ (λxs c M1 z=>gC j i xs _ _ _ z) q
theorem lD{fr:List (Option Nat)}{tb:TCd}(hs:cm src)(j:bY tb):af (i6 fr src b tb):=λρ M Q Q' i q=>hs _ _ _ _ (λxs c M1 z=>gC j (λ_ M' acc F p n=>i _ _ (F p n)) xs _ _ _ z) q
section
variable{K:Frag}{p:Uq}
theorem gD(m:af te)(σ:St)(H:Hp)(N:St->Hp->Prop)(h:lC K p (eR te) σ H N):zo p (lE K te) σ H N:=by
 obtain⟨ρ,M,acc,rs,rm,n,⟨vs,O,ra⟩,q⟩:=h;refine⟨ρ,M,rs,rm,m _ _ _ _ (λx M1 g9 v H1 x1 J L=>?_) q⟩;obtain⟨z,U⟩:=g9;have j:=x1.keep p _ n O;have Y:=x1.new p _ n O;have st:=x1.stab rm;have F:Stab H1 (upd H1 p (.lst (vs++[v]))):=oR j;refine⟨vs,j,by rw[ra.length];exact z,U σ _ ⟨λa o ne m' e=>?_,x1.nw⟩ ((rs.mono st).mono F) (J.side Y j) ⟨vs++[v],ar,((ra.mono st).mono F).append (RDs.cons (L.mono F) RDs.nil)⟩⟩
 rw[aj ne];exact x1.kp a o m' e
theorem jv{tb:TCd}(mb:bY tb):∀{ts:List TTd},(∀t∈ts,aN t)->∀(σ:St) (H:Hp) (N:St->Hp->Prop),lC K p (bC ts tb) σ H N->jj (ts.map (lT K)) (lC K p tb) σ H N
 |[],_,σ,H,N,h=>h
 |t::r,hm,σ,H,N,h=>by
  obtain⟨ρ,M,acc,rs,rm,n,⟨vs,J,ra⟩,q⟩:=h;refine⟨ρ,M,rs,rm,hm t Ks _ _ _ _ (λb M1 F H1 x1 z=>?_) q⟩;have j:=x1.keep p _ n J;have O:=x1.new p _ n J;have st:=x1.stab rm
  cases b with
  |false=>rw[if_neg q7]at F;dsimp only;rw[if_neg q7];exact F σ H1 x1.toP (rs.mono st) z ⟨vs,j,ra.mono st⟩
  |true=>
   rw[if_pos rfl]at F;dsimp only;rw[if_pos rfl];exact jv mb (λt' L=>hm t' (K5 _ L)) σ H1 N ⟨ρ,M1,acc,rs.mono st,z,O,⟨vs,j,ra.mono st⟩,
    aX mb (λt' L=>hm t' (K5 _ L)) _ _ _ _ _ (λρ' M' acc' k=>k.ext J ⟨vs,j⟩ x1.toP) F⟩
theorem lF{tb:TCd}(mb:bY tb){xs:List D}{chk:Mem->Prop}{J:It}{H1:Hp}{M1:Mem}{Nd:NC}{N:St->Hp->Prop}{σ:St}{ρ:au}{acc:List D}(it:ki K H1 xs chk J)(rs:RS K H1 σ ρ)(rm:RM K M1 H1)(n:M1 p=Z)(ac:hZ K H1 p acc)(q:bZ b tb chk Nd xs ρ M1 acc)(hN:∀ρ' M' acc' σ' H',ExtP p M1 H1 M' H'->RS K H' σ' ρ'->RM K M' H'->hZ K H' p acc'->Nd ρ' M' acc'->N σ' H'):
 cD J (lG K b) (lC K p tb) N σ H1:=by
 obtain⟨Hg,F,_⟩:=id ac;refine⟨λi m σ H=>m=xs.length-i/\i<=xs.length/\∃ρ M acc,RS K H σ ρ/\RM K M H/\M p=Z/\hZ K H p acc/\ExtP p M1 H1 M H/\bZ b tb chk Nd (xs.drop i) ρ M acc,⟨xs.length,by simp,LM _,ρ,M1,acc,rs,rm,n,ac,ExtP.refl,q⟩,?_⟩
 rintro i m σ H ⟨rfl,hi,ρ,M,acc,rs,j,n,ac,x,q⟩;have st:=x.stab rm F;obtain⟨vs,hp,ra⟩:=id ac
 by_cases z:i<xs.length
 ·rw[Le z]at q;obtain⟨c,ρ',hb,q⟩:=q;obtain⟨go,yl⟩:=(it M H st j c i).2 z;refine .inr ⟨go,λσ' H'=>∃m',m'<xs.length-i/\(m'=xs.length-(i+1)/\i+1<=xs.length/\∃ρ M acc,RS K H' σ' ρ/\RM K M H'/\M p=Z/\hZ K H' p acc/\ExtP p M1 H1 M H'/\bZ b tb chk Nd (xs.drop (i+1)) ρ M acc),λσ' H' h=>h,λx' H' y=>?_⟩;obtain⟨yy,d,hd,rd⟩:=yl x' H' y;rw[JF z]at hd
  cases hd
  obtain⟨xy,rmy⟩:=yy.ext j;have sty:=xy.stab j;have L:=xy.keep p _ n hp;refine⟨_,ρ,ρ',rd,rs.mono sty,hb,λσ2 U=>?_⟩;refine⟨ρ',M,acc,U,rmy,n,⟨vs,L,ra.mono sty⟩,mb _ _ _ _ _ (λρ3 M3 O q3 σ3 H3 x3 Y Um Hf=>?_) q⟩;have n3:M3 p=Z:=x3.new p _ n L;exact⟨xs.length-(i+1),∅,rfl,z,ρ3,M3,O,Y,Um,n3,Hf,(x.trans F ⟨vs,hp⟩ xy.toP).trans F ⟨vs,L⟩ x3,q3⟩
 ·have e:i=xs.length:=by lia
  subst e;rw[Qc]at q;exact .inl ⟨(it M H st j q.1 _).1 (JL _),hN ρ M acc σ H x rs j ac q.2⟩
theorem iG{tb:TCd}(ms:cm src)(mb:bY tb)(σ:St)(H:Hp)(N:St->Hp->Prop)(h:lC K p (dQ src b tb) σ H N):(lI K src) σ H λJ H1=>cD J (lG K b) (lC K p tb) N σ H1:=by obtain⟨ρ,M,acc,rs,rm,n,⟨vs,z,ra⟩,q⟩:=h;refine⟨ρ,M,rs,rm,ms _ _ _ _ (λxs chk M1 L J H1 x1 F it=>?_) q⟩;have j:=x1.keep p _ n z;have O:=x1.new p _ n z;have st:=x1.stab rm;exact lF mb it (rs.mono st) F O ⟨vs,j,ra.mono st⟩ L λρ' M' acc' σ' H' x2 rs' rm' ac' k=>k σ' H' (x1.toP.trans z ⟨vs,j⟩ x2) rs' rm' ac'
theorem eS{fr:List (Option Nat)}{tb:TCd}(ms:cm src)(mb:bY tb)(σ:St)(H:Hp)(Q:VK)(h:lE K (i6 fr src b tb) σ H Q):sN (lI K src) (lG K b) (λp=>lC K p tb) fr σ H Q:=by
 obtain⟨ρ,M,rs,rm,q⟩:=h;refine⟨ρ,M,rs,rm,ms _ _ _ _ (λxs chk M1 U J H1 x1 j it p n=>?_) q⟩;have st:=x1.stab rm;have xn:Ext M1 H1 M1 (upd H1 p (.lst [])):=U5 n;have stn:=xn.stab j;have O:M1 p=Z:=j.out n;refine lF (p:=p) mb (xs:=xs) (chk:=chk) (λM' H' st'=>it M' H' ⟨λa xs e=>st'.tup _ _ (stn.tup _ _ e),λa o u e=>st'.frz _ _ _ (stn.frz _ _ _ e)⟩) (((rs.mono st).mono stn).inh fr) (j.new n) O ⟨[],ar,RDs.nil⟩ U λρ' M' acc' σ' H' L rs' rm' ac' k=>?_;obtain⟨vs,Y,ra⟩:=ac';have n':M' p=Z:=L.new p _ O ar;refine k p n' (.ref p) H' ⟨λa o m e=>?_,λa o m e=>?_⟩ (λa o e=>?_) (TX.mpr rfl)
 ·have F:=x1.kp a o m e;have ne:a≠p:=λz=>by subst z;rw[n]at F;cases F
  exact L.kp a o ne (by rw[x1.nw a o m e];exact m) (by rw[aj ne];exact F)
 ·have F:=x1.kp a o m e;have ne:a≠p:=λz=>by subst z;rw[n]at F;cases F
  rw[ai ne];exact(L.nw a o (by rw[x1.nw a o m e];exact m) (by rw[aj ne];exact F)).trans (x1.nw a o m e)
 ·by_cases z:a=p
  ·subst z;rw[aa]at e;cases e;exact⟨vs,Y,ra⟩
  ·rw[ai z]at e;exact rm' a o e
end
end
variable{u:TSd}{c:TTd}
section
noncomputable def fW:TSd:=λD ρ M=>D.nx ρ M
noncomputable def gE(t u:TSd):TSd:=λD ρ M=>t {D with nx:=u D} ρ M
noncomputable def jw:TSd:=λD ρ M=>D.bk ρ M
noncomputable def ni:TSd:=λD ρ M=>D.ct ρ M
noncomputable def nj(te:TEd):TSd:=λD ρ M=>te ρ M λ_ M1=>D.nx ρ M1
noncomputable def iN(te:TEd):TSd:=λD ρ M=>te ρ M D.rt
noncomputable def sIf(c:TTd)(t u:TSd):TSd:=λD ρ M=>c ρ M λb M1=>if b=Uo then t D ρ M1 else u D ρ M1
noncomputable def gF(te:TEd)(b:BT):TSd:=λD ρ M=>te ρ M λx M1=>∃ρ',b x ρ=S ρ'/\D.nx ρ' M1
noncomputable def iO(ta:TAd)(bs:BTs):TSd:=λD ρ M=>ta ρ M λxs M1=>∃ρ',bs xs ρ=S ρ'/\D.nx ρ' M1
noncomputable def bw(b:BT)(tb:TSd)(chk:Mem->Prop)(D:bj):List Mi.D->au->Mem->Prop
 |[]=>λρ M=>chk M/\D.nx ρ M
 |x::xs=>λρ M=>chk M/\∃ρ',b x ρ=S ρ'/\tb {D with nx:=bw b tb chk D xs,ct:=bw b tb chk D xs,bk:=D.nx} ρ' M
noncomputable def kj(src:TId)(b:BT)(tb:TSd):TSd:=λD ρ M=>src ρ M λxs chk M1=>bw b tb chk D xs ρ M1
noncomputable def bD(c:TTd)(tb:TSd)(D:bj):Nat->au->Mem->Prop
 |0=>λ_ _=>False
 |n+1=>λρ M=>c ρ M λb M1=>if b=Uo then tb {D with nx:=bD c tb D n,ct:=bD c tb D n,bk:=D.nx} ρ M1 else D.nx ρ M1
noncomputable def jx(c:TTd)(tb:TSd):TSd:=λD ρ M=>∃n,bD c tb D n ρ M
theorem LeD.refl(a:bj):LeD a a:=⟨λ_ _ h=>h,λ_ _ h=>h,λ_ _ h=>h,λ_ _ h=>h⟩
theorem lH:aP fW:=λ_ _ _ _ h q=>h.nx _ _ q
theorem tm:aP jw:=λ_ _ _ _ h q=>h.bk _ _ q
theorem vf:aP ni:=λ_ _ _ _ h q=>h.ct _ _ q
theorem vg{t:TSd}(j:aP t)(z:aP u):aP (gE t u):=λa b ρ M h q=>j {a with nx:=u a} {b with nx:=u b} _ _ ⟨λρ' M' q'=>z _ _ _ _ h q',h.rt,h.bk,h.ct⟩ q
theorem vh(h:af te):aP (nj te):=λa b ρ M i q=>h _ _ _ _ (λ_ M1 j=>i.nx _ _ j) q
theorem xT(h:af te):aP (iN te):=λa b ρ M i q=>h _ _ _ _ (λd M1 j=>i.rt _ _ j) q
theorem xU{t:TSd}(z:aN c)(F:aP t)(J:aP u):aP (sIf c t u):=λa b ρ M i q=>z _ _ _ _ (λk M1 j=>by
 cases k with
 |true=>rw[if_pos rfl]at j⊢;exact F _ _ _ _ i j
 |false=>rw[if_neg q7]at j⊢;exact J _ _ _ _ i j) q
theorem xV{bt:BT}(h:af te):aP (gF te bt):=λa b ρ M i q=>h _ _ _ _ (λd M1 j=>(by obtain⟨ρ',e,z⟩:=j;exact⟨ρ',e,i.nx _ _ z⟩)) q
theorem oS{ta:TAd}{bs:BTs}(h:bb ta):aP (iO ta bs):=λa b ρ M i q=>h _ _ _ _ (λd M1 j=>(by obtain⟨ρ',e,z⟩:=j;exact⟨ρ',e,i.nx _ _ z⟩)) q
theorem gG{bt:BT}{tb:TSd}(j:aP tb){chk:Mem->Prop}{a b:bj}(i:LeD a b):∀(xs:List D) (ρ:au) (M:Mem),bw bt tb chk a xs ρ M->bw bt tb chk b xs ρ M
 |[],ρ,M,h=>⟨h.1,i.nx _ _ h.2⟩
 |x::xs,ρ,M,⟨c,ρ',e,q⟩=>⟨c,ρ',e,j {a with nx:=bw bt tb chk a xs,ct:=bw bt tb chk a xs,bk:=a.nx} {b with nx:=bw bt tb chk b xs,ct:=bw bt tb chk b xs,bk:=b.nx} _ _ ⟨λρ2 M2 z=>gG j i xs ρ2 M2 z,i.rt,i.nx,λρ2 M2 z=>gG j i xs ρ2 M2 z⟩ q⟩
theorem xW{bt:BT}{tb:TSd}(hs:cm src)(j:aP tb):aP (kj src bt tb):=λa b ρ M i q=>hs _ _ _ _ (λxs c M1 z=>gG j i xs _ _ z) q
theorem fh{c:TTd}{tb:TSd}(z:aN c)(F:aP tb){a b:bj}(i:LeD a b):∀(n:Nat) (ρ:au) (M:Mem),bD c tb a n ρ M->bD c tb b n ρ M
 |0,ρ,M,h=>h
 |n+1,ρ,M,h=>z _ _ _ _ (fun k M1 j=>by
  cases k with
  |true=>rw[if_pos rfl]at j⊢;exact F {a with nx:=bD c tb a n,ct:=bD c tb a n,bk:=a.nx} {b with nx:=bD c tb b n,ct:=bD c tb b n,bk:=b.nx} _ _ ⟨λρ2 M2 J=>fh z F i n ρ2 M2 J,i.rt,i.nx,λρ2 M2 J=>fh z F i n ρ2 M2 J⟩ j
  |false=>rw[if_neg q7]at j⊢;exact i.nx _ _ j) h
theorem tq{tb:TSd}(j:aN c)(z:aP tb):aP (jx c tb):=λa b ρ M i g9=>(by obtain⟨n,q⟩:=g9;exact⟨n,fh j z i n _ _ q⟩)
section
variable{K:Frag}
theorem lJ(D:bJ)(σ:St)(H:Hp)(h:lS K fW D σ H):si D σ H:=by obtain⟨ρ,M,A,rs,rm,l,q⟩:=h;exact l.nx ρ M σ H Ext.refl rs rm q
theorem tu(D:bJ)(σ:St)(H:Hp)(h:lS K jw D σ H):uf D σ H:=by obtain⟨ρ,M,A,rs,rm,l,q⟩:=h;exact l.bk ρ M σ H Ext.refl rs rm q
theorem vj(D:bJ)(σ:St)(H:Hp)(h:lS K ni D σ H):zd D σ H:=by obtain⟨ρ,M,A,rs,rm,l,q⟩:=h;exact l.ct ρ M σ H Ext.refl rs rm q
theorem xX{t:TSd}(mt:aP t)(mu:aP u)(D:bJ)(σ:St)(H:Hp)(h:lS K (gE t u) D σ H):BA (lS K t) (lS K u) D σ H:=by obtain⟨ρ,M,A,rs,rm,l,q⟩:=h;exact⟨ρ,M,{A with nx:=u A},rs,rm,⟨λρ' M' σ' H' x rs' rm' q'=>⟨ρ',M',A,rs',rm',l.ext x,q'⟩,l.rt,l.bk,l.ct⟩,q⟩
theorem vm(m:af te)(D:bJ)(σ:St)(H:Hp)(h:lS K (nj te) D σ H):ze (lE K te) D σ H:=by obtain⟨ρ,M,A,rs,rm,l,q⟩:=h;exact⟨ρ,M,rs,rm,m _ _ _ _ (λd M1 z v H1 x1 j F=>l.nx ρ M1 σ H1 x1 (rs.mono (x1.stab rm)) j z) q⟩
theorem xY(m:af te)(D:bJ)(σ:St)(H:Hp)(h:lS K (iN te) D σ H):BB (lE K te) D σ H:=by obtain⟨ρ,M,A,rs,rm,l,q⟩:=h;exact⟨ρ,M,rs,rm,m _ _ _ _ (λd M1 F v H1 x1 j z=>l.rt d M1 v H1 x1 j z F) q⟩
theorem Az{t:TSd}(mc:aN c)(D:bJ)(σ:St)(H:Hp)(h:lS K (sIf c t u) D σ H):BC (lT K c) (lS K t) (lS K u) D σ H:=by
 obtain⟨ρ,M,A,rs,rm,l,q⟩:=h;refine⟨ρ,M,rs,rm,mc _ _ _ _ (λk M1 z H1 x1 j=>?_) q⟩
 cases k with
 |true=>rw[if_pos rfl]at z⊢;exact⟨ρ,M1,A,rs.mono (x1.stab rm),j,l.ext x1,z⟩
 |false=>rw[if_neg q7]at z⊢;exact⟨ρ,M1,A,rs.mono (x1.stab rm),j,l.ext x1,z⟩
theorem xZ(m:af te)(D:bJ)(σ:St)(H:Hp)(h:lS K (gF te b) D σ H):nP (lE K te) (lG K b) D σ H:=by obtain⟨ρ,M,A,rs,rm,l,q⟩:=h;refine⟨ρ,M,rs,rm,m _ _ _ _ (λd M1 g9 v H1 x1 j z=>?_) q⟩;obtain⟨ρ',e,F⟩:=g9;exact⟨d,ρ,ρ',z,rs.mono (x1.stab rm),e,λσ' rs'=>l.nx ρ' M1 σ' H1 x1 rs' j F⟩
theorem lK{i:Nat}(m:af te)(D:bJ)(σ:St)(H:Hp)(h:lS K (gF te (be i)) D σ H):nP (lE K te) (gU i) D σ H:=by
 obtain⟨ρ,M,A,rs,rm,l,q⟩:=h;refine⟨ρ,M,rs,rm,m _ _ _ _ (λd M1 g9 v H1 x1 rm1 rd1=>?_) q⟩;obtain⟨ρ',e,j⟩:=g9
 cases e
 exact l.nx _ M1 _ H1 x1 ((rs.mono (x1.stab rm)).set i rd1) rm1 j
theorem y9{tb:TSd}(ms:cm src)(mb:aP tb)(D:bJ)(σ:St)(H:Hp)(h:lS K (kj src b tb) D σ H):wQ (lI K src) (lG K b) (lS K tb) D σ H:=by
 obtain⟨ρ,M,A,rs,rm,l,q⟩:=h;refine⟨ρ,M,rs,rm,ms _ _ _ _ (λxs chk M1 q1 J H1 x1 O it=>?_) q⟩;refine⟨λi m σ H'=>m=xs.length-i/\i<=xs.length/\∃ρ M2,RS K H' σ ρ/\RM K M2 H'/\Ext M1 H1 M2 H'/\bw b tb chk A (xs.drop i) ρ M2,⟨xs.length,by simp,LM _,ρ,M1,rs.mono (x1.stab rm),O,Ext.refl,q1⟩,?_⟩
 rintro i m σ2 H2 ⟨rfl,hi,ρ2,M2,U,j,x2,Y⟩;have Um:=x2.stab O
 by_cases F:i<xs.length
 ·rw[Le F]at Y;obtain⟨c,ρ',hb,q3⟩:=Y;obtain⟨go,yl⟩:=(it M2 H2 Um j c i).2 F;refine .inr ⟨go,λσ' H'=>∃m',m'<xs.length-i/\(m'=xs.length-(i+1)/\i+1<=xs.length/\∃ρ M,RS K H' σ' ρ/\RM K M H'/\Ext M1 H1 M H'/\bw b tb chk A (xs.drop (i+1)) ρ M),λσ' H' h=>h,λx' H' y=>?_⟩;obtain⟨yy,d,hd,rd⟩:=yl x' H' y;rw[JF F]at hd
  cases hd
  obtain⟨xy,rmy⟩:=yy.ext j;have Hf:=x1.trans (x2.trans xy);refine⟨_,ρ2,ρ',rd,U.mono (xy.stab j),hb,λσ3 Hg=>?_⟩;have nx:∀ρ5 L σ5 z,Ext M2 H' L z->RS K z σ5 ρ5->RM K L z->bw b tb chk A (xs.drop (i+1)) ρ5 L->∃m',m'<xs.length-i/\(m'=xs.length-(i+1)/\i+1<=xs.length/\∃ρ M,RS K z σ5 ρ/\RM K M z/\Ext M1 H1 M z/\bw b tb chk A (xs.drop (i+1)) ρ M):=λρ5 L σ5 z x5 Hh Hi q5=>⟨xs.length-(i+1),∅,rfl,F,ρ5,L,Hh,Hi,(x2.trans xy).trans x5,q5⟩
  refine⟨ρ',M2,{A with nx:=bw b tb chk A (xs.drop (i+1)),ct:=bw b tb chk A (xs.drop (i+1)),bk:=A.nx},Hg,rmy,⟨nx,λd L v z x5=>l.rt d L v z (Hf.trans x5),λρ5 L σ5 z x5=>l.nx ρ5 L σ5 z (Hf.trans x5),nx⟩,q3⟩
 ·have e:i=xs.length:=by lia
  subst e;rw[Qc]at Y;exact .inl ⟨(it M2 H2 Um j Y.1 _).1 (JL _),l.nx ρ2 M2 σ2 H2 (x1.trans x2) U j Y.2⟩
theorem tw{tb:TSd}(mc:aN c)(mb:aP tb)(D:bJ)(σ:St)(H:Hp)(h:lS K (jx c tb) D σ H):ui (lT K c) (lS K tb) D σ H:=by
 obtain⟨ρ,M,A,rs,rm,l,n,q⟩:=h;refine⟨λm σ' H'=>∃ρ' M',RS K H' σ' ρ'/\RM K M' H'/\Ext M H M' H'/\bD c tb A m ρ' M',⟨n,ρ,M,rs,rm,Ext.refl,q⟩,?_⟩;rintro m σ1 H1 ⟨ρ1,M1,O,U,x1,q1⟩
 cases m with
 |zero=>exact q1.elim
 |succ m=>
  refine⟨ρ1,M1,O,U,mc _ _ _ _ (λk M2 q2 H2 x2 Y=>?_) q1⟩;have j:=x1.trans x2;have Um:=O.mono (x2.stab U)
  cases k with
  |false=>rw[if_neg q7]at q2;dsimp only;rw[if_neg q7];exact l.nx ρ1 M2 σ1 H2 j Um Y q2
  |true=>
   rw[if_pos rfl]at q2;dsimp only;rw[if_pos rfl];refine⟨λσ' H'=>∃ρ' M',RS K H' σ' ρ'/\RM K M' H'/\Ext M H M' H'/\bD c tb A m ρ' M',λσ' H' h=>⟨m,Nat.lt_succ_self m,h⟩,ρ1,M2,{A with nx:=bD c tb A m,ct:=bD c tb A m,bk:=A.nx},Um,Y,⟨?_,λd z v H5 F=>l.rt d z v H5 (j.trans F),λρ5 z σ5 H5 F=>l.nx ρ5 z σ5 H5 (j.trans F),?_⟩,q2⟩
   ·exactλρ5 z σ5 H5 F J L q5=>⟨ρ5,z,J,L,j.trans F,q5⟩
   ·exactλρ5 z σ5 H5 F J L q5=>⟨ρ5,z,J,L,j.trans F,q5⟩
end
noncomputable def eU:D->D->D->Mem->(Mem->Prop)->Prop:=λo i v M Q=>∃a,o=.ref a /\
 ((∃xs k j,i=.int k/\M a=S (.lst xs)/\ixN xs.length k=S j/\Q (ag M a (.lst (xs.set j v)))) ∨
  ∃t kvs,M a=S (.dct t kvs)/\eQ t i=Uo/\kvs.length<D2/\Q (ag M a (.dct t (gz kvs i v))))
noncomputable def tD(te to ti:TEd):TSd:=λD ρ M=>te ρ M λv M1=>to ρ M1 λo M2=>ti ρ M2 λi M3=>eU o i v M3 λM4=>D.nx ρ M4
theorem vp{o i v:D}{Q Q':Mem->Prop}(h:∀M',Q M'->Q' M')(q:eU o i v M Q):eU o i v M Q':=by
 obtain⟨a,e,⟨xs,k,j,z,F,J,q⟩|⟨t,kvs,z,F,J,q⟩⟩:=q
 ·exact⟨a,e,.inl ⟨xs,k,j,z,F,J,h _ q⟩⟩
 ·exact⟨a,e,.inr ⟨t,kvs,z,F,J,h _ q⟩⟩
theorem ya{to ti:TEd}(he:af te)(ho:af to)(hi:af ti):aP (tD te to ti):=λa b ρ M i q=>he _ _ _ _ (λv M1 j=>ho _ _ _ _ (λo M2 z=>hi _ _ _ _ (λk J F=>vp (λM' q'=>i.nx _ _ q') F) z) j) q
section
variable{X:Cx}{K:Frag}
theorem yb(j:X.A.units+1<Mj):PSet X (λo i v H Q=>∃a H',o=.ref a/\DPut H a i v H'/\Q H'):=by
 intro pins s σ H o i v ov iv u Q I ro ri rv h;obtain⟨a,H',rfl,g,q⟩:=h
 cases ro
 exact uI j I g ri rv λs' I'=>⟨H',I',q⟩
theorem PSet.or{t t':sj}(h:PSet X t)(h':PSet X t'):PSet X (λo i v H Q=>t o i v H Q∨t' o i v H Q):=by
 intro pins s σ H o i v ov iv u Q I ro ri rv q
 rcases q with q|q
 ·exact h pins s σ H o i v ov iv u Q I ro ri rv q
 ·exact h' pins s σ H o i v ov iv u Q I ro ri rv q
section
variable{κ:Type}[DecidableEq κ]{H:Hp}{RK:D->κ->Prop}(inj:∀{d e:D} {k:κ},RK d k->RK e k->d=e)(fn:∀{d:D} {k k':κ},RK d k->RK d k'->k=k')
include inj fn
theorem rE{k:D}{q:κ}(hk:RK k q):∀{kvs:List (D×D)} {ps:List (κ×V)},Kv (λp r=>RK p.1 r.1/\RD K H p.2 r.2) kvs ps->
 (kvs.any λp=>decide (p.1=k))=(ps.any λp=>decide (p.1=q))
 |_,_,.nil=>rfl
 |_,_,.cons (a:=p) (b:=r) hr t=>by
  rw[LJ,LJ,rE hk t];congr 1
  by_cases e:p.1=k
  ·have e':r.1=q:=by have h1:=hr.1;rw[e]at h1;exact fn h1 hk
   rw[decide_eq_true e,decide_eq_true e']
  ·have e':¬r.1=q:=λz=>e (by have h1:=hr.1;rw[z]at h1;exact inj h1 hk)
   rw[decide_eq_false e,decide_eq_false e']
theorem rF{k:D}{q:κ}(hk:RK k q){d:D}{v:V}(j:RD K H d v):∀{kvs:List (D×D)} {ps:List (κ×V)},Kv (λp r=>RK p.1 r.1/\RD K H p.2 r.2) kvs ps->
 Kv (λp r=>RK p.1 r.1/\RD K H p.2 r.2) (kvs.map λp=>if p.1=k then(p.1,d)else p) (ps.map λp=>if p.1=q then(p.1,v)else p)
 |_,_,.nil=>.nil
 |_,_,.cons (a:=p) (b:=r) hr t=>by
  refine .cons ?_ (rF hk j t)
  by_cases e:p.1=k
  ·have e':r.1=q:=by have h1:=hr.1;rw[e]at h1;exact fn h1 hk
   dsimp only;rw[if_pos e,if_pos e'];exact⟨hr.1,j⟩
  ·have e':¬r.1=q:=λz=>e (by have h1:=hr.1;rw[z]at h1;exact inj h1 hk)
   dsimp only;rw[if_neg e,if_neg e'];exact hr
theorem oU{k:D}{q:κ}(hk:RK k q){d:D}{v:V}(j:RD K H d v){kvs:List (D×D)}{ps:List (κ×V)}(r:Kv (λp r=>RK p.1 r.1/\RD K H p.2 r.2) kvs ps):
 Kv (λp r=>RK p.1 r.1/\RD K H p.2 r.2) (gz kvs k d) (bH ps q v):=by
 unfold gz bH;rw[rE (K:=K) (H:=H) (RK:=RK) inj fn hk r]
 by_cases e:(ps.any λp=>decide (p.1=q))=Uo
 ·rw[if_pos e,if_pos e];exact rF (RK:=RK) inj fn hk j r
 ·rw[if_neg e,if_neg e];exact r.snoc ⟨hk,j⟩
end
theorem yc{o i v:D}{ov iv vv:V}{Qd:Mem->Prop}{Q:Hp->Prop}(rm:RM K M H)(ro:RD K H o ov)(ri:RD K H i iv)(rv:RD K H v vv)(h:eU o i v M Qd)(U:∀M' H',Ext M H M' H'->RM K M' H'->Qd M'->Q H'):
 zj ov iv vv H Q∨∃a H',ov=.ref a/\DPut H a iv vv H'/\Q H':=by
 obtain⟨a,rfl,⟨xs,k,j,rfl,F,O,q⟩|⟨t,kvs,J,F,O,q⟩⟩:=h
 ·cases TX.mp ro
  cases TV.mp ri
  obtain⟨vs,ha,rs⟩:=rm _ _ F;have st:Stab H (upd H a (.lst (vs.set j vv))):=rm.stabPut F;exact .inl ⟨a,vs,k,j,rfl,rfl,ha,by rw[rs.length];exact O,U _ _ (Ext.put F) (rm.put (o:=.lst (xs.set j v)) F ⟨_,ar,(rs.set j rv).mono st⟩) q⟩
 ·cases TX.mp ro
  have ro':=rm _ _ J
  cases t with
  |false=>obtain⟨ps,Y,pr⟩:=ro';obtain⟨kq,hk⟩:=gA (show dG i=Uo from F);have st:Stab H (upd H a (.dK (bH ps kq vv))):=rm.stabPut J;have L:=oU (RK:=RKey) RKey.inj RKey.fun hk rv pr;rw[fH hk ri];refine .inr ⟨a,_,rfl,DPut.k Y (by rw[<-Mb pr];exact O),U _ _ (Ext.put J) (rm.put (o:=.dct Up (gz kvs i v)) J ⟨_,ar,U0 L λ_ _ z=>⟨z.1,z.2.mono st⟩⟩) q⟩
  |true=>
   obtain⟨ps,Y,pr⟩:=ro';obtain⟨kq,hk⟩:=rl (show ef i=Uo from F);have st:Stab H (upd H a (.dT (bH ps kq vv))):=rm.stabPut J;have L:=oU (RK:=RKeys) RKeys.inj RKeys.fun hk rv pr
   cases i<;>first
    |exact hk.elim
    | (obtain⟨b,us,rfl,Um,ru⟩:=Ui (rp F) ri
       rw[iM hk ru]at Um;exact .inr ⟨a,_,rfl,DPut.t Y Um (by rw[<-Mb pr];exact O),U _ _ (Ext.put J) (rm.put (o:=.dct Uo (gz kvs _ v)) J ⟨_,ar,U0 L λ_ _ z=>⟨z.1,z.2.mono st⟩⟩) q⟩)
theorem Cr {o i e:Expr}{to ti:TEd}{pos tpos:Pos}(hu:X.A.units+1<Mj)(me:af te)(mo:af to)(mi:af ti)(he:PE X e (lE X.K te))(ho:PE X o (lE X.K to))(hi:PE X i (lE X.K ti))(hs:Na [.Subscript o i tpos] e pos.line X.env=pure Up)(hw:Mc [.Subscript o i tpos] e X.env=pure Z)(ha:∀v,assign (.Subscript o i tpos) X.env v=(do
   let ov <-holding [v] (eval o X.env)
   let iv <-holding [v,ov] (eval i X.env)
   O6 tpos
   holding [v,ov,iv] (setItem ov iv v)
   release [v,ov,iv] [])):PS X (.Assign [.Subscript o i tpos] e pos) (lS X.K (tD te to ti)):=by
 refine PS.imp (ug he (BE ho hi (PSet.or xc (yb hu)) ha) hs hw rfl) λD σ H h=>?_;obtain⟨ρ,M,A,rs,rm,l,q⟩:=h;refine⟨ρ,M,rs,rm,me _ _ _ _ (λv M1 q1 vv H1 x1 j J=>?_) q⟩;refine⟨ρ,M1,rs.mono (x1.stab rm),j,mo _ _ _ _ (λov M2 q2 vo H2 L z O=>?_) q1⟩;refine⟨ρ,M2,(rs.mono (x1.stab rm)).mono (L.stab j),z,mi _ _ _ _ (λiv M3 q3 vi H3 U Y Um=>?_) q2⟩;have F:=x1.trans (L.trans U);exact yc Y (O.mono (U.stab z)) Um ((J.mono (L.stab j)).mono (U.stab z)) q3 λM' H' x4 Hf q4=>l.nx ρ M' σ H' (F.trans x4) (rs.mono ((F.trans x4).stab rm)) Hf q4
end
end
end Mi
section
section
variable{X:Cx}{pos:Pos}
noncomputable def zr(i j l:Nat)(ta:TA):TS:=λD σ H=>ta σ H λvs H1=>∃u v w,vs=[u,v,w]/\D.nx (((σ.set i (S u)).set j (S v)).set l (S w)) H1
theorem AA{j l:Nat}{y z:Str}{a b c:Expr}{ta:TA}{px py pz pt:Pos}{kt k2 F}(hc:X.calm=Uo)(L:X.N.Nodup)(hi:X.N[i]?=S x)(hj:X.N[j]?=S y)(hl:X.N[l]?=S z)(O:i≠j)(U:i≠l)(Y:j≠l)(hx:X.env.scope.names.lookup x=S .local)(hy:X.env.scope.names.lookup y=S .local)(hz:X.env.scope.names.lookup z=S .local)(ha:PA X [a,b,c] ta)(hw:Mc [.Tuple [.Name x px,.Name y py,.Name z pz] kt pt] (.Tuple [a,b,c] k2 F) X.env=pure (S [x,y,z]))(hs:Na [.Tuple [.Name x px,.Name y py,.Name z pz] kt pt] (.Tuple [a,b,c] k2 F) pos.line X.env=pure Up:=by rfl):
 PS X (.Assign [.Tuple [.Name x px,.Name y py,.Name z pz] kt pt] (.Tuple [a,b,c] k2 F) pos) (zr i j l ta):=by
 intro pins s σ H D I h;rw[exec_Assign_arm];refine gV (KP ?_);rw[hs];refine gV (B1 ?_);rw[if_neg (by decide)]
 refine gV (Tuple_ (thn (ha _ pins s σ H _ I h) λus s1 g9=>?_));obtain⟨vs,H1,I1,r1,Um⟩:=g9;obtain⟨v1,v2,v3,e1,Um⟩:=Um;subst e1;obtain⟨u1,u2,J,rfl,w1,w2,w3⟩:∃u1 u2 J,us=[u1,u2,J]/\RelV v1 u1/\RelV v2 u2/\RelV v3 J:=by
  cases r1 with
  | cons p q=>cases q with
    | cons p' q'=>cases q' with
      |cons p'' q''=>cases q'';exact⟨_,_,_,rfl,p,p',p''⟩
 refine LR ?_ (by show 3<=D2;decide)
 have I2:Inv X pins σ H1 {s1 with heap:=s1.heap.push {cls:=.type "tuple",data:=.seq [u1,u2,J].toArray}}:=I1.kept (t':=s1.toks) λb o e=>n6 _ e
 rw[hw];refine gV (B1 ?_);show JK (model X.prog X.w) X.A (do rule "assign.swapped-stores";let items <-unpackItems (.ref s1.heap.objs.size) 3 Z;OA [λv=>NL X.env z v,λv=>NL X.env y v,λv=>NL X.env x v] items.reverse;pure Sn) _ _ _
 refine gV (Me (gV (RJ (items:=#[u1,u2,J]) (I.ok.hd hc) (R1 s1.heap _) λh' Hf=>?_)));have I3:=I2.kept (h':=h') (t':=s1.toks) λb o e=>Hf b o (K6 (JJ e)) e;show JK _ _ (OA [λv=>NL X.env z v,λv=>NL X.env y v,λv=>NL X.env x v] [J,u2,u1]>>=λ_=>pure Sn) _ _ _;refine gV (Md (Np (bT I3 L hl (.inl hz) w3 (λs2 I4=>?_) (.inr hz))));refine Md (Np (bT I4 L hj (.inl hy) w2 (λs3 I5=>?_) (.inr hy)));refine Md (Np (bT I5 L hi (.inl hx) w1 (λs4 I6=>Pu (B1 ?_)) (.inr hx)));have e:(((σ.set l (S v3)).set j (S v2)).set i (S v1))=((σ.set i (S v1)).set j (S v2)).set l (S v3):=by rw[OB _ _ (Ne.symm Y),OB _ _ (Ne.symm U),OB _ _ (Ne.symm O)]
 rw[e]at I6;exact⟨_,H1,I6,Um⟩
end
namespace Mi
variable{K:Frag}
theorem vq{ta:TAd}{i j:Nat}(m:bb ta)(D:bJ)(σ:St)(H:Hp)(h:lS K (iO ta (bf (be i) (bf (be j) eA))) D σ H):BG i j (lA K ta) D σ H:=by
 obtain⟨ρ,M,A,rs,rm,l,q⟩:=h;refine⟨ρ,M,rs,rm,m _ _ _ _ (λds M1 g9 vs H1 x1 F z=>?_) q⟩;obtain⟨ρ',e,J⟩:=g9
 match ds,e,z with
 |[d1,d2],e,z=>obtain⟨v,u,rfl,L,O⟩:=z.two;simp only[bf,be,eA,KN,PH]at e;subst e;exact⟨v,u,rfl,l.nx _ M1 _ H1 x1 (((rs.mono (x1.stab rm)).set i L).set j O) F J⟩
theorem vt{ta:TAd}{i j k:Nat}(m:bb ta)(D:bJ)(σ:St)(H:Hp)(h:lS K (iO ta (bf (be i) (bf (be j) (bf (be k) eA)))) D σ H):zr i j k (lA K ta) D σ H:=by
 obtain⟨ρ,M,A,rs,rm,l,q⟩:=h;refine⟨ρ,M,rs,rm,m _ _ _ _ (λds M1 g9 vs H1 x1 F z=>?_) q⟩;obtain⟨ρ',e,L⟩:=g9
 match ds,e,z with
 |[d1,d2,d3],e,z=>obtain⟨v,r,rfl,O,J⟩:=TZ.mp z;obtain⟨u,w,rfl,U,Y⟩:=J.two;simp only[bf,be,eA,KN,PH]at e;subst e;exact⟨v,u,w,rfl,l.nx _ M1 _ H1 x1 ((((rs.mono (x1.stab rm)).set i O).set j U).set k Y) F L⟩
end Mi
end
section
section
variable{X:Cx}
theorem aI:EH X (λo i H Q=>∃a xs k x,o=.ref a/\i=.int k/\SqL X.K H a xs/\atI xs k=S x/\Q x H):=by
 intro pins s σ H o i ov iv Q I ro ri h;obtain⟨a,xs,k,x,rfl,rfl,sq,he,q⟩:=h
 cases ro
 obtain⟨t,rfl⟩:=ri;obtain⟨its,r,pl,O⟩:=I.list sq;obtain⟨j,h1,h2,U,F,J⟩:=jR he;obtain⟨w,ew,rw'⟩:=r.get h2;have L:=r.length;have hn:=dY;have fin:EP X pins σ Q w s:=⟨x,H,I,rw',q⟩
 by_cases h0:0<=k
 ·have z:k.toNat=j:=Lo.inj (by rw[<-h1,QN h0 J])
  exact wpAny_getItem_list pl.isList h0 ∅ (by rw[z];simpa using ew) fin
 ·have z:(k+(its.toArray.size:Int)).toNat=j:=by
   rw[JN,<-L];exact Lo.inj (by rw[<-h1,Qm ∅ F])
  exact Qo pl.isList ∅ (by rw[JN];lia) ∅ (by rw[z];simpa using ew) fin
end
namespace Mi
end Mi
end
namespace Mi
variable{A:K2}{s:i4}{v:V}{b:Bool}{H:Hp}{u:h6}{r r':R2d}{ta tb:TEd}{pos:Pos}
section
section
variable{X:Cx}
noncomputable def isD:D->D->Option Bool
 |x,.non=>S (match x with|.non=>Uo|_=>Up)
 |x,.bl b=>S (match x with|.bl c=>c==b|_=>Up)
 |_,_=>Z
noncomputable def wIs:R2d:=λx y M Q=>∃k,isD x y=S k/\Q (.bl k) M
noncomputable def tE:R2d:=λx y M Q=>∃k,isD x y=S k/\Q (.bl (!k)) M
theorem AB:az wIs:=λ_ _ _ _ _ h j=>(by obtain⟨k,e,q⟩:=j;exact⟨k,e,h _ _ q⟩)
theorem yd:az tE:=λ_ _ _ _ _ h j=>(by obtain⟨k,e,q⟩:=j;exact⟨k,e,h _ _ q⟩)
theorem AC{M:MP}{E Q:h6->i4->Prop}{v:h6}(j:∀id,v≠.builtin id)(h:Q (.bool (v==.bool b)) s):JK M A (Kb .Is v (.bool b)) Q E s:=by cases v<;>first|exact B1 h|exact absurd rfl (j _)
theorem ye{M:MP}{E Q:h6->i4->Prop}{v:h6}(j:∀id,v≠.builtin id)(h:Q (.bool (!(v==.bool b))) s):JK M A (Kb .IsNot v (.bool b)) Q E s:=by cases v<;>first|exact B1 h|exact absurd rfl (j _)
theorem vw{K:Frag}{x y:D}{w:V}{t:h6}{k:Bool}(e:isD x y=S k)(rx:RD K H x v)(ry:RD K H y w)(ru:RelV v u)(rt:RelV w t):(t=.none/\(u==.none)=k)∨∃b,t=.bool b/\(u==.bool b)=k/\∀id,u≠.builtin id:=by
 cases y with
 |non=>
  cases U2.mp ry
  cases rt
  refine .inl ⟨rfl,?_⟩
  cases x with
  |non=>cases U2.mp rx;cases ru;cases e;rfl
  |bl c=>cases TY.mp rx;cases ru;cases e;rfl
  |int i=>cases TV.mp rx;obtain⟨tk,rfl⟩:=ru;cases e;rfl
  |str z=>cases U1.mp rx;obtain⟨tk,rfl⟩:=ru;cases e;rfl
  |tup ds=>obtain⟨a,vs,rfl,_⟩:=U4 rx;cases ru;cases e;rfl
  |con ds=>obtain⟨a,vs,rfl,_⟩:=U3.mp rx;cases ru;cases e;rfl
  |ref a=>cases TX.mp rx;cases ru;cases e;rfl
  |fn z=>obtain⟨a,rfl,_⟩:=Ue.mp rx;cases ru;cases e;rfl
 |bl b=>
  cases TY.mp ry
  cases rt
  refine .inr ⟨b,rfl,?_⟩
  cases x with
  |non=>cases U2.mp rx;cases ru;cases e;exact⟨rfl,λ_ z=>by cases z⟩
  |bl c=>cases TY.mp rx;cases ru;cases e;exact⟨by cases b<;>cases c<;>rfl,λ_ z=>by cases z⟩
  |int i=>cases TV.mp rx;obtain⟨tk,rfl⟩:=ru;cases e;exact⟨rfl,λ_ z=>by cases z⟩
  |str z=>cases U1.mp rx;obtain⟨tk,rfl⟩:=ru;cases e;exact⟨rfl,λ_ z=>by cases z⟩
  |tup ds=>obtain⟨a,vs,rfl,_⟩:=U4 rx;cases ru;cases e;exact⟨rfl,λ_ z=>by cases z⟩
  |con ds=>obtain⟨a,vs,rfl,_⟩:=U3.mp rx;cases ru;cases e;exact⟨rfl,λ_ z=>by cases z⟩
  |ref a=>cases TX.mp rx;cases ru;cases e;exact⟨rfl,λ_ z=>by cases z⟩
  |fn z=>obtain⟨a,rfl,_⟩:=Ue.mp rx;cases ru;cases e;exact⟨rfl,λ_ z=>by cases z⟩
 |_=>cases e
theorem AD:OpR X (Kb .Is) (l2 X.K wIs):=by
 intro pins s σ H v w u t Q I ru rt h;obtain⟨x,y,M,rm,rx,ry,k,e,q⟩:=h;have fin:EP X pins σ Q (.bool k) s:=⟨.bl k,H,I,rfl,q _ H Ext.refl rm (TY.mpr rfl)⟩
 rcases vw e rx ry ru rt with⟨rfl,j⟩|⟨b,rfl,j,nb⟩
 ·exact is_none_gen (by rw[j];exact fin)
 ·exact AC nb (by rw[j];exact fin)
theorem yf:OpR X (Kb .IsNot) (l2 X.K tE):=by
 intro pins s σ H v w u t Q I ru rt h;obtain⟨x,y,M,rm,rx,ry,k,e,q⟩:=h;have fin:EP X pins σ Q (.bool (!k)) s:=⟨.bl (!k),H,I,rfl,q _ H Ext.refl rm (TY.mpr rfl)⟩
 rcases vw e rx ry ru rt with⟨rfl,j⟩|⟨b,rfl,j,nb⟩
 ·exact isnot_none_gen (by rw[j];exact fin)
 ·exact ye nb (by rw[j];exact fin)
noncomputable def cj(r r':R2d)(ta tb tc:TEd):TEd:=λρ M Q=>ta ρ M λx M1=>tb ρ M1 λy M2=>r x y M2 λz M3=>∃k,z=.bl k/\(if k=Uo then tc ρ M3 λw M4=>r' y w M4 Q else Q (.bl Up) M3)
theorem fX{tc:TEd}(hr:az r)(F:az r')(J:af ta)(L:af tb)(O:af tc):af (cj r r' ta tb tc):=λρ M Q Q' i q=>
 J _ _ _ _ (λx M1 U=>L _ _ _ _ (λy M2 Y=>hr _ _ _ _ _ (λz M3 ⟨k,e,j⟩=>⟨k,e,by
  cases k with
  |true=>rw[if_pos rfl]at j⊢;exact O _ _ _ _ (λw M4 Um=>F _ _ _ _ _ i Um) j
  |false=>rw[if_neg q7]at j⊢;exact i _ _ j⟩) Y) U) q
theorem jy{tc:TEd}(hr:az r)(Um:az r')(ma:af ta)(mb:af tb)(mc:af tc)(σ:St)(H:Hp)(Q:VK)(h:lE X.K (cj r r' ta tb tc) σ H Q):nQ (l2 X.K r) (l2 X.K r') (lE X.K ta) (lE X.K tb) (lE X.K tc) σ H Q:=by
 obtain⟨ρ,M,rs,rm,q⟩:=h;refine⟨ρ,M,rs,rm,ma _ _ _ _ (λx M1 q1 v H1 x1 j Hf=>?_) q⟩;refine⟨ρ,M1,rs.mono (x1.stab rm),j,mb _ _ _ _ (λy M2 q2 w H2 O F L=>?_) q1⟩;refine⟨x,y,M2,F,Hf.mono (O.stab j),L,hr _ _ _ _ _ (λz M3 g9 v3 H3 Y J Hg=>?_) q2⟩;obtain⟨k,e,U⟩:=g9;subst e;refine⟨k,TY.mp Hg,?_⟩
 cases k with
 |true=>rw[if_pos rfl]at U⊢;refine⟨ρ,M3,(((rs.mono (x1.stab rm)).mono (O.stab j)).mono (Y.stab F)),J,mc _ _ _ _ (λw4 M4 q4 v4 H4 x4 Hh Hi=>?_) U⟩;exact⟨y,w4,M4,Hh,(L.mono (Y.stab F)).mono (x4.stab J),Hi,Um _ _ _ _ _ (λd M5 k5=>k5.ext (((x1.trans O).trans Y).trans x4)) q4⟩
 |false=>rw[if_neg q7]at U⊢;exact U (.bl Up) H3 ((x1.trans O).trans Y) J (TY.mpr rfl)
noncomputable def tF:D->Option Bool
 |.bl b=>S b
 |.int i=>S (i != 0)
 |_=>Z
noncomputable def oV:RAd:=λxs M Q=>∃x ds ts,xs=[x]/\bv M x=S ds/\aA tF ds=S ts/\Q (.bl (ts.all id)) M
theorem oW:b8 oV:=λ_ _ _ _ h j=>(by obtain⟨x,ds,ts,e,z,F,q⟩:=j;exact⟨x,ds,ts,e,z,F,h _ _ q⟩)
theorem oZ{α β:Type}{f:α->Option β}:∀{xs:List α} {ys:List β},aA f xs=S ys->ys.length=xs.length/\∀(i:Nat) x,xs[i]?=S x->∃y,ys[i]?=S y/\f x=S y
 |[],ys,h=>by cases h;exact⟨rfl,λi x e=>by simp at e⟩
 |x::xs,ys,h=>by
  simp only[aA]at h
  cases j:f x with
  |none=>rw[j]at h;cases h
  |some y=>
   rw[j]at h;simp only[KN]at h
   cases e2:aA f xs with
   |none=>rw[e2]at h;cases h
   |some r=>
    rw[e2]at h;cases h;obtain⟨l,g⟩:=oZ e2;refine⟨by simp[l],λi z e=>?_⟩
    cases i with
    |zero=>simp at e;subst e;exact⟨y,rfl,j⟩
    |succ i=>simp at e;simpa using g i z e
theorem AE{P:JR}{w:K8}{E:h6->i4->Prop}{K:Frag}{d:D}{Q:Bool->i4->Prop}(e:tF d=S b)(rd:RD K H d v)(ru:RelV v u)(q:Q b s):JK (model P w) A (truthy u) Q E s:=by
 cases d with
 |bl c=>cases TY.mp rd;cases ru;cases e;exact L7 q
 |int i=>cases TV.mp rd;obtain⟨t,rfl⟩:=ru;cases e;exact PyProof.Rows.truthy_int q
 |_=>cases e
theorem range_all{ts:List Bool}:(L4 ts.length).all (λi=>ts.getD i Up)=ts.all id/\(L4 ts.length).any (λi=>ts.getD i Up)=ts.any id:=by
 have e:(L4 ts.length).map (λi=>ts.getD i Up)=ts:=by
  apply List.ext_getElem
  ·simp
  ·intro i h1 h2;simp[Lb,JF h2]
 constructor
 ·conv=>rhs;rw[<-e]
  rw[Sa];rfl
 ·conv=>rhs;rw[<-e]
  rw[List.any_map];rfl
theorem yg(O:X.calm=Uo){pins:List (Uq×Obj)}{σ:St}{M:Mem}{x:D}{ds:List D}{ts:List Bool}{Q:h6->i4->Prop}{g:List Bool->Bool}(I:Inv X pins σ H s)(rm:RM X.K M H)(rd:RD X.K H x v)(ru:RelV v u)(Um:bv M x=S ds)(e2:aA tF ds=S ts)(fin:∀h' tk,Inv X pins σ H {s with heap:=h',toks:=tk}->Q (.bool (g ts)) {s with heap:=h',toks:=tk})(gg:Nat->(Nat->Bool)->Bool)(U:gg ts.length (λi=>ts.getD i Up)=g ts):
 JK (model X.prog X.w) X.A.in1 (QK u) (λit s₂=>∃I fp wr n P St tr,it=.ref I/\Walks X.prog X.w X.A.in1 I fp wr n P St/\St 0 s₂.heap/\TruthOf X.prog X.w X.A.in1 P tr /\
  ∀h' tk,(∀b o,b∉wr->s₂.heap.get? b=S o->h'.get? b=S o)->Q (.bool (gg n tr)) {s₂ with heap:=h',toks:=tk}) X.xe s:=by
 obtain⟨p,vs,rfl,sq,Y⟩:=fJ rm rd Um
 cases ru
 obtain⟨lt,get⟩:=oZ e2;have lv:=Y.length;have tr:∀(its:List h6),Vals vs its->TruthOf X.prog X.w X.A.in1 (λi w=>its.toArray[i]?=S w) (λi=>ts.getD i Up):=by
  intro its rv i w s' Q' E' hP J;have z:its[i]?=S w:=by simpa using hP
  have li:=rv.length;have hi:i<its.length:=(JO.mp z).1;obtain⟨d,hd⟩:∃d,ds[i]?=S d:=⟨ds[i]'∅,JF ∅⟩
  obtain⟨v',L,rd'⟩:=Y.get hd;obtain⟨u',F,ru'⟩:=rv.get L;rw[z]at F;cases F;obtain⟨b,hb,eb⟩:=get i d hd;have:ts.getD i Up=b:=by rw[Lb,hb];rfl
  have J:Q' (ts.getD i Up) s':=J;rw[this]at J;exact AE eb rd' ru' J
 rcases sq with sq|sq
 ·obtain⟨its,rv,pl,hz⟩:=I.list sq;have li:=rv.length;have j:p<s.heap.objs.size:=by obtain⟨o,n,e,_⟩:=pl;exact JJ e
  refine PD pl.isList ⟨s.heap.objs.size,_,_,_,_,_,_,rfl,Walks.list (by rw[NZ];exact I.ok.hd O) s.heap.objs.size p (K6 j) its.toArray,⟨⟨_,JW _ rfl,rfl,rfl⟩,pl.isList.at λo e=>n6 _ e⟩,tr its rv,λh' tk k=>?_⟩
  have hn:its.toArray.size=ts.length:=by rw[JN];lia
  rw[hn,U];exact fin h' tk (I.kept (t':=tk) λb o e=>k b o (by simp;exact K6 (JJ e)) (n6 _ e))
 ·obtain⟨its,rv,pl,hz⟩:=I.tuple sq;have li:=rv.length;have j:p<s.heap.objs.size:=by obtain⟨o,e,_⟩:=pl;exact JJ e
  have pt:s.heap.IsTuple p its.toArray:=pl;refine MY pt ⟨s.heap.objs.size,_,_,_,_,_,_,rfl,Walks.tuple (by rw[NZ];exact I.ok.hd O) s.heap.objs.size p (K6 j) its.toArray,⟨⟨_,JW _ rfl,rfl,rfl⟩,pt.push _⟩,tr its rv,λh' tk k=>?_⟩
  have hn:its.toArray.size=ts.length:=by rw[JN];lia
  rw[hn,U];exact fin h' tk (I.kept (t':=tk) λb o e=>k b o (by simp;exact K6 (JJ e)) (n6 _ e))
theorem tG(j:X.calm=Uo):CallR X (.builtin "all") (lR X.K oV):=by intro pins s σ H xs us Q I rv h;obtain⟨ds,M,rm,rs,x,es,ts,rfl,z,F,q⟩:=h;obtain⟨v,rfl,r⟩:=rs.one;obtain⟨u,rfl,ru⟩:=dC rv;exact call_all_walk (yg j I rm r ru z F (g:=λts=>ts.all id) (λh' tk I'=>⟨.bl _,H,I',rfl,q _ H Ext.refl rm (TY.mpr rfl)⟩) (λn tr=>(L4 n).all tr) range_all.1)
noncomputable def nv(t:Bool):TEd:=λ_ M Q=>∀p,M p=Z->Q (.ref p) (ag M p (.dct t []))
theorem vx{t:Bool}:af (nv t):=λ_ _ _ _ i q p n=>i _ _ (q p n)
theorem AF{t:Bool}:PE X (.Dict [] [] pos) (lE X.K (nv t)):=by
 cases t with
 |false=>refine PE.imp xi λσ H Q g9 p n=>?_;obtain⟨ρ,M,rs,rm,q⟩:=g9;exact q p (rm.out n) (.ref p) _ (Ext.lay n) (rm.lay n ⟨[],ar,.nil⟩) (TX.mpr rfl)
 |true=>refine PE.imp xj λσ H Q g9 p n=>?_;obtain⟨ρ,M,rs,rm,q⟩:=g9;exact q p (rm.out n) (.ref p) _ (Ext.lay n) (rm.lay n ⟨[],ar,.nil⟩) (TX.mpr rfl)
theorem yh{op op':QL}{a b c:Expr}{tc:TEd}(ho:OpR X (Kb op) (l2 X.K r))(j:OpR X (Kb op') (l2 X.K r'))(hr:az r)(z:az r')(ma:af ta)(mb:af tb)(mc:af tc)(F:PE X a (lE X.K ta))(J:PE X b (lE X.K tb))(L:PE X c (lE X.K tc))(hm:Q1 [op,op'] [b,c]=Up):PE X (.Compare a [op,op'] [b,c] pos) (lE X.K (cj r r' ta tb tc)):=PE.imp (wU ho j F J L hm) (jy hr z ma mb mc)
theorem yi{op op':QL}{a b c:Expr}{tc:TEd}(ho:OpR X (Kb op) (l2 X.K r))(z:OpR X (Kb op') (l2 X.K r'))(hr:az r)(j:az r')(ma:af ta)(mb:af tb)(mc:af tc)(F:PE X a (lE X.K ta))(J:PE X b (lE X.K tb))(L:PE X c (lE X.K tc))(hm:Q1 [op,op'] [b,c]=Up):PT X (.Compare a [op,op'] [b,c] pos) (lT X.K (dz (cj r r' ta tb tc))):=PT.imp (wV ho z F J L hm) λσ H Q h=>jy hr j ma mb mc σ H _ (on (fX hr j ma mb mc) σ H Q h)
end
end
end Mi
namespace Srt
structure Cm(prog:JR)(w:K8)(A:K2)(s:i4)(kd:NQ)(P:JH->Prop)(lt:JH->JH->Bool):Prop where
 asym:∀x y,lt x y=Uo->lt y x=Up
 neg:∀x y z,lt x z=Uo->lt x y=Uo∨lt y z=Uo
 run:∀(x y:JH) (E:h6->i4->Prop) (Q:Bool->i4->Prop),P x->P y->Q (lt x y) s->JK (JT prog w) A (keyLt' kd x.1 y.1) Q E s
variable{M:MP}{x y:JH}{st:KI}{i:Nat}
section
variable{prog:JR}{w:K8}{A:K2}{E:h6->i4->Prop}{s:i4}{kd:NQ}{P:JH->Prop}{lt:JH->JH->Bool}
theorem ae{σ α:Type}{x:α}{st:σ}{Q:α->σ->Prop}(q:Q x st):wpS M A E s (pure x) Q st:=λ_ _ _=>⟨rfl,q⟩
theorem cS{σ:Type}{tag:String}{st:σ}{Q:Unit->σ->Prop}(q:Q () st):wpS M A E s (liftM (PySem.rule tag)) Q st:=wpS_lift (Me ⟨rfl,q⟩)
theorem AG{σ:Type}{st st':σ}{Q:PUnit->σ->Prop}(q:Q PUnit.unit st'):wpS M A E s (set st') Q st:=λ_ _ _=>⟨rfl,q⟩
theorem jz(c:Cm prog w A s kd P lt){Q:Option Bool->KI->Prop}(hk:Lk st=kd)(hx:P x)(j:P y)(q:Q (S (lt x y)) st):wpS (JT prog w) A E s (lt' x y) Q st:=by rw[lt'_eq];refine JI (OF ?_);refine JI (wpS_lift ?_);rw[hk];intro Γ p hp;rw[Sem.wp_attempt];exact c.run x y (λe s'=>s'=s/\wpS (JT prog w) A E s (do modify λs=>Ow (Lk s) (Ke s) (La s) (gallopOf s) (S e);pure Z) Q st) (λb s'=>s'=s/\wpS (JT prog w) A E s (pure (S b)) Q st) hx j ⟨rfl,ae q⟩ Γ p hp
theorem aG{arr:Array JH}{Q:JH->KI->Prop}(h:arr[i]?=S x)(q:Q x st):wpS (JT prog w) A E s (elem' arr i) Q st:=by rw[elem'_eq,h];exact ae q
theorem Cm.le_trans(c:Cm prog w A s kd P lt){z:JH}(h:lt y x=Up)(h2:lt z y=Up):lt z x=Up:=by
 cases e:lt z x with
 |false=>rfl
 |true=>rcases c.neg z y x e with q|q<;>simp_all
theorem Cm.irr(c:Cm prog w A s kd P lt):lt x x=Up:=by
 cases e:lt x x with
 |false=>rfl
 |true=>have:=c.asym x x e;rw[e]at this;exact this
theorem aJ{σ α:Type}{m:StateT σ Sem α}{st:σ}{Q Q':α->σ->Prop}(h:wpS M A E s m Q st)(q:∀a st',Q a st'->Q' a st'):wpS M A E s m Q' st:=Kh h (λa s' z=>⟨z.1,q _ _ z.2⟩) λ_ _ z=>z
end
noncomputable abbrev Ct:=Bool->JH->Array JH->Nat->Nat->Nat->StateT KI Sem (Option Nat)
noncomputable abbrev Cu:=Array JH->Array JH->StateT KI Sem (Array JH)
noncomputable def bey(lt:JH->JH->Bool)(left:Bool)(key x:JH):Bool:=if left=Uo then lt x key else !(lt key x)
structure Same(st st':KI):Prop where
 arr:Ke st'=Ke st
 kind:Lk st'=Lk st
 pend:La st'=La st
 fail:LO st'=LO st
def i7(prog:JR)(w:K8)(A:K2)(E:h6->i4->Prop)(s:i4)(kd:NQ)(P:JH->Prop)(lt:JH->JH->Bool)(g:Ct):Prop:=
 ∀(left:Bool) (key:JH) (arr:Array JH) (L xs R:List JH) (base n aS:Nat) (st:KI) (Q:Option Nat->KI->Prop),Lk st=kd->P key->arr.toList=L++xs++R->base=L.length->n=xs.length->(∀x∈xs,P x)->aS<n->
  xs.Pairwise (λx y=>lt y x=Up)->
  (∀X Y,xs=X++Y->(∀x∈X,bey lt left key x=Uo)->(∀x∈Y,bey lt left key x=Up)->Q (S X.length) st)->
  wpS (JT prog w) A E s (g left key arr base n aS) Q st
def i8(prog:JR)(w:K8)(A:K2)(E:h6->i4->Prop)(s:i4)(kd:NQ)(P:JH->Prop)(lt:JH->JH->Bool)(m:Cu):Prop:=
 ∀(a b:Array JH) (st:KI) (Q:Array JH->KI->Prop),Lk st=kd->(∀x∈a.toList,P x)->(∀x∈b.toList,P x)->0<a.size->0<b.size->
  a.toList.Pairwise (λx y=>lt y x=Up)->b.toList.Pairwise (λx y=>lt y x=Up)->(∀x y,a[0]?=S x->b[0]?=S y->lt x y=Up)->(∀x y,a[a.size-1]?=S x->b[b.size-1]?=S y->lt x y=Up)->
  (∀r st',r.toList.Perm (a.toList++b.toList)->r.toList.Pairwise (λx y=>lt y x=Up)->Same st st'->Q r st')->
  wpS (JT prog w) A E s (m a b) Q st
variable{left:Bool}{key:JH}{j ia ib n na nb:Nat}{xs X l Y la lb:List JH}{a b:Array JH}
section
variable{prog:JR}{w:K8}{A:K2}{E:h6->i4->Prop}{s:i4}{kd:NQ}{P:JH->Prop}{lt:JH->JH->Bool}
theorem gH(c:Cm prog w A s kd P lt){arr:Array JH}{Q:Option Bool->KI->Prop}(hk:Lk st=kd)(hx:P key)(z:P x)(e:arr[j]?=S x)(q:Q (S (bey lt left key x)) st):
 wpS (JT prog w) A E s (do
  let x <-elem' arr j
  if left=Uo then lt' x key else do
   let r <-lt' key x
   pure (Option.map (λx=>!x) r)) Q st:=by
 refine JI (aG e ?_)
 cases left with
 |true=>exact jz c hk z hx q
 |false=>exact JI (jz c hk hx z (ae q))
theorem pc(c:Cm prog w A s kd P lt)(h:lt y x=Up)(j:bey lt left key y=Uo):bey lt left key x=Uo:=by
 unfold bey at j⊢
 cases left with
 |true=>
  rw[if_pos rfl]at j⊢
  rcases c.neg y x key j with q|q
  ·rw[h]at q;cases q
  ·exact q
 |false=>
  simp at j⊢
  cases e:lt key x with
  |false=>rfl
  |true=>
   rcases c.neg key y x e with q|q
   ·rw[j]at q;cases q
   ·rw[h]at q;cases q
structure Gal(lt:JH->JH->Bool)(left:Bool)(key:JH)(xs:List JH)(lo hi:Nat):Prop where
 le:lo<=hi
 len:hi<=xs.length
 up:∀i x,i<lo->xs[i]?=S x->bey lt left key x=Uo
 dn:∀i x,hi<=i->xs[i]?=S x->bey lt left key x=Up
theorem fK{R:JH->JH->Prop}(h:xs.Pairwise R)(z:i<j)(hx:xs[i]?=S x)(F:xs[j]?=S y):R x y:=by obtain⟨h1,J⟩:=JO.mp hx;obtain⟨h2,L⟩:=JO.mp F;rw[<-J,<-L];exact List.pairwise_iff_getElem.mp h i j h1 h2 z
theorem i9(c:Cm prog w A s kd P lt)(h:xs.Pairwise (λx y=>lt y x=Up))(z:xs[j]?=S y)(F:bey lt left key y=Uo):∀i x,i<j+1->xs[i]?=S x->bey lt left key x=Uo:=by
 intro i x hi hx
 by_cases e:i=j
 ·subst e;rw[hx]at z;cases z;exact F
 ·exact pc c (fK h ∅ hx z) F
theorem ic(c:Cm prog w A s kd P lt)(h:xs.Pairwise (λx y=>lt y x=Up))(z:xs[j]?=S y)(F:bey lt left key y=Up):∀i x,j<=i->xs[i]?=S x->bey lt left key x=Up:=by
 intro i x hi hx
 by_cases e:i=j
 ·subst e;rw[hx]at z;cases z;exact F
 ·cases q:bey lt left key x with
  |false=>rfl
  |true=>have:=pc c (fK h ∅ z hx) q;rw[F]at this;cases this
theorem Gal.out{k:Nat}(g:Gal lt left key xs k k):∃X Y,xs=X++Y/\X.length=k/\(∀x∈X,bey lt left key x=Uo)/\(∀x∈Y,bey lt left key x=Up):=by
 refine⟨xs.take k,xs.drop k,(Li k xs).symm,by rw[Kf];exact NU g.len,λx hx=>?_,λx hx=>?_⟩
 ·obtain⟨i,hi,e⟩:=Ls.mp hx;rw[Kf]at hi;exact g.up i x ∅ (by rw[List.getElem_take]at e;rw[<-e];exact JF _)
 ·obtain⟨i,hi,e⟩:=Ls.mp hx;rw[Ox]at hi;refine g.dn (k+i) x ∅ ?_
  rw[List.getElem_drop]at e;rw[<-e];exact JF _
noncomputable abbrev Ord(lt:JH->JH->Bool)(l:List JH):Prop:=l.Pairwise λx y=>lt y x=Up
theorem pf{out A' B:List JH}(h1:Ord lt (out++(X++A')))(h2:Ord lt (out++B))(h:∀x∈X,∀y∈B,lt y x=Up):Ord lt ((out++X)++A')/\Ord lt ((out++X)++B):=by
 refine⟨by rw[JQ];exact h1,?_⟩
 rw[JQ];obtain⟨j,F,J⟩:=I8.mp h1;obtain⟨Y,p2,L⟩:=I8.mp h2;obtain⟨O,Um,q3⟩:=I8.mp F;refine I8.mpr ⟨j,I8.mpr ⟨O,p2,h⟩,λx hx y U=>?_⟩
 rcases K0.mp U with z|z
 ·exact J x hx y (Lp _ z)
 ·exact L x hx y z
structure ML(lt:JH->JH->Bool)(la lb out:List JH)(ia ib:Nat):Prop where
 pa:Ord lt (out++la.drop ia)
 pb:Ord lt (out++lb.drop ib)
 pm:(out++(la.drop ia++lb.drop ib)).Perm (la++lb)
theorem rG(c:Cm prog w A s kd P lt)(h:Ord lt (l.drop i))(j:l[i]?=S y)(hx:lt y x=Up):∀z∈l.drop i,lt z x=Up:=by
 obtain⟨hi,e⟩:=JO.mp j;rw[Le hi,e]at h⊢;intro z F
 rcases JS.mp F with q|q
 ·rw[q];exact hx
 ·exact c.le_trans hx ((Pf.mp h).1 z q)
theorem eB(e:l.drop i=X++Y):l.drop (i+X.length)=Y:=by rw[<-Pg,e,List.drop_left]
theorem ML.galA(c:Cm prog w A s kd P lt){out:List JH}(m:ML lt la lb out ia ib)(e:la.drop ia=X++Y)(j:lb[ib]?=S y)(h:∀x∈X,lt y x=Up):ML lt la lb (out++X) (ia+X.length) ib:=by
 have p2:=(I8.mp m.pb).2.1;have q:=pf (X:=X) (A':=Y) (by rw[<-e];exact m.pa) m.pb λx hx=>rG c p2 j (h x hx)
 refine⟨by rw[eB e];exact q.1,q.2,?_⟩
 rw[eB e];refine O4.trans (Td ?_) m.pm;rw[e];simp
theorem ML.galB(c:Cm prog w A s kd P lt){out:List JH}(m:ML lt la lb out ia ib)(e:lb.drop ib=X++Y)(j:la[ia]?=S y)(h:∀x∈X,lt y x=Up):ML lt la lb (out++X) ia (ib+X.length):=by
 have p2:=(I8.mp m.pa).2.1;have q:=pf (X:=X) (A':=Y) (by rw[<-e];exact m.pb) m.pa λx hx=>rG c p2 j (h x hx)
 refine⟨q.2,by rw[eB e];exact q.1,?_⟩
 rw[eB e];refine O4.trans ?_ m.pm;rw[e,JQ];refine L5 _ ?_;rw[<-JQ,<-JQ];exact KW _ Nh
theorem eC(h:l[i]?=S x):l.drop i=[x]++l.drop (i+1):=by obtain⟨hi,e⟩:=JO.mp h;rw[Le hi,e];rfl
theorem ML.pushA(c:Cm prog w A s kd P lt){out:List JH}(m:ML lt la lb out ia ib)(hx:la[ia]?=S x)(j:lb[ib]?=S y)(h:lt y x=Up):ML lt la lb (out++[x]) (ia+1) ib:=m.galA c (eC hx) j (by simpa using h)
theorem ML.pushB(c:Cm prog w A s kd P lt){out:List JH}(m:ML lt la lb out ia ib)(hx:la[ia]?=S x)(j:lb[ib]?=S y)(h:lt x y=Up):ML lt la lb (out++[y]) ia (ib+1):=m.galB c (eC j) hx (by simpa using h)
def Res(lt:JH->JH->Bool)(la lb r:List JH):Prop:=r.Perm (la++lb)/\Ord lt r
theorem ML.fin{out:List JH}(m:ML lt la lb out ia ib)(h:lb.length<=ib):Res lt la lb (out++la.drop ia++lb.drop ib):=by rw[Ma h,Kw];refine⟨?_,m.pa⟩;have:=m.pm;rw[Ma h,Kw]at this;exact this
theorem ML.finE{out:List JH}(m:ML lt la lb out ia ib)(h:la.length<=ia):Res lt la lb (out++la.drop ia++lb.drop ib):=by rw[Ma h,Kw];refine⟨?_,m.pb⟩;have:=m.pm;rw[Ma h,Ml]at this;exact this
theorem ML.finA{out:List JH}(m:ML lt la lb out ia ib)(h:∀x∈lb,∀y∈la.drop ia,lt y x=Up):Res lt la lb (out++lb.drop ib++la.drop ia):=by
 refine⟨?_,?_⟩
 ·refine O4.trans ?_ m.pm;rw[JQ];exact L5 _ Nh
 ·obtain⟨L,F,J⟩:=I8.mp m.pa;refine I8.mpr ⟨m.pb,F,λx hx y j=>?_⟩
  rcases K0.mp hx with z|z
  ·exact J x z y j
  ·exact h x (Nw z) y j
theorem ML.size{out:List JH}(m:ML lt la lb out ia ib)(j:ia<=la.length)(z:ib<=lb.length):out.length=ia+ib:=by have:=m.pm.length_eq;simp only[JG,Ox]at this;lia
theorem aI(h:i<a.size):∃x,a[i]?=S x/\a.toList[i]?=S x/\x∈a.toList:=by refine⟨a[i],KS h,?_,Array.getElem_mem_toList h⟩;rw[K9];exact KS h
theorem bR:(a.extract i).toList=a.toList.drop i:=by rw[LQ];simp only[Oe];exact MZ (by simp)
theorem AH(e:a.toList.drop i=X++Y):(a.extract i (i+X.length)).toList=X:=by rw[LQ];simp[Oe,e]
theorem Same.refl:Same st st:=⟨rfl,rfl,rfl,rfl⟩
theorem Same.trans{a b c:KI}(h:Same a b)(g:Same b c):Same a c:=⟨g.arr.trans h.arr,g.kind.trans h.kind,g.pend.trans h.pend,g.fail.trans h.fail⟩
theorem lL{O A' B:List JH}(h1:Ord lt (A'++(Y++O)))(h2:Ord lt (B++O))(h:∀y∈Y,∀x∈B,lt y x=Up):Ord lt (B++(Y++O)):=by
 obtain⟨U,j,Um⟩:=I8.mp h1;obtain⟨F,p2,J⟩:=I8.mp h2;refine I8.mpr ⟨F,j,λx hx y L=>?_⟩
 rcases K0.mp L with z|z
 ·exact h y z x hx
 ·exact J x hx y z
structure MH(lt:JH->JH->Bool)(la lb out:List JH)(na nb:Nat):Prop where
 pa:Ord lt (la.take na++out.reverse)
 pb:Ord lt (lb.take nb++out.reverse)
 pm:(la.take na++lb.take nb++out.reverse).Perm (la++lb)
theorem ii(c:Cm prog w A s kd P lt)(h:Ord lt (l.take n))(hn:0<n)(J:l[n-1]?=S y)(hx:lt x y=Up):∀z∈l.take n,lt x z=Up:=by
 intro z L;obtain⟨i,hi,e⟩:=Ls.mp L;have j:(l.take n)[i]?=S z:=by rw[<-e];exact JF hi
 have F:(l.take n)[n-1]?=S y:=by rw[NM ∅];exact J
 rw[Kf]at hi
 by_cases hin:i=n-1
 ·subst hin;rw[F]at j;cases j;exact hx
 ·exact c.le_trans (fK h ∅ j F) hx
theorem eE(e:l.take n=X++Y):l.take X.length=X:=by
 have h:X.length<=n:=by have:=congrArg MQ e;simp only[Kf,JG]at this;lia
 have h2:(l.take n).take X.length=X:=by rw[e,List.take_left]
 rw[List.take_take,NU h]at h2;exact h2
theorem MH.galA(c:Cm prog w A s kd P lt){out:List JH}(m:MH lt la lb out na nb)(e:la.take na=X++Y)(hn:0<nb)(j:lb[nb-1]?=S y)(h:∀x∈Y,lt x y=Up):MH lt la lb (out++Y.reverse) X.length nb:=by
 have p2:=(I8.mp m.pb).1;have h1:Ord lt (X++(Y++out.reverse)):=by rw[<-JQ,<-e];exact m.pa
 have q:=lL h1 m.pb λx hx=>ii c p2 hn j (h x hx);refine⟨by rw[eE e];simpa using h1,by simpa using q,?_⟩
 rw[eE e];refine O4.trans ?_ m.pm;rw[e];simp only[List.reverse_append,List.reverse_reverse,JQ];refine L5 _ ?_;rw[<-JQ,<-JQ];exact KW _ Nh
theorem MH.galB(c:Cm prog w A s kd P lt){out:List JH}(m:MH lt la lb out na nb)(e:lb.take nb=X++Y)(hn:0<na)(j:la[na-1]?=S y)(h:∀x∈Y,lt x y=Up):MH lt la lb (out++Y.reverse) na X.length:=by
 have p2:=(I8.mp m.pa).1;have h1:Ord lt (X++(Y++out.reverse)):=by rw[<-JQ,<-e];exact m.pb
 have q:=lL h1 m.pa λx hx=>ii c p2 hn j (h x hx);refine⟨by simpa using q,by rw[eE e];simpa using h1,?_⟩
 rw[eE e];refine O4.trans (Td ?_) m.pm;rw[e];simp
theorem cT(hn:0<n)(h:l[n-1]?=S x):l.take n=l.take (n-1)++[x]:=by
 obtain⟨k,rfl⟩:∃k,n=k+1:=⟨n-1,∅⟩
 rw[RA]at h⊢;rw[Sb,h];rfl
theorem rH(hn:0<n)(h:l[n-1]?=S x):(l.take (n-1)).length=n-1:=by obtain⟨hi,_⟩:=JO.mp h;rw[Kf];lia
theorem MH.pushA(c:Cm prog w A s kd P lt){out:List JH}(m:MH lt la lb out na nb)(j:0<na)(z:0<nb)(hx:la[na-1]?=S x)(F:lb[nb-1]?=S y)(h:lt x y=Up):MH lt la lb (out++[x]) (na-1) nb:=by
 have q:=m.galA c (cT j hx) z F (by simpa using h)
 rw[rH j hx]at q;simpa using q
theorem MH.pushB(c:Cm prog w A s kd P lt){out:List JH}(m:MH lt la lb out na nb)(F:0<na)(j:0<nb)(hx:la[na-1]?=S x)(z:lb[nb-1]?=S y)(h:lt y x=Up):MH lt la lb (out++[y]) na (nb-1):=by
 have q:=m.galB c (cT j z) F hx (by simpa using h)
 rw[rH j z]at q;simpa using q
theorem MH.fin{out:List JH}(m:MH lt la lb out na nb)(h:na=0∨nb=0):Res lt la lb (la.take na++lb.take nb++out.reverse):=by
 refine⟨m.pm,?_⟩
 rcases h with rfl|rfl
 ·simpa using m.pb
 ·simpa using m.pa
theorem MH.finB{out:List JH}(m:MH lt la lb out na nb)(h:∀x∈lb.take nb,∀y∈la,lt y x=Up):Res lt la lb (lb.take nb++la.take na++out.reverse):=by
 refine⟨O4.trans (KW _ Nh) m.pm,?_⟩;obtain⟨j,L,F⟩:=I8.mp m.pb;rw[JQ];refine I8.mpr ⟨j,m.pa,λx hx y J=>?_⟩
 rcases K0.mp J with z|z
 ·exact h x hx y (Nx z)
 ·exact F x hx y z
theorem MH.size{out:List JH}(m:MH lt la lb out na nb)(j:na<=la.length)(z:nb<=lb.length):out.length+na+nb=la.length+lb.length:=by have:=m.pm.length_eq;simp only[JG,Kf,Rb]at this;lia
theorem eV:a.toList.take a.size=a.toList:=MZ (by simp)
theorem bA:(a.extract 0 i).toList=a.toList.take i:=by rw[LQ];simp[Oe]
theorem yj(e:a.toList.take n=X++Y):(a.extract X.length n).toList=Y:=by rw[LQ];simp only[Oe];rw[<-List.drop_take,e,List.drop_left]
theorem yk:∀(m old L R:List JH) (a:Array JH),a.toList=L++old++R->m.length=old.length->(Oq (λa x=>a.setIfInBounds (L.length+x.snd) x.fst) a m.zipIdx).toList=L++m++R:=by
 have g:∀(m old L R:List JH) (k:Nat) (a:Array JH),a.toList=L++old++R->m.length=old.length->∀b:Nat,b+k=L.length->(Oq (λa x=>a.setIfInBounds (b+x.snd) x.fst) a (m.zipIdx k)).toList=L++m++R:=by
  intro m
  induction m with
  |nil=>intro old L R k a e h b j;have:old=[]:=Kl.mp h.symm;subst this;simpa using e
  |cons x m ih=>
   intro old L R k a e h b j
   cases old with
   |nil=>simp at h
   |cons y old=>
    rw[List.zipIdx_cons,Qz];have z:(a.setIfInBounds (b+k) x).toList=(L++[x])++old++R:=by rw[Array.toList_setIfInBounds,e,j];simp
    have:=ih old (L++[x]) R (k+1) _ z (by simpa using h) b (by simp;lia)
    rw[this];simp
 exactλm old L R a e h=>g m old L R 0 a e h L.length ∅
theorem ah{σ α:Type}{p:Prop}[Decidable p]{j z:StateT σ Sem α}{st:σ}{Q:α->σ->Prop}(h1:p->wpS M A E s j Q st)(h2:¬p->wpS M A E s z Q st):wpS M A E s (if p then j else z) Q st:=by
 split
 ·next h=>exact h1 h
 ·next h=>exact h2 h
theorem ML.cut{out:Array JH}(m:ML lt la lb (out.toList++X) i j)(e:a.toList.drop n=X++Y):ML lt la lb (out++a.extract n (n+X.length)).toList i j:=by rw[JM,AH e];exact m
theorem MH.cut{out:Array JH}(m:MH lt la lb (out.toList++Y.reverse) i j)(e:a.toList.take n=X++Y):MH lt la lb (out++(a.extract X.length n).reverse).toList i j:=by rw[JM,Kj,yj e];exact m
theorem vy{σ α:Type}{m:StateT σ Sem α}{st:σ}{Q:α->σ->Prop}{P:σ->Prop}(j:P st)(h:∀st',P st'->wpS M A E s m Q st'):wpS M A E s m Q st:=h st j
theorem zt{σ α:Type}{m:StateT σ Sem α}{st:σ}{Q:α->σ->Prop}(h:∀Q':α->σ->Prop,(∀a st',Q a st'->Q' a st')->wpS M A E s m Q' st):wpS M A E s m Q st:=h Q λ_ _ h=>h
theorem zu(h:bey lt Up key x=Uo):lt key x=Up:=by simpa[bey]using h
theorem vz(h:bey lt Up key x=Up):lt key x=Uo:=by simpa[bey]using h
theorem zv(h:bey lt Uo key x=Uo):lt x key=Uo:=by simpa[bey]using h
theorem vA(h:bey lt Uo key x=Up):lt x key=Up:=by simpa[bey]using h
theorem pj(e:l.drop i=X++Y)(h:l[i+X.length]?=S x):x∈Y:=by rw[<-eB e,eC h];simp
theorem pq(e:l.take n=X++Y)(h0:0<X.length)(h:l[X.length-1]?=S x):x∈X:=by have:=cT h0 h;rw[eE e]at this;rw[this];simp
theorem pv(e:a.toList.drop i=X++Y):X.length<=a.size-i:=by have:=congrArg MQ e;simp at this;lia
theorem lM(e:a.toList.take n=X++Y)(h:n<=a.size):X.length+Y.length=n:=by have:=congrArg MQ e;simp at this;lia
theorem fY(h:n<=a.size):n=(a.toList.take n).length:=by simp;lia
theorem ML.finR{out:Array JH}(m:ML lt a.toList b.toList out.toList ia ib)(h:b.size<=ib):Res lt a.toList b.toList (out++a.extract ia++b.extract ib).toList:=by
 have:=m.fin (by simpa using h)
 simpa only[JM,bR]using this
theorem ML.finS{out:Array JH}(m:ML lt a.toList b.toList out.toList ia ib)(h:a.size<=ia):Res lt a.toList b.toList (out++a.extract ia++b.extract ib).toList:=by
 have:=m.finE (by simpa using h)
 simpa only[JM,bR]using this
theorem ML.finL{out:Array JH}(m:ML lt a.toList b.toList out.toList ia ib)(h:∀x∈b.toList,∀y∈a.toList.drop ia,lt y x=Up):Res lt a.toList b.toList (out++b.extract ib++a.extract ia).toList:=by have:=m.finA h;simpa only[JM,bR]using this
theorem MH.finR{out:Array JH}(m:MH lt a.toList b.toList out.toList na nb)(h:∀x∈b.toList.take nb,∀y∈a.toList,lt y x=Up):Res lt a.toList b.toList (b.extract 0 nb++a.extract 0 na++out.reverse).toList:=by have:=m.finB h;simpa only[JM,Kj,bA]using this
theorem MH.finL{out:Array JH}(m:MH lt a.toList b.toList out.toList na nb)(h:na=0∨nb=0):Res lt a.toList b.toList (a.extract 0 na++b.extract 0 nb++out.reverse).toList:=by have:=m.fin h;simpa only[JM,Kj,bA]using this
theorem GX(c:Cm prog w A s kd P lt):
 ∃(g:Ct) (lo hi:Cu),(i7 prog w A E s kd P lt g/\(i7 prog w A E s kd P lt g->i8 prog w A E s kd P lt lo)/\(i7 prog w A E s kd P lt g->i8 prog w A E s kd P lt hi))/\(i7 prog w A E s kd P lt g->i8 prog w A E s kd P lt lo->i8 prog w A E s kd P lt hi->
  ∀(i sa na pa sb nb pb:Nat) (L r1 r2 R:List JH) (st:KI) (Q:Bool->KI->Prop),Lk st=kd->LO st=Z->(La st)[i]?=S (sa,na,pa)->(La st)[i+1]?=S (sb,nb,pb)->
   (Ke st).toList=L++(r1++r2)++R->sa=L.length->na=r1.length->sb=L.length+r1.length->nb=r2.length->r1≠[]->r2≠[]->(∀x∈r1,P x)->(∀x∈r2,P x)->Ord lt r1->Ord lt r2->
   (∀m st',(Ke st').toList=L++m++R->m.Perm (r1++r2)->Ord lt m->Lk st'=kd->LO st'=Z->La st'=((La st).setIfInBounds i (sa,na+nb,pa)).eraseIdxIfInBounds (i+1)->Q Uo st')->
   wpS (JT prog w) A E s (mergeAt' i) Q st):=by
 apply Qv;apply Qv;apply Qv;apply Ot
 rotate_left
 ·intro hg Jn Jo i sa na pa sb nb pb L r1 r2 R st Q hk hf h1 h2 Hg IK HX IM Im Jp Jq IV IW o1 o2 q;unfold mergeAt';refine JI (OF ?_);rw[h1,h2];dsimp only;refine JI (AG ?_);obtain⟨y0,t2,rfl⟩:∃y t,r2=y::t:=by cases r2 with|nil=>exact absurd rfl Jq|cons y t=>exact⟨y,t,rfl⟩
  have hz:(Ke st)[sb]?=S y0:=by rw[<-K9,Hg,IM];simp
  refine JI (aG hz ?_);refine JI (hg Up y0 (Ke st) L r1 (y0::t2++R) sa na 0 _ _ hk (IW _ (by simp)) (by rw[Hg];simp) IK HX IV (by rw[HX];exact MD.mpr Jp) o1 λX Y e hX hY=>?_)
  dsimp only;have lX:∀x∈X,lt y0 x=Up:=λx hx=>by have:=hX x hx;simpa[bey]using this
  have lY:∀x∈Y,lt x y0=Up:=λx hx=>c.asym _ _ (by have:=hY x hx;simpa[bey]using this)
  have hlen:na-X.length=Y.length:=by rw[HX,e];simp
  subst e;obtain⟨oX,oY,oXY⟩:=I8.mp o1;have oy:=Pf.mp o2;have IN:∀x∈X,∀z∈y0::t2,lt z x=Up:=λx hx z hz=>by
   rcases JS.mp hz with h|h
   ·rw[h];exact lX x hx
   ·exact c.le_trans (lX x hx) (oy.1 z h)
  refine ah (λh=>?_) (λh=>?_)
  ·have IO:Y=[]:=Kl.mp (by rw[<-hlen];simpa using h)
   subst IO;refine ae (q (X++(y0::t2)) _ (by simpa using Hg) (by simp) ?_ hk hf rfl)
   exact I8.mpr ⟨oX,o2,IN⟩
  ·have IO:0<Y.length:=by
    have:na-X.length≠0:=by simpa using h
    lia
   obtain⟨Y0,xl,rfl⟩:∃Y0 xl,Y=Y0++[xl]:=⟨Y.dropLast,Y.getLast (by intro z;rw[z]at IO;simp at IO),(OT _).symm⟩
   have Jr:(Ke st)[sa+X.length+(na-X.length)-1]?=S xl:=by
    rw[<-K9,Hg,hlen,IK];simp only[JQ,JG,Nc];rw[D1 ∅,D1 ∅,D1 ∅]
    rw[show L.length+X.length+(Y0.length+1)-1-L.length-X.length-Y0.length=0 by lia];rfl
   refine JI (aG Jr ?_);refine JI (hg Uo xl (Ke st) (L++(X++(Y0++[xl]))) (y0::t2) R sb nb (nb-1) _ _ hk (IV _ (by simp)) (by rw[Hg];simp) (by rw[IM];simp) Im IW (by rw[Im];simp) o2 λX2 Y2 e2 HY HZ=>?_)
   dsimp only;have Js:∀x∈X2,lt xl x=Up:=λx hx=>c.asym _ _ (by have:=HY x hx;simpa[bey]using this)
   have Jb:∀x∈Y2,lt x xl=Up:=λx hx=>by have:=HZ x hx;simpa[bey]using this
   have Jt:Ord lt (X2++Y2):=by rw[<-e2];exact o2
   obtain⟨Ju,Jv,Jc⟩:=I8.mp Jt;obtain⟨JD,_,oYl⟩:=I8.mp oY;have lYY:∀x∈Y0++[xl],∀z∈Y2,lt z x=Up:=λx hx z hz=>by
    rcases K0.mp hx with h|h
    ·exact c.le_trans (oYl x h xl (by simp)) (Jb z hz)
    ·simp at h;subst h;exact Jb z hz
   refine ah (λh=>?_) (λh=>?_)
   ·have HQ:X2=[]:=Kl.mp (by simpa using h)
    subst HQ;have e2:y0::t2=Y2:=by simpa using e2
    refine ae (q (X++(Y0++[xl])++(y0::t2)) _ (by simpa using Hg) (Ph _) ?_ hk hf rfl)
    refine I8.mpr ⟨o1,o2,λx hx z hz=>?_⟩
    rcases K0.mp hx with g|g
    ·exact IN x g z hz
    ·exact lYY x g z (by rw[<-e2];exact hz)
   ·have HQ:X2≠[]:=λz=>h (by rw[z];rfl)
    have hx:((Ke st).extract (sa+X.length) sb).toList=Y0++[xl]:=by
     rw[LQ,Hg,IK,IM];simp only[Oe];have e1:(L++(X++(Y0++[xl])++y0::t2)++R).drop (L.length+X.length)=(Y0++[xl])++(y0::t2++R):=by rw[<-Pg];simp
     rw[e1,show L.length+(X++(Y0++[xl])).length-(L.length+X.length)=(Y0++[xl]).length by simp only[JG];lia,List.take_left]
    have hy:((Ke st).extract sb (sb+X2.length)).toList=X2:=by
     rw[LQ,Hg,IM];simp only[Oe];have e1:(L++(X++(Y0++[xl])++y0::t2)++R).drop (L.length+(X++(Y0++[xl])).length)=(y0::t2)++R:=by rw[<-Pg];simp
     rw[e1,e2];simp
    have O:∀(r:Array JH) (Hk:KI),r.toList.Perm ((Y0++[xl])++X2)->Ord lt r.toList->Same (PyProof.Rows.SortSt.mk' (Lk st) (Ke st) (((La st).setIfInBounds i (sa,na+nb,pa)).eraseIdxIfInBounds (i+1)) (gallopOf st) (LO st)) Hk->∀Hh:KI,Ke Hh=Oq (λa x=>a.setIfInBounds (sa+X.length+x.snd) x.fst) (Ke Hk) r.toList.zipIdx->Lk Hh=Lk Hk->LO Hh=LO Hk->La Hh=La Hk->Q (LO Hh).isNone Hh:=by
     intro r Hk hp ho hs Hh g1 g2 g3 g4;have Jd:LO Hh=Z:=g3.trans (hs.fail.trans hf);rw[Jd];refine q (X++r.toList++Y2) Hh ?_ ?_ ?_ (g2.trans (hs.kind.trans hk)) Jd (g4.trans hs.pend)
     ·rw[g1,hs.arr];have e3:(Ke st).toList=(L++X)++((Y0++[xl])++X2)++(Y2++R):=by
       rw[Hg,e2];simp
      rw[show sa+X.length=(L++X).length by rw[IK];simp]
      rw[yk _ _ _ _ _ e3 (hp.length_eq)];simp
     ·rw[e2];refine O4.trans (KW _ (L5 _ hp)) ?_;simp
     ·refine I8.mpr ⟨I8.mpr ⟨oX,ho,λx hx z hz=>?_⟩,Jv,λx hx z hz=>?_⟩
      ·rcases K0.mp (hp.mem_iff.mp hz)with g|g
       ·exact oXY x hx z g
       ·exact IN x hx z (by rw[e2];exact Lp _ g)
      ·rcases K0.mp hx with g|g
       ·exact IN x g z (by rw[e2];exact K1 _ hz)
       ·rcases K0.mp (hp.mem_iff.mp g)with g|g
        ·exact lYY x g z hz
        ·exact Jc x g z hz
    have IT:∀x y,((Ke st).extract (sa+X.length) sb)[0]?=S x->((Ke st).extract sb (sb+X2.length))[0]?=S y->lt x y=Up:=by
     intro x y HH Io;rw[<-K9,hx]at HH;rw[<-K9,hy]at Io;have Ip:=Kg HH;have:y=y0:=by
      cases X2 with
      |nil=>exact absurd rfl HQ
      |cons z t=>simp at e2 Io;rw[<-Io,<-e2.1]
     subst this;exact lY x Ip
    have preL:∀x y,((Ke st).extract (sa+X.length) sb)[((Ke st).extract (sa+X.length) sb).size-1]?=S x->((Ke st).extract sb (sb+X2.length))[((Ke st).extract sb (sb+X2.length)).size-1]?=S y->lt x y=Up:=by
     intro x y HH Io;rw[<-K9,<-Kn,hx]at HH;rw[<-K9,<-Kn,hy]at Io;have HI:=Kg Io;have:x=xl:=by simp at HH;exact HH.symm
     subst this;exact Js y HI
    have Je:0<((Ke st).extract (sa+X.length) sb).size:=by rw[<-Kn,hx];simp
    have Jf:0<((Ke st).extract sb (sb+X2.length)).size:=by rw[<-Kn,hy];exact MD.mpr HQ
    have Jg:∀x∈((Ke st).extract (sa+X.length) sb).toList,P x:=by rw[hx];exactλx hx=>IV x (K1 _ hx)
    have Jh:∀x∈((Ke st).extract sb (sb+X2.length)).toList,P x:=by rw[hy];exactλx hx=>IW x (by rw[e2];exact Lp _ hx)
    have Ji:Ord lt ((Ke st).extract (sa+X.length) sb).toList:=by rw[hx];exact oY
    have Jj:Ord lt ((Ke st).extract sb (sb+X2.length)).toList:=by rw[hy];exact Ju
    refine ah (λh=>?_) (λh=>?_)
    ·refine JI (Jn _ _ _ _ hk Jg Jh Je Jf Ji Jj IT preL λr Hk hp ho hs=>?_);rw[hx,hy]at hp;refine JI (Ny ?_);refine JI (OF ?_);exact ae (O r Hk hp ho hs _ rfl rfl rfl rfl)
    ·refine JI (Jo _ _ _ _ hk Jg Jh Je Jf Ji Jj IT preL λr Hk hp ho hs=>?_);rw[hx,hy]at hp;refine JI (Ny ?_);refine JI (OF ?_);exact ae (O r Hk hp ho hs _ rfl rfl rfl rfl)
 apply Ot
 ·intro left key arr L xs R base n aS st Q hk HR Hg IY hn hP hh hs q;subst IY hn;have at_:∀i,i<xs.length->∃x,xs[i]?=S x/\arr[L.length+i]?=S x/\P x:=by
   intro i hi;refine⟨xs[i],JF hi,?_,hP _ (Sy _)⟩;rw[<-K9,Hg,JQ,D1 ∅,JP ∅]
   rw[show L.length+i-L.length=i by lia]
   exact JF hi
  obtain⟨x0,HH,Iq,Jw⟩:=at_ aS hh;refine JI (gH c hk HR Jw Iq ?_)
  try dsimp only
  refine ah (λhb=>?_) (λhb=>?_)
  ·skip
   refine JI (aJ (Q:=λr st'=>st'=st/\∃la ofs,r=(Z,la,ofs)/\aS+la<xs.length/\la<ofs/\(∀j x,j<aS+la+1->xs[j]?=S x->bey lt left key x=Uo)/\(xs.length<=aS+ofs∨∀j x,aS+ofs<=j->xs[j]?=S x->bey lt left key x=Up))
    (KJ (λi r st'=>st'=st/\∃la ofs,r=(Z,la,ofs)/\aS+la<xs.length/\la<ofs/\i+1<=ofs/\(∀j x,j<aS+la+1->xs[j]?=S x->bey lt left key x=Uo)) ?_ ?_ ⟨rfl,0,1,rfl,hh,∅,∅,i9 c hs HH hb⟩) ?_)
   ·rintro i r st' _ hi ⟨rfl,la,ofs,rfl,h1,h2,h3,h4⟩
    try dsimp only
    refine ah (λI0=>?_) (λI0=>?_)
    ·exact ae ⟨rfl,la,ofs,rfl,h1,h2,h4,.inl ∅⟩
    ·skip
     obtain⟨x1,HC,Ia,Ib⟩:=at_ (aS+ofs) ∅
     refine JI (gH c hk HR Ib Ia ?_)
     try dsimp only
     refine ah (λhf=>?_) (λhf=>?_)
     ·exact ae ⟨rfl,la,ofs,rfl,h1,h2,h4,.inr (ic c hs HC (by simpa using hf))⟩
     ·exact ae ⟨rfl,ofs,2*ofs+1,rfl,∅,∅,∅,i9 c hs HC (by simpa using hf)⟩
   ·rintro r st' ⟨rfl,la,ofs,rfl,h1,h2,h3,h4⟩;exact⟨rfl,la,ofs,rfl,h1,h2,h4,.inl ∅⟩
   ·rintro r st' ⟨rfl,la,ofs,rfl,h1,h2,h3,h4⟩
    try dsimp only
    have hG:Gal lt left key xs (aS+la+1) (aS+min ofs (xs.length-aS)):=by
     refine⟨∅,∅,h3,λi x hi hx=>?_⟩
     have JE:i<xs.length:=(JO.mp hx).1
     rcases h4 with h4|h4
     ·lia
     ·exact h4 i x ∅ hx
    generalize aS+la+1=lo at hG;generalize aS+min ofs (xs.length-aS)=hi at hG;refine JI (aJ (Q:=λr st''=>st''=st'/\∃k,r=(Z,k,k)/\Gal lt left key xs k k)
     (KJ (λi r st''=>st''=st'/\∃lo hi,r=(Z,lo,hi)/\Gal lt left key xs lo hi/\hi-lo+i<=xs.length) ?_ ?_ ⟨rfl,lo,hi,rfl,hG,by have:=hG.len;lia⟩) ?_)
    ·rintro i r st'' _ hi ⟨rfl,lo,hi,rfl,hG,hm⟩
     try dsimp only
     have hl:=hG.le;have Ir:=hG.len;refine ah (λI0=>?_) (λI0=>?_)
     ·exact ae ⟨rfl,hi,by rw[show lo=hi by lia],by rw[show lo=hi by lia]at hG;exact hG⟩
     ·skip
      obtain⟨x1,HC,Ia,Ib⟩:=at_ (lo+(hi-lo) / 2) ∅
      refine JI (gH c hk HR Ib Ia ?_)
      try dsimp only
      refine ah (λhf=>?_) (λhf=>?_)
      ·exact ae ⟨rfl,_,_,rfl,⟨∅,Ir,i9 c hs HC hf,hG.dn⟩,∅⟩
      ·exact ae ⟨rfl,_,_,rfl,⟨∅,∅,hG.up,ic c hs HC (by simpa using hf)⟩,∅⟩
    ·rintro r st'' ⟨rfl,lo,hi,rfl,hG,hm⟩;have hl:=hG.le;exact⟨rfl,hi,by rw[show lo=hi by lia],by rw[show lo=hi by lia]at hG;exact hG⟩
    ·rintro r st'' ⟨rfl,k,rfl,hG⟩;obtain⟨X,Y,e,hl,hX,hY⟩:=hG.out;subst hl;exact ae (q X Y e hX hY)
  ·skip
   refine JI (aJ (Q:=λr st'=>st'=st/\∃la ofs,r=(Z,la,ofs)/\la<=aS/\la<ofs/\(∀j x,aS-la<=j->xs[j]?=S x->bey lt left key x=Up)/\(aS<ofs∨∀j x,j<aS-ofs+1->xs[j]?=S x->bey lt left key x=Uo))
    (KJ (λi r st'=>st'=st/\∃la ofs,r=(Z,la,ofs)/\la<=aS/\la<ofs/\i+1<=ofs/\(∀j x,aS-la<=j->xs[j]?=S x->bey lt left key x=Up)) ?_ ?_ ⟨rfl,0,1,rfl,∅,∅,∅,ic c hs HH (by simpa using hb)⟩) ?_)
   ·rintro i r st' _ hi ⟨rfl,la,ofs,rfl,h1,h2,h3,h4⟩
    try dsimp only
    refine ah (λI0=>?_) (λI0=>?_)
    ·exact ae ⟨rfl,la,ofs,rfl,h1,h2,h4,.inl ∅⟩
    ·skip
     obtain⟨x1,HC,Ia,Ib⟩:=at_ (aS-ofs) ∅
     refine JI (gH c hk HR Ib Ia ?_)
     try dsimp only
     refine ah (λhf=>?_) (λhf=>?_)
     ·exact ae ⟨rfl,la,ofs,rfl,h1,h2,h4,.inr (i9 c hs HC hf)⟩
     ·exact ae ⟨rfl,ofs,2*ofs+1,rfl,∅,∅,∅,ic c hs HC (by simpa using hf)⟩
   ·rintro r st' ⟨rfl,la,ofs,rfl,h1,h2,h3,h4⟩;exact⟨rfl,la,ofs,rfl,h1,h2,h4,.inl ∅⟩
   ·rintro r st' ⟨rfl,la,ofs,rfl,h1,h2,h3,h4⟩
    try dsimp only
    have hG:Gal lt left key xs (aS+1-min ofs (aS+1)) (aS-la):=by
     refine⟨∅,∅,λi x hi hx=>?_,h3⟩
     rcases h4 with h4|h4
     ·lia
     ·exact h4 i x ∅ hx
    generalize aS+1-min ofs (aS+1)=lo at hG;generalize aS-la=hi at hG;refine JI (aJ (Q:=λr st''=>st''=st'/\∃k,r=(Z,k,k)/\Gal lt left key xs k k)
     (KJ (λi r st''=>st''=st'/\∃lo hi,r=(Z,lo,hi)/\Gal lt left key xs lo hi/\hi-lo+i<=xs.length) ?_ ?_ ⟨rfl,lo,hi,rfl,hG,by have:=hG.len;lia⟩) ?_)
    ·rintro i r st'' _ hi ⟨rfl,lo,hi,rfl,hG,hm⟩
     try dsimp only
     have hl:=hG.le;have Ir:=hG.len;refine ah (λI0=>?_) (λI0=>?_)
     ·exact ae ⟨rfl,hi,by rw[show lo=hi by lia],by rw[show lo=hi by lia]at hG;exact hG⟩
     ·skip
      obtain⟨x1,HC,Ia,Ib⟩:=at_ (lo+(hi-lo) / 2) ∅
      refine JI (gH c hk HR Ib Ia ?_)
      try dsimp only
      refine ah (λhf=>?_) (λhf=>?_)
      ·exact ae ⟨rfl,_,_,rfl,⟨∅,Ir,i9 c hs HC hf,hG.dn⟩,∅⟩
      ·exact ae ⟨rfl,_,_,rfl,⟨∅,∅,hG.up,ic c hs HC (by simpa using hf)⟩,∅⟩
    ·rintro r st'' ⟨rfl,lo,hi,rfl,hG,hm⟩;have hl:=hG.le;exact⟨rfl,hi,by rw[show lo=hi by lia],by rw[show lo=hi by lia]at hG;exact hG⟩
    ·rintro r st'' ⟨rfl,k,rfl,hG⟩;obtain⟨X,Y,e,hl,hX,hY⟩:=hG.out;subst hl;exact ae (q X Y e hX hY)
 apply Ot
 ·intro hg a b st Q hk Ic Id IP IQ sa sb Iu Iv q;refine JI (cS ?_);obtain⟨b0,IR,Iw,Jy⟩:=aI IQ;obtain⟨a0,Iq,Ik,Jz⟩:=aI IP;refine JI (aG IR ?_);have m0:ML lt a.toList b.toList [] 0 0:=⟨sa,sb,by simp⟩
  have m1:ML lt a.toList b.toList [b0] 0 1:=m0.pushB c Ik Iw (Iu a0 b0 Iq IR);have HJ:∀x∈b.toList,∀(i:Nat),i+1=a.size->∀y∈a.toList.drop i,lt y x=Up:=by
   intro x hx i hi y hy;obtain⟨aL,IS,Ix,_⟩:=aI (a:=a) (i:=i) ∅
   obtain⟨bL,IZ,Il,_⟩:=aI (a:=b) (i:=b.size-1) ∅
   have e:a.toList.drop i=[aL]:=by rw[eC Ix,Ma (by simp;lia)];rfl
   rw[e]at hy;simp at hy;subst hy;have hl:=Iv y bL (by rw[show a.size-1=i by lia];exact IS) IZ
   obtain⟨j,hj,e⟩:=Ls.mp hx;have Ie:b.toList[j]?=S x:=by rw[<-e];exact JF hj
   by_cases hjb:j=b.size-1
   ·subst hjb;rw[Il]at Ie;cases Ie;exact hl
   ·have:=fK sb (show j<b.size-1 by simp at hj;lia) Ie Il
    exact c.le_trans this hl
  try dsimp -zeta -zetaHave -zetaUnused only
  refine ah (λh=>?_) (λh=>?_)
  ·skip
   have h:1=b.size:=by simpa using h
   refine ae ?_;have r:=m1.fin (by simp;lia)
   exact q _ _ (by simpa only[JM,JV,Kd,bR]using r.1) (by simpa only[JM,JV,Kd,bR]using r.2) Same.refl
  ·skip
   refine ah (λh2=>?_) (λh2=>?_)
   ·skip
    have h2:0+1=a.size:=by simpa using h2
    refine ae ?_;have r:=m1.finA (HJ · · 0 h2);exact q _ _ (by simpa only[JM,JV,Kd,bR]using r.1) (by simpa only[JM,JV,Kd,bR]using r.2) Same.refl
   ·skip
    have h:1≠b.size:=by simpa using h
    have h2:0+1≠a.size:=by simpa using h2
    refine JI (OF ?_)
    try dsimp -zeta -zetaHave -zetaUnused only
    refine JI (aJ (Q:=λr st'=>Same st st'/\∃res t,r=(S res,t)/\Res lt a.toList b.toList res.toList)
     (KJ (λi r st'=>Same st st'/\∃out ia ib mg,r=(Z,out,ia,ib,mg)/\ML lt a.toList b.toList out.toList ia ib/\ia+1<a.size/\ib<b.size/\i+1<=out.size) ?_ ?_ ⟨Same.refl,_,_,_,_,rfl,m1,∅,∅,by simp⟩) ?_)
    ·rintro i r HD _ hi ⟨sm,out,ia,ib,mg,rfl,m,J0,J1,hsz⟩
     try dsimp -zeta -zetaHave -zetaUnused only
     refine JI (aJ (Q:=λr st'=>st'=HD/\((∃F Hv Hz ac bc,r=(Z,F,Hv,Hz,ac,bc)/\ML lt a.toList b.toList F.toList Hv Hz/\Hv+1<a.size/\Hz<b.size/\i+2<=F.size)∨∃res t,r=(S res,t)/\Res lt a.toList b.toList res.toList))
      (KJ (λj r st'=>st'=HD/\∃F Hv Hz ac bc,r=(Z,F,Hv,Hz,ac,bc)/\ML lt a.toList b.toList F.toList Hv Hz/\Hv+1<a.size/\Hz<b.size/\i+1+j<=F.size) ?_ ?_ ⟨rfl,_,_,_,_,_,rfl,m,J0,J1,∅⟩) ?_)
     ·rintro j r Hk _ hj ⟨rfl,F,Hv,Hz,ac,bc,rfl,m2,h1,h2,h3⟩
      try dsimp only
      obtain⟨y,hy,HE,HI⟩:=aI (a:=b) h2;obtain⟨x,hx,Iy,Ip⟩:=aI (a:=a) (i:=Hv) ∅
      refine JI (aG hy (JI (aG hx (JI (jz c (sm.kind.trans hk) (Id _ HI) (Ic _ Ip) ?_)))))
      try dsimp only
      refine ah (λhl=>?_) (λhl=>?_)
      ·skip
       refine JI (aG hy ?_)
       try dsimp only
       have m3:=m2.pushB c Iy HE (c.asym _ _ hl);refine ah (λh=>?_) (λh=>?_)
       ·skip
        have h:Hz+1=b.size:=by simpa using h
        exact ae ⟨rfl,.inr ⟨_,_,rfl,by simpa only[JM,JV,Kd,bR]using m3.fin (by simp;lia)⟩⟩
       ·skip
        have h:Hz+1≠b.size:=by simpa using h
        refine ah (λ_=>?_) (λ_=>?_)
        ·exact ae ⟨rfl,.inl ⟨_,_,_,_,_,rfl,by simpa only[JM,JV]using m3,h1,∅,by simp;lia⟩⟩
        ·exact ae ⟨rfl,_,_,_,_,_,rfl,by simpa only[JM,JV]using m3,h1,∅,by simp;lia⟩
      ·skip
       refine JI (aG hx ?_)
       try dsimp only
       have m3:=m2.pushA c Iy HE (by simpa using hl)
       refine ah (λh=>?_) (λh=>?_)
       ·skip
        have h:Hv+1+1=a.size:=by simpa using h
        exact ae ⟨rfl,.inr ⟨_,_,rfl,by simpa only[JM,JV,Kd,bR]using m3.finA (HJ · · _ h)⟩⟩
       ·skip
        have h:Hv+1+1≠a.size:=by simpa using h
        refine ah (λ_=>?_) (λ_=>?_)
        ·exact ae ⟨rfl,.inl ⟨_,_,_,_,_,rfl,by simpa only[JM,JV]using m3,∅,h2,by simp;lia⟩⟩
        ·exact ae ⟨rfl,_,_,_,_,_,rfl,by simpa only[JM,JV]using m3,∅,h2,by simp;lia⟩
     ·rintro r Hk ⟨rfl,F,Hv,Hz,ac,bc,rfl,m2,h1,h2,h3⟩;exact⟨rfl,.inl ⟨_,_,_,_,_,rfl,m2,h1,h2,∅⟩⟩
     ·rintro r Hk ⟨rfl,⟨F,Hv,Hz,ac,bc,rfl,m2,h1,h2,h3⟩|⟨res,t,rfl,U⟩⟩
      ·dsimp -zeta -zetaHave -zetaUnused only;refine JI (cS ?_);refine JI (aJ (Q:=fun r st'=>Same st st'/\((∃J Hm Hi Hw ac bc,r=(Z,J,Hm,Hi,Hw,ac,bc)/\ML lt a.toList b.toList J.toList Hm Hi/\Hm+1<a.size/\Hi<b.size/\i+2<=J.size)∨∃res t,r=(S res,t)/\Res lt a.toList b.toList res.toList))
        (KJ (λj r st'=>Same st st'/\∃J Hm Hi Hw ac bc,r=(Z,J,Hm,Hi,Hw,ac,bc)/\ML lt a.toList b.toList J.toList Hm Hi/\Hm+1<a.size/\Hi<b.size/\i+2<=J.size) ?_ ?_ ⟨sm,_,_,_,_,_,_,rfl,m2,h1,h2,h3⟩) ?_)
       ·rintro j r Hh _ hj ⟨Hx,J,Hm,Hi,Hw,Iz,IA,rfl,m3,h1,h2,h5⟩;obtain⟨y,hy,HE,HI⟩:=aI (a:=b) h2;refine zt λQQ hQ=>?_;have O:∀(st':KI) (res:Array JH) t,Same st st'->Res lt a.toList b.toList res.toList->QQ (.done (S res,t)) st':=λst' res t hs hr=>hQ _ _ ⟨hs,.inr ⟨_,_,rfl,hr⟩⟩;have J2:∀(st':KI) (out:Array JH) ia ib mg ac bc,Same st st'->ML lt a.toList b.toList out.toList ia ib->ia+1<a.size->ib<b.size->i+2<=out.size->QQ (.done (Z,out,ia,ib,mg,ac,bc)) st'/\QQ (.yield (Z,out,ia,ib,mg,ac,bc)) st':=λst' out ia ib mg ac bc hs p1 p2 p3 p4=>⟨hQ _ _ ⟨hs,.inl ⟨_,_,_,_,_,_,rfl,p1,p2,p3,p4⟩⟩,hQ _ _ ⟨hs,_,_,_,_,_,_,rfl,p1,p2,p3,p4⟩⟩;clear hQ hj
        extract_lets -underBinder s0 vout s1 via s2 vib s3 vmg s4 vac vbc jp vmx
        have IB:∀mg,wpS (JT prog w) A E s (jp () mg) QQ Hh:=by
         intro mg;dsimp -zeta -zetaHave -zetaUnused only[jp,s0,vout,s1,via,s2,vib,s3,vmg,s4,vac,vbc];clear vmx jp vbc vac s4 vmg s3 vib s2 via s1 vout s0;refine JI (Ny ?_);refine vy (P:=Same st) (Hx.trans ⟨rfl,rfl,rfl,rfl⟩) λIg Hn=>?_;have IC:=Hn.kind.trans hk;refine JI (aG hy ?_);refine JI (hg Up y a (a.toList.take Hm) (a.toList.drop Hm) [] _ _ _ _ _ IC (Id _ HI) (by simp) (fY ∅) (by simp) (λx hx=>Ic x (Nw hx)) ∅ ((I8.mp m3.pa).2.1) λX Y e hX hY=>?_)
         dsimp -zeta -zetaHave -zetaUnused only;have m4:=m3.galA c e HE λx hx=>zu (hX x hx);have Ho:∀x4,a.toList[Hm+X.length]?=S x4->lt x4 y=Up:=λx4 HK=>c.asym _ _ (vz (hY x4 (pj e HK)));have Ih:=pv e
         extract_lets -underBinder +onlyGivenNames vac HL
         clear_value vac
         have HS:∀(Um:Array JH) (HF:Nat),ML lt a.toList b.toList Um.toList HF Hi->(∀x4,a.toList[HF]?=S x4->lt x4 y=Up)->HF+1<a.size->i+2<=Um.size->wpS (JT prog w) A E s (HL () Um HF) QQ Ig:=by
          intro Um HF J3 HM JA ID;dsimp -zeta -zetaHave -zetaUnused only[HL];clear HL Ih Ho m4 hX hY;obtain⟨x4,HK,Ht,IE⟩:=aI (a:=a) (i:=HF) ∅
          refine JI (aG hy ?_);have m5:=J3.pushB c Ht HE (HM x4 Ht);rw[<-JV]at m5;have Hu:i+2<=(Um.push y).size:=by rw[OU];lia
          try dsimp -zeta -zetaHave -zetaUnused only
          extract_lets -underBinder +onlyGivenNames vo5 vi5
          dsimp -zeta -zetaHave -zetaUnused only[vo5];clear vo5;have e5:vi5=Hi+1:=rfl
          clear_value vi5
          subst e5
          revert m5 Hu
          generalize Um.push y=out5;intro m5 Hu;refine ah (λh=>?_) (λh=>?_)
          ·exact ae (O _ _ _ Hn (m5.finR (by have h:=Mn h;lia)))
          ·have h:Hi+1≠b.size:=by simpa using h
           refine JI (aG HK ?_);refine JI (hg Uo x4 b (b.toList.take (Hi+1)) (b.toList.drop (Hi+1)) [] _ _ _ _ _ IC (Ic _ IE) (by simp) (fY ∅) (by simp) (λx hx=>Id x (Nw hx)) ∅ ((I8.mp m5.pb).2.1) λX2 Y2 e2 HY HZ=>?_)
           dsimp -zeta -zetaHave -zetaUnused only;have m6:=m5.galB c e2 Ht λx hx=>c.asym _ _ (zv (HY x hx));have Hq:∀y6,b.toList[Hi+1+X2.length]?=S y6->lt y6 x4=Up:=λy6 IF=>vA (HZ y6 (pj e2 IF));have Ii:=pv e2
           extract_lets -underBinder +onlyGivenNames vbc HN
           clear_value vbc
           have HU:∀(Hj:Array JH) (Ij:Nat),ML lt a.toList b.toList Hj.toList HF Ij->(∀y6,b.toList[Ij]?=S y6->lt y6 x4=Up)->Ij<b.size->i+2<=Hj.size->wpS (JT prog w) A E s (HN () Hj Ij) QQ Ig:=by
            intro Hj Ij J9 HP IU Jk;dsimp -zeta -zetaHave -zetaUnused only[HN];clear HN Ii Hq m6 HY HZ m5 Hu ID h5 h1 h2 hsz J1 J0 h3;obtain⟨y6,IF,HV,Jl⟩:=aI (a:=b) (i:=Ij) IU;refine JI (aG HK ?_);have m7:=J9.pushA c Ht HV (HP y6 HV);rw[<-JV]at m7;dsimp only;refine ah (λh=>?_) (λh=>?_)
            ·exact ae (O _ _ _ Hn (m7.finL (HJ · · (HF+1) (Mn h))))
            ·have h:HF+1+1≠a.size:=by simpa using h
             have:=J2 Ig (Hj.push x4) (HF+1) Ij mg vac vbc Hn m7 ∅ IU (by rw[OU];lia)
             exact ah (λ_=>ae this.1) (λ_=>ae this.2)
           clear_value HN
           refine ah (λh0=>?_) (λh0=>?_)
           ·dsimp only;have m6:=m6.cut (a:=b) e2;refine ah (λh=>?_) (λh=>?_)
            ·exact ae (O _ _ _ Hn (m6.finR (by have h:=Mn h;lia)))
            ·have h:Hi+1+X2.length≠b.size:=by simpa using h
             exact HU _ _ m6 Hq ∅ (by rw[Nj];lia)
           ·have HQ:X2=[]:=Kl.mp ∅
            subst HQ;exact HU _ _ m5 Hq ∅ Hu
         clear_value HL
         refine ah (λh0=>?_) (λh0=>?_)
         ·dsimp only;have m4:=m4.cut (a:=a) e;refine ah (λh=>?_) (λh=>?_)
          ·exact ae (O _ _ _ Hn (m4.finL (HJ · · _ (Mn h))))
          ·have h:Hm+X.length+1≠a.size:=by simpa using h
           refine ah (λh=>?_) (λh9=>?_)
           ·exact ae (O _ _ _ Hn (m4.finS (by have h:=Mn h;lia)))
           ·have h9:Hm+X.length≠a.size:=by simpa using h9
            exact HS _ _ m4 Ho ∅ (by rw[Nj];lia)
         ·have HQ:X=[]:=Kl.mp ∅
          subst HQ;exact HS _ _ m3 Ho h1 h5
        clear_value jp
        exact ah (λ_=>IB _) (λ_=>IB _)
       ·rintro r Hh ⟨Hx,J,Hm,Hi,Hw,Iz,IA,rfl,m3,h1,h2,h5⟩;exact⟨Hx,.inl ⟨_,_,_,_,_,_,rfl,m3,h1,h2,h5⟩⟩
       ·rintro r Hh ⟨Hx,⟨J,Hm,Hi,Hw,Iz,IA,rfl,m3,h1,h2,h5⟩|⟨res,t,rfl,U⟩⟩
        ·dsimp -zeta -zetaHave -zetaUnused only;refine JI (Ny ?_);exact ae ⟨Hx.trans ⟨rfl,rfl,rfl,rfl⟩,_,_,_,_,rfl,m3,h1,h2,∅⟩
        ·exact ae ⟨Hx,_,_,rfl,U⟩
      ·exact ae ⟨sm,_,_,rfl,U⟩
    ·rintro r HD ⟨sm,out,ia,ib,mg,rfl,m,J0,J1,hsz⟩;have:=m.size (by simp;lia) (by simp;lia)
     simp at this;lia
    ·rintro r HD ⟨sm,res,t,rfl,U⟩;exact ae (q res HD U.1 U.2 sm)
 ·intro hg a b st Q hk Ic Id IP IQ sa sb Iu Iv q;refine JI (cS ?_);obtain⟨bL,IZ,Il,JB⟩:=aI (a:=b) (i:=b.size-1) ∅
  obtain⟨aL,IS,Ix,JC⟩:=aI (a:=a) (i:=a.size-1) ∅
  refine JI (aG IS ?_);have m0:MH lt a.toList b.toList [] a.size b.size:=⟨by rw[eV];simpa using sa,by rw[eV];simpa using sb,by rw[eV,eV];simp⟩
  have m1:MH lt a.toList b.toList [aL] (a.size-1) b.size:=m0.pushA c IP IQ Ix Il (Iv aL bL IS IZ);have HB:∀x∈b.toList.take 1,∀y∈a.toList,lt y x=Up:=by
   intro x hx y hy;obtain⟨b0,IR,Iw,_⟩:=aI IQ;obtain⟨a0,Iq,Ik,_⟩:=aI IP;have ex:x=b0:=by
    rw[cT ∅ Iw]at hx
    simpa using hx
   subst ex;have h:=Iu a0 x Iq IR;obtain⟨j,hj,e⟩:=Ls.mp hy;have Ie:a.toList[j]?=S y:=by rw[<-e];exact JF hj
   by_cases hj0:j=0
   ·subst hj0;rw[Ik]at Ie;cases Ie;exact h
   ·exact c.le_trans h (fK sa ∅ Ik Ie)
  try dsimp -zeta -zetaHave -zetaUnused only
  refine ah (λh=>?_) (λh=>?_)
  ·skip
   have h:a.size-1=0:=by simpa using h
   refine ae ?_;have r:=m1.fin (.inl h);exact q _ _ (by simpa only[JM,JV,Kj,Kd,bA]using r.1) (by simpa only[JM,JV,Kj,Kd,bA]using r.2) Same.refl
  ·skip
   refine ah (λh2=>?_) (λh2=>?_)
   ·skip
    have h2:b.size=1:=by simpa using h2
    refine ae ?_;have r:=m1.finB (by rw[h2];exact HB)
    exact q _ _ (by simpa only[JM,JV,Kj,Kd,bA]using r.1) (by simpa only[JM,JV,Kj,Kd,bA]using r.2) Same.refl
   ·skip
    have h:a.size-1≠0:=by simpa using h
    have h2:b.size≠1:=by simpa using h2
    refine JI (OF ?_)
    try dsimp -zeta -zetaHave -zetaUnused only
    refine JI (aJ (Q:=λr st'=>Same st st'/\∃res t,r=(S res,t)/\Res lt a.toList b.toList res.toList)
     (KJ (λi r st'=>Same st st'/\∃na nb out mg,r=(Z,na,nb,out,mg)/\MH lt a.toList b.toList out.toList na nb/\0<na/\1<nb/\na<a.size/\nb<=b.size/\i+1<=out.size) ?_ ?_ ⟨Same.refl,_,_,_,_,rfl,m1,∅,∅,∅,∅,by simp⟩) ?_)
    ·rintro i r HD _ hi ⟨sm,na,nb,out,mg,rfl,m,HX,Im,IG,II,hsz⟩
     try dsimp -zeta -zetaHave -zetaUnused only
     refine JI (aJ (Q:=λr st'=>st'=HD/\((∃Hr Hs F ac bc,r=(Z,Hr,Hs,F,ac,bc)/\MH lt a.toList b.toList F.toList Hr Hs/\0<Hr/\1<Hs/\Hr<a.size/\Hs<=b.size/\i+2<=F.size)∨∃res t,r=(S res,t)/\Res lt a.toList b.toList res.toList))
      (KJ (λj r st'=>st'=HD/\∃Hr Hs F ac bc,r=(Z,Hr,Hs,F,ac,bc)/\MH lt a.toList b.toList F.toList Hr Hs/\0<Hr/\1<Hs/\Hr<a.size/\Hs<=b.size/\i+1+j<=F.size) ?_ ?_ ⟨rfl,_,_,_,_,_,rfl,m,HX,Im,IG,II,∅⟩) ?_)
     ·rintro j r Hk _ hj ⟨rfl,Hr,Hs,F,ac,bc,rfl,m2,h1,h2,Hy,HA,h3⟩
      try dsimp only
      obtain⟨y,hy,HE,HI⟩:=aI (a:=b) (i:=Hs-1) ∅
      obtain⟨x,hx,Iy,Ip⟩:=aI (a:=a) (i:=Hr-1) ∅
      refine JI (aG hy (JI (aG hx (JI (jz c (sm.kind.trans hk) (Id _ HI) (Ic _ Ip) ?_)))))
      try dsimp only
      refine ah (λhl=>?_) (λhl=>?_)
      ·skip
       refine JI (aG hx ?_)
       try dsimp only
       have m3:=m2.pushA c h1 ∅ Iy HE (c.asym _ _ hl)
       refine ah (λh=>?_) (λh=>?_)
       ·skip
        have h:Hr-1=0:=by simpa using h
        exact ae ⟨rfl,.inr ⟨_,_,rfl,by have r:=m3.fin (.inl h);simpa only[JM,JV,Kj,Kd,bA]using r⟩⟩
       ·skip
        have h:Hr-1≠0:=by simpa using h
        refine ah (λ_=>?_) (λ_=>?_)
        ·exact ae ⟨rfl,.inl ⟨_,_,_,_,_,rfl,by simpa only[JM,JV,Kj,Kd,bA]using m3,∅,h2,∅,HA,by simp;lia⟩⟩
        ·exact ae ⟨rfl,_,_,_,_,_,rfl,by simpa only[JM,JV,Kj,Kd,bA]using m3,∅,h2,∅,HA,by simp;lia⟩
      ·skip
       refine JI (aG hy ?_)
       try dsimp only
       have m3:=m2.pushB c h1 ∅ Iy HE (by simpa using hl)
       refine ah (λh=>?_) (λh=>?_)
       ·skip
        have h:Hs-1=1:=by simpa using h
        exact ae ⟨rfl,.inr ⟨_,_,rfl,by have r:=m3.finB (by rw[h];exact HB);simpa only[JM,JV,Kj,Kd,bA]using r⟩⟩
       ·skip
        have h:Hs-1≠1:=by simpa using h
        refine ah (λ_=>?_) (λ_=>?_)
        ·exact ae ⟨rfl,.inl ⟨_,_,_,_,_,rfl,by simpa only[JM,JV,Kj,Kd,bA]using m3,h1,∅,Hy,∅,by simp;lia⟩⟩
        ·exact ae ⟨rfl,_,_,_,_,_,rfl,by simpa only[JM,JV,Kj,Kd,bA]using m3,h1,∅,Hy,∅,by simp;lia⟩
     ·rintro r Hk ⟨rfl,Hr,Hs,F,ac,bc,rfl,m2,h1,h2,Hy,HA,h3⟩;exact⟨rfl,.inl ⟨_,_,_,_,_,rfl,m2,h1,h2,Hy,HA,∅⟩⟩
     ·rintro r Hk ⟨rfl,⟨Hr,Hs,F,ac,bc,rfl,m2,h1,h2,Hy,HA,h3⟩|⟨res,t,rfl,U⟩⟩
      ·try dsimp -zeta -zetaHave -zetaUnused only
       refine JI (cS ?_);refine JI (aJ (Q:=λr st'=>Same st st'/\((∃Hl Hf J Hw ac bc,r=(Z,Hl,Hf,J,Hw,ac,bc)/\MH lt a.toList b.toList J.toList Hl Hf/\0<Hl/\1<Hf/\Hl<a.size/\Hf<=b.size/\i+2<=J.size)∨∃res t,r=(S res,t)/\Res lt a.toList b.toList res.toList))
        (KJ (λj r st'=>Same st st'/\∃Hl Hf J Hw ac bc,r=(Z,Hl,Hf,J,Hw,ac,bc)/\MH lt a.toList b.toList J.toList Hl Hf/\0<Hl/\1<Hf/\Hl<a.size/\Hf<=b.size/\i+2<=J.size) ?_ ?_ ⟨sm,_,_,_,_,_,_,rfl,m2,h1,h2,Hy,HA,h3⟩) ?_)
       ·rintro j r Hh _ hj ⟨Hx,Hl,Hf,J,Hw,Iz,IA,rfl,m3,h1,h2,Hy,HA,h5⟩;obtain⟨y,hy,HE,HI⟩:=aI (a:=b) (i:=Hf-1) ∅
        refine zt λQQ hQ=>?_;have O:∀(st':KI) (res:Array JH) t,Same st st'->Res lt a.toList b.toList res.toList->QQ (.done (S res,t)) st':=λst' res t hs hr=>hQ _ _ ⟨hs,.inr ⟨_,_,rfl,hr⟩⟩;have J2:∀(st':KI) (out:Array JH) na nb mg ac bc,Same st st'->MH lt a.toList b.toList out.toList na nb->0<na->1<nb->na<a.size->nb<=b.size->i+2<=out.size->QQ (.done (Z,na,nb,out,mg,ac,bc)) st'/\QQ (.yield (Z,na,nb,out,mg,ac,bc)) st':=λst' out ia ib mg ac bc hs p1 p2 p3 p4 p5 p6=>⟨hQ _ _ ⟨hs,.inl ⟨_,_,_,_,_,_,rfl,p1,p2,p3,p4,p5,p6⟩⟩,hQ _ _ ⟨hs,_,_,_,_,_,_,rfl,p1,p2,p3,p4,p5,p6⟩⟩;clear hQ hj
        extract_lets -underBinder s0 vna s1 vnb s2 vout s3 vmg s4 vac vbc jp vmx
        have IB:∀mg,wpS (JT prog w) A E s (jp () mg) QQ Hh:=by
         intro mg;dsimp -zeta -zetaHave -zetaUnused only[jp,s0,vna,s1,vnb,s2,vout,s3,vmg,s4,vac,vbc];clear vmx jp vbc vac s4 vmg s3 vout s2 vnb s1 vna s0;refine JI (Ny ?_);refine vy (P:=Same st) (Hx.trans ⟨rfl,rfl,rfl,rfl⟩) λIg Hn=>?_;have IC:=Hn.kind.trans hk;refine JI (aG hy ?_);refine JI (hg Up y a [] (a.toList.take Hl) (a.toList.drop Hl) _ _ _ _ _ IC (Id _ HI) (by simp) rfl (fY ∅) (λx hx=>Ic x (Nx hx)) ∅ ((I8.mp m3.pa).1) λX Y e hX hY=>?_)
         dsimp -zeta -zetaHave -zetaUnused only;have m4:=m3.galA c e ∅ HE λx hx=>c.asym _ _ (vz (hY x hx))
         have Ho:0<X.length->∀x4,a.toList[X.length-1]?=S x4->lt y x4=Up:=λh0 x4 HK=>zu (hX x4 (pq e h0 HK));have Ih:=lM e ∅
         extract_lets -underBinder +onlyGivenNames vk vac HL
         clear_value vac
         have HS:∀(HG:Nat) (Um:Array JH),MH lt a.toList b.toList Um.toList HG Hf->(∀x4,a.toList[HG-1]?=S x4->lt y x4=Up)->0<HG->HG<a.size->i+2<=Um.size->wpS (JT prog w) A E s (HL () HG Um) QQ Ig:=by
          intro HG Um J3 HM IJ Jx ID;dsimp -zeta -zetaHave -zetaUnused only[HL];clear HL vk Ih Ho m4 hX hY;obtain⟨x4,HK,Ht,IE⟩:=aI (a:=a) (i:=HG-1) ∅
          refine JI (aG hy ?_);have m5:=J3.pushB c IJ ∅ Ht HE (HM x4 Ht)
          rw[<-JV]at m5;have Hu:i+2<=(Um.push y).size:=by rw[OU];lia
          try dsimp -zeta -zetaHave -zetaUnused only
          extract_lets -underBinder +onlyGivenNames vo5
          dsimp -zeta -zetaHave -zetaUnused only[vo5];clear vo5
          revert m5 Hu
          generalize Um.push y=out5;intro m5 Hu;refine ah (λh=>?_) (λh=>?_)
          ·exact ae (O _ _ _ Hn (m5.finR (by rw[Mn h];exact HB)))
          ·have h:Hf-1≠1:=by simpa using h
           refine JI (aG HK ?_);refine JI (hg Uo x4 b [] (b.toList.take (Hf-1)) (b.toList.drop (Hf-1)) _ _ _ _ _ IC (Ic _ IE) (by simp) rfl (fY ∅) (λx hx=>Id x (Nx hx)) ∅ ((I8.mp m5.pb).1) λX2 Y2 e2 HY HZ=>?_)
           dsimp -zeta -zetaHave -zetaUnused only;have m6:=m5.galB c e2 IJ Ht λx hx=>vA (HZ x hx);have Hq:0<X2.length->∀y6,b.toList[X2.length-1]?=S y6->lt x4 y6=Up:=λh0 y6 IF=>c.asym _ _ (zv (HY y6 (pq e2 h0 IF)));have Ii:=lM e2 ∅
           extract_lets -underBinder +onlyGivenNames vk vbc HN
           clear_value vbc
           have HU:∀(HW:Nat) (Hj:Array JH),MH lt a.toList b.toList Hj.toList HG HW->(∀y6,b.toList[HW-1]?=S y6->lt x4 y6=Up)->1<HW->HW<=b.size->i+2<=Hj.size->wpS (JT prog w) A E s (HN () HW Hj) QQ Ig:=by
            intro HW Hj J9 HP Jm Ja Jk;dsimp -zeta -zetaHave -zetaUnused only[HN];clear HN vk Ii Hq m6 HY HZ m5 Hu ID h5 h1 h2 Hy HA hsz HX Im IG II h3;obtain⟨y6,IF,HV,Jl⟩:=aI (a:=b) (i:=HW-1) ∅
            refine JI (aG HK ?_);have m7:=J9.pushA c IJ ∅ Ht HV (HP y6 HV)
            rw[<-JV]at m7;dsimp only;refine ah (λh=>?_) (λh=>?_)
            ·exact ae (O _ _ _ Hn (m7.finL (.inl (Mn h))))
            ·have h:HG-1≠0:=by simpa using h
             have:=λmg ac bc=>J2 Ig (Hj.push x4) (HG-1) HW mg ac bc Hn m7 ∅ Jm ∅ Ja (by rw[OU];lia)
             exact ah (λ_=>ae (this _ _ _).1) (λ_=>ae (this _ _ _).2)
           clear_value HN
           refine ah (λh0=>?_) (λh0=>?_)
           ·dsimp only;have m6:=m6.cut (a:=b) e2;refine ah (λh=>?_) (λh=>?_)
            ·exact ae (O _ _ _ Hn (m6.finR (by rw[Mn h];exact HB)))
            ·have h:X2.length≠1:=by simpa using h
             refine ah (λh9=>?_) (λh9=>?_)
             ·exact ae (O _ _ _ Hn (m6.finL (.inr (Mn h9))))
             ·have h9:X2.length≠0:=by simpa using h9
              exact HU _ _ m6 (Hq ∅) ∅ ∅ (by rw[Nj];lia)
           ·have h0:¬(Hf-1-X2.length > 0):=h0;have hl:X2.length=Hf-1:=by lia
            have Ir:0<X2.length:=∅
            have hr:=Hq Ir;rw[hl]at hr;exact HU _ _ m5 hr ∅ ∅ Hu
         clear_value HL
         refine ah (λh0=>?_) (λh0=>?_)
         ·dsimp only;have m4:=m4.cut (a:=a) e;refine ah (λh=>?_) (λh=>?_)
          ·exact ae (O _ _ _ Hn (m4.finL (.inl (Mn h))))
          ·have h:X.length≠0:=by simpa using h
           exact HS _ _ m4 (Ho ∅) ∅ ∅ (by rw[Nj];lia)
         ·have h0:¬(Hl-X.length > 0):=h0;have hl:X.length=Hl:=by lia
          have hr:=Ho ∅
          rw[hl]at hr;exact HS _ _ m3 hr h1 Hy h5
        clear_value jp
        exact ah (λ_=>IB _) (λ_=>IB _)
       ·rintro r Hh ⟨Hx,Hl,Hf,J,Hw,Iz,IA,rfl,m3,h1,h2,Hy,HA,h5⟩;exact⟨Hx,.inl ⟨_,_,_,_,_,_,rfl,m3,h1,h2,Hy,HA,h5⟩⟩
       ·rintro r Hh ⟨Hx,⟨Hl,Hf,J,Hw,Iz,IA,rfl,m3,h1,h2,Hy,HA,h5⟩|⟨res,t,rfl,U⟩⟩
        ·try dsimp -zeta -zetaHave -zetaUnused only
         refine JI (Ny ?_);exact ae ⟨Hx.trans ⟨rfl,rfl,rfl,rfl⟩,_,_,_,_,rfl,m3,h1,h2,Hy,HA,∅⟩
        ·exact ae ⟨Hx,_,_,rfl,U⟩
      ·exact ae ⟨sm,_,_,rfl,U⟩
    ·rintro r HD ⟨sm,na,nb,out,mg,rfl,m,HX,Im,IG,II,hsz⟩;have:=m.size (by simp;lia) (by simp;lia)
     simp at this;lia
    ·rintro r HD ⟨sm,res,t,rfl,U⟩;exact ae (q res HD U.1 U.2 sm)
end
end Srt
namespace Srt
variable{st:KI}{L R xs:List JH}{i j n:Nat}{x:JH}
section
variable{prog:JR}{w:K8}{A:K2}{E:h6->i4->Prop}{s:i4}{kd:NQ}{P:JH->Prop}{lt:JH->JH->Bool}
structure Kp(st st':KI):Prop where
 kind:Lk st'=Lk st
 pend:La st'=La st
 fail:LO st'=LO st
theorem Kp.refl:Kp st st:=⟨rfl,rfl,rfl⟩
theorem Kp.trans{a b c:KI}(h:Kp a b)(g:Kp b c):Kp a c:=⟨g.kind.trans h.kind,g.pend.trans h.pend,g.fail.trans h.fail⟩
theorem qO{a:Array JH}{B:List JH}(e:a.toList=L++(B++R))(hi:i=L.length)(z:j=L.length+B.length):(mirror a i j ((j-i) / 2)).toList=L++(B.reverse++R):=by
 have hs:a.size=L.length+(B.length+R.length):=by rw[<-Kn,e];simp
 apply Of;intro k;rw[K9,getElem?_mirror_all ∅]
 have g:∀n:Nat,a[n]?=(L++(B++R))[n]?:=λn=>by rw[<-K9,e]
 rw[g,g]
 by_cases h1:k<L.length
 ·rw[if_neg ∅,JP h1,JP h1]
 ·by_cases h2:k<j
  ·rw[if_pos ∅,D1 ∅,JP ∅,D1 ∅,JP (by simp;lia),List.getElem?_reverse ∅]
   congr 1;lia
  ·rw[if_neg ∅,D1 ∅,D1 ∅,D1 ∅,D1 (by simp;lia)]
   simp
theorem qP{a:Array JH}{j z:List JH}(e:a.toList=L++((j++z)++x::R)){src d:Nat}(hi:src=L.length+(j.length+z.length))(hd:d=z.length):(bubble a src d).toList=L++((j++x::z)++R):=by
 have hs:a.size=L.length+(j.length+z.length+(R.length+1)):=by rw[<-Kn,e];simp;lia
 apply Of;intro k;rw[K9,getElem?_bubble ∅ d ∅]
 have g:∀n:Nat,a[n]?=(L++((j++z)++x::R))[n]?:=λn=>by rw[<-K9,e]
 rw[g,g,g]
 by_cases h1:k<L.length
 ·rw[if_neg ∅,if_neg ∅,JP h1,JP h1]
 ·by_cases h2:k<L.length+j.length
  ·rw[if_neg ∅,if_neg ∅,D1 ∅,JP (by simp;lia),JP ∅,D1 ∅,JP (by simp;lia),JP ∅]
  ·by_cases h3:k=L.length+j.length
   ·rw[if_pos ∅,D1 ∅,D1 (by simp;lia),D1 ∅,JP (by simp;lia),D1 ∅]
    have J:src-L.length-(j++z).length=0:=by simp;lia
    have F:k-L.length-j.length=0:=∅
    rw[J,F];rfl
   ·by_cases h4:k<=src
    ·rw[if_neg ∅,if_pos ∅,D1 ∅,JP (by simp;lia),D1 ∅,D1 ∅,JP (by simp;lia),D1 ∅]
     have F:k-L.length-j.length=(k-1-L.length-j.length)+1:=∅
     rw[F,MK]
    ·rw[if_neg ∅,if_neg ∅,D1 ∅,D1 (by simp;lia),D1 ∅,D1 (by simp;lia)]
     have F:k-L.length-(j++z).length=(k-L.length-(j++x::z).length)+1:=by simp;lia
     rw[F,MK]
theorem dS(c:Cm prog w A s kd P lt){y:JH}{Q:Option Bool->KI->Prop}(hk:Lk st=kd)(hx:(Ke st)[i]?=S x)(z:(Ke st)[j]?=S y)(px:P x)(py:P y)(q:Q (S (lt x y)) st):wpS (JT prog w) A E s (ltAt' i j) Q st:=by rw[ltAt'_eq];exact JI (OF (JI (aG hx (JI (aG z (jz c hk px py q))))))
theorem jA{Q:Unit->KI->Prop}{B:List JH}(e:(Ke st).toList=L++(B++R))(hi:i=L.length)(z:j=L.length+B.length)(q:∀st',(Ke st').toList=L++(B.reverse++R)->Kp st st'->Q () st'):wpS (JT prog w) A E s (reverseSlice' i j) Q st:=by rw[reverseSlice'_eq];exact Ny (q _ (qO e hi z) ⟨rfl,rfl,rfl⟩)
theorem ck(e:(Ke st).toList=L++xs)(hi:i=L.length+n):(Ke st)[i]?=xs[n]?:=by
 rw[<-K9,e,hi,D1 ∅]
 congr 1;lia
theorem pw(c:Cm prog w A s kd P lt){y:JH}(h:Ord lt (xs.take n))(hn:0<n)(hx:xs[n]?=S x)(F:xs[n-1]?=S y)(J:lt x y=Up):Ord lt (xs.take (n+1)):=by
 rw[Sb,hx];refine I8.mpr ⟨h,by simp,λz L u j=>?_⟩
 simp at j;subst j;exact ii c h hn F J z L
noncomputable abbrev dj(lt:JH->JH->Bool)(l:List JH):Prop:=l.Pairwise λx y=>lt x y=Up
theorem iP(c:Cm prog w A s kd P lt){D:List JH}{e:JH}(h:dj lt (D++[e]))(hx:lt e x=Up):dj lt (D++[e]++[x]):=by
 refine I8.mpr ⟨h,by simp,λz F u j=>?_⟩
 simp at j;subst j;obtain⟨_,_,J⟩:=I8.mp h
 rcases K0.mp F with g|g
 ·cases q:lt z u with
  |false=>rfl
  | true=>rcases c.neg z e u q with r|r
          ·rw[J z g e (by simp)]at r;cases r
          ·rw[hx]at r;cases r
 ·simp at g;subst g;exact hx
theorem rJ{z F:List JH}(h:dj lt (z++F))(he:∀x∈F,∀y∈F,lt x y=Up):dj lt (z++F.reverse):=by obtain⟨h1,h2,J⟩:=I8.mp h;refine I8.mpr ⟨h1,?_,λx hx y j=>J x hx y (NF.mp j)⟩;rw[QG];exact h2.imp_of_mem λhx j _=>he _ j _ hx
theorem perm_take:(xs.take n++xs.drop n).Perm xs:=by rw[Li]
theorem qQ(c:Cm prog w A s kd P lt){Q:Option Nat->KI->Prop}(hk:Lk st=kd)(U:(Ke st).toList=L++xs)(h0:xs≠[])(hP:∀x∈xs,P x)(q:∀r R st',(Ke st').toList=L++(r++R)->(r++R).Perm xs->r≠[]->Ord lt r->Kp st st'->Q (S r.length) st'):wpS (JT prog w) A E s (countRun' L.length xs.length) Q st:=by
 have HE:0<xs.length:=MD.mpr h0;rw[countRun'_eq]
 try dsimp -zeta -zetaHave -zetaUnused only
 refine JI (aJ (Q:=λr st'=>st'=st/\∃n,r=(Z,n)/\1<=n/\n<=xs.length/\Ord lt (xs.take n)/\(n=xs.length∨∃x y,xs[n]?=S x/\xs[n-1]?=S y/\lt x y=Uo))
  (KJ (fun i r st'=>st'=st/\r=(Z,i)/\Ord lt (xs.take i)) ?_ ?_ ⟨rfl,rfl,by
   cases xs with
   |nil=>exact absurd rfl h0
   |cons x t=>simp⟩) ?_)
 ·rintro i r st' h1 hi ⟨rfl,rfl,ho⟩;dsimp only;obtain⟨x,hx⟩:∃x,xs[i]?=S x:=⟨_,JF hi⟩;obtain⟨y,hy⟩:∃y,xs[i-1]?=S y:=⟨_,JF ∅⟩
  refine JI (dS c hk ((ck U rfl).trans hx) ((ck U ∅).trans hy) (hP _ (Kg hx)) (hP _ (Kg hy)) ?_)
  dsimp only;refine ah (λh=>?_) (λh=>?_)
  ·exact ae ⟨rfl,i,rfl,h1,∅,ho,.inr ⟨x,y,hx,hy,h⟩⟩
  ·exact ae ⟨rfl,rfl,pw c ho ∅ hx hy (by simpa using h)⟩
 ·rintro r st' ⟨rfl,rfl,ho⟩;exact⟨rfl,_,rfl,∅,∅,ho,.inl ∅⟩
 ·rintro r st' ⟨rfl,n,rfl,Ic,HF,ho,hc⟩;dsimp -zeta -zetaHave -zetaUnused only;have Hs:Q (S n) st':=by
   have:=q (xs.take n) (xs.drop n) st' (by rw[U,Li]) perm_take (λz=>by have h3:=congrArg MQ z;rw[Kf,Ln]at h3;lia) ho Kp.refl
   rw[Kf,NU HF]at this;exact this
  extract_lets -underBinder +onlyGivenNames vr vn
  dsimp -zeta -zetaHave -zetaUnused only[vr];clear vr;have en:n=vn:=rfl
  clear_value vn
  subst en;refine ah (λh=>ae Hs) (λh=>?_);have HR:n≠xs.length:=by simpa using h
  obtain⟨x,y,hx,hy,HS⟩:=hc.resolve_left HR;have Id:n<xs.length:=∅
  have exs:xs=xs.take n++x::xs.drop (n+1):=by have h1:=(Li n xs).symm;rw[eC hx]at h1;exact h1
  have HG:y∈xs.take n:=by rw[cT ∅ hy];simp
  extract_lets -underBinder +onlyGivenNames jp
  have HH:∀(B:List JH) (Hh:KI),(Ke Hh).toList=L++(B++x::xs.drop (n+1))->B.Perm (xs.take n)->B.length=n->(∀u∈B,∀v∈B,lt u v=Up)->y∈B->Kp st' Hh->wpS (JT prog w) A E s (jp ()) Q Hh:=by
   intro B Hh e1 hB Hi Hj Hk Hl;dsimp -zeta -zetaHave -zetaUnused only[jp];clear jp;refine JI (cS ?_)
   try dsimp -zeta -zetaHave -zetaUnused only
   extract_lets -underBinder +onlyGivenNames vn1 vq1
   have HU:vn1=n+1:=rfl;have eq1:vq1=0:=rfl
   clear_value vn1 vq1
   subst HU eq1;refine JI (aJ (Q:=λr Y=>∃J F R neq,Kp st' Y/\(Ke Y).toList=L++((J++F)++R)/\((J++F)++R).Perm xs/\r=(Z,(J++F).length,neq)/\F.length=neq+1/\dj lt (J++F)/\(∀u∈F,∀v∈F,lt u v=Up))
    (KJ (λi r Y=>∃J F R neq,Kp st' Y/\(Ke Y).toList=L++((J++F)++R)/\((J++F)++R).Perm xs/\r=(Z,(J++F).length,neq)/\F.length=neq+1/\dj lt (J++F)/\(∀u∈F,∀v∈F,lt u v=Up)/\(J++F).length=i) ?_ ?_ ?_) ?_)
   ·rintro i r Y Ie hi ⟨J,F,R,neq,kp,ea,hp,rfl,hF,hN,hE,HI⟩;subst HI;have hlen:=hp.length_eq;rw[JG]at hlen;obtain⟨z,R',rfl⟩:∃z R',R=z::R':=by
     cases R with
     |nil=>simp at hlen;simp at hi;lia
     |cons z R'=>exact⟨z,R',rfl⟩
    have HV:F≠[]:=λz=>by rw[z]at hF;simp at hF
    obtain⟨F0,e,rfl⟩:∃F0 e,F=F0++[e]:=⟨F.dropLast,F.getLast HV,(OT _).symm⟩;have hz:(Ke Y)[L.length+(J++(F0++[e])).length]?=S z:=by rw[ck ea rfl,D1 ∅,Sd];rfl
    have he:(Ke Y)[L.length+(J++(F0++[e])).length-1]?=S e:=by rw[ck ea (n:=(J++F0).length) (by simp<;>lia),JP (by simp<;>lia),<-JQ,D1 ∅,Sd];rfl
    have HJ:P z:=hP z (hp.mem_iff.mp (by simp))
    have HK:P e:=hP e (hp.mem_iff.mp (by simp))
    dsimp only;refine JI (dS c (kp.kind.trans hk) hz he HJ HK ?_);dsimp only;have Hw:dj lt (J++F0++[e]):=by rw[JQ];exact hN
    refine ah (λHx=>?_) (λHx=>?_)
    ·have Hm:lt e z=Up:=c.asym _ _ Hx;refine ah (λHn=>?_) (λHn=>?_)
     ·refine JI (jA (L:=L++J) (B:=F0++[e]) (R:=z::R') (by rw[ea];simp) (by simp only[JG]at hF⊢;simp only[Nc]at hF⊢;lia) (by simp<;>lia) λHf e3 Um=>?_)
      refine ae ⟨J++(F0++[e]).reverse,[z],R',0,kp.trans Um,by rw[e3];simp,?_,by simp<;>lia,rfl,?_,?_,by simp<;>lia⟩
      ·refine O4.trans ?_ hp;rw[JQ,JQ,JQ];exact L5 _ (KW _ (Og _))
      ·have h1:=rJ hN hE;refine I8.mpr ⟨h1,by simp,λu j v O=>?_⟩
       simp at O;subst O;have hm:=iP c Hw Hm;refine(I8.mp hm).2.2 u ?_ v (by simp)
       rw[JQ]
       rcases K0.mp j with g|g
       ·exact Lp _ g
       ·exact K1 _ (NF.mp g)
      ·intro u j v O;simp at j O;subst j O;exact c.irr
     ·refine ae ⟨J++(F0++[e]),[z],R',0,kp,by rw[ea];simp,by simpa using hp,by simp<;>lia,rfl,?_,?_,by simp<;>lia⟩
      ·have hm:=iP c Hw Hm;simpa using hm
      ·intro u j v O;simp at j O;subst j O;exact c.irr
    ·have HW:lt z e=Up:=by simpa using Hx
     refine JI (dS c (kp.kind.trans hk) he hz HK HJ ?_);dsimp only;refine ah (λHL=>?_) (λHL=>?_)
     ·exact ae ⟨J,F0++[e],z::R',neq,kp,ea,hp,rfl,hF,hN,hE⟩
     ·have Hm:lt e z=Up:=by simpa using HL
      refine ae ⟨J,(F0++[e])++[z],R',neq+1,kp,by rw[ea];simp,by simpa using hp,by simp<;>lia,by simp at hF⊢;lia,?_,?_,by simp<;>lia⟩
      ·have hm:=iP c Hw Hm;simpa using hm
      ·have HX:∀u∈F0++[e],lt u z=Up:=fun u j=>by
        cases q1:lt u z with
        |false=>rfl
        | true=>rcases c.neg u e z q1 with r|r
                ·rw[hE u j e (by simp)]at r;cases r
                ·rw[Hm]at r;cases r
       have HY:∀u∈F0++[e],lt z u=Up:=λu j=>by
        cases q1:lt z u with
        |false=>rfl
        | true=>rcases c.neg z e u q1 with r|r
                ·rw[HW]at r;cases r
                ·rw[hE e (by simp) u j]at r;cases r
       intro u j v O
       rcases K0.mp j with g|g<;>rcases K0.mp O with g2|g2
       ·exact hE u g v g2
       ·simp at g2;subst g2;exact HX u g
       ·simp at g;subst g;exact HY v g2
       ·simp at g g2;subst g g2;exact c.irr
   ·rintro r Y ⟨J,F,R,neq,kp,ea,hp,hr,hF,hN,hE,HI⟩;exact⟨J,F,R,neq,kp,ea,hp,hr,hF,hN,hE⟩
   ·refine⟨B,[x],xs.drop (n+1),0,Hl,by rw[e1];simp,?_,by simp[Hi],rfl,?_,?_,by simp[Hi]⟩
    ·have h9:(B++x::xs.drop (n+1)).Perm xs:=by
      have h9:=KW (x::xs.drop (n+1)) hB;rw[<-exs]at h9;exact h9
     simpa using h9
    ·refine I8.mpr ⟨List.Pairwise.imp_of_mem (λj O _=>Hj _ j _ O) (List.pairwise_of_forall_mem_list (r:=λ_ _=>True) λ_ _ _ _=>trivial),by simp,λu j v O=>?_⟩
     simp at O;subst O
     cases q1:lt u v with
     |false=>rfl
     | true=>rcases c.neg u y v q1 with r|r
             ·rw[Hj u j y Hk]at r;cases r
             ·rw[c.asym _ _ HS]at r;cases r
    ·intro u j v O;simp at j O;subst j O;exact c.irr
   ·rintro r Y ⟨J,F,R,neq,kp,ea,hp,rfl,hF,hN,hE⟩;dsimp -zeta -zetaHave -zetaUnused only
    extract_lets -underBinder +onlyGivenNames vr vs vn2 vq2
    dsimp -zeta -zetaHave -zetaUnused only[vr];have HZ:vn2=(J++F).length:=rfl;have eq2:neq=vq2:=rfl
    clear_value vn2 vq2
    clear vs vr;subst HZ eq2
    extract_lets -underBinder +onlyGivenNames Ho
    have Ht:∀(D:List JH) (Hf:KI),(Ke Hf).toList=L++(D++R)->dj lt D->(D++R).Perm xs->D.length=(J++F).length->0<D.length->Kp st' Hf->wpS (JT prog w) A E s (Ho ()) Q Hf:=by
     intro D Hf e3 Hy Hz Hq Hu Um;dsimp -zeta -zetaHave -zetaUnused only[Ho];clear Ho;have I0:0<D.length:=∅
     refine JI (jA (L:=L) (B:=D) (R:=R) e3 rfl (by rw[Hq]) λHM e4 HN=>?_)
     have o4:Ord lt D.reverse:=QG.mpr Hy;have Hr:(D.reverse++R).Perm xs:=(KW _ (Og D)).trans Hz;have HP:(D.reverse++R).length=xs.length:=Hr.length_eq;have HA:Ord lt ((D.reverse++R).take D.length):=by rw[List.take_append_of_le_length (by simp),MZ (by simp)];exact o4
     have HB:∀u∈D.reverse++R,P u:=λu j=>hP u (Hr.mem_iff.mp j);have Ia:D.length<=xs.length:=by rw[<-HP];simp
     rw[<-Hq];generalize D.length=N0 at HA I0 Ia;generalize D.reverse++R=ys at e4 Hr HP HA HB;refine JI (aJ (Q:=λr Hg=>Hg=HM/\∃n,r=(Z,n)/\1<=n/\n<=xs.length/\Ord lt (ys.take n))
      (KJ (λi r Hg=>Hg=HM/\r=(Z,i)/\Ord lt (ys.take i)) ?_ ?_ ⟨rfl,rfl,HA⟩) ?_)
     ·rintro i r Hg h1 hi ⟨rfl,rfl,ho⟩;dsimp only;obtain⟨u,j⟩:∃u,ys[i]?=S u:=⟨_,JF ∅⟩
      obtain⟨v,O⟩:∃v,ys[i-1]?=S v:=⟨_,JF ∅⟩
      refine JI (dS c ((Um.trans HN).kind.trans hk) ((ck e4 rfl).trans j) ((ck e4 ∅).trans O) (HB _ (Kg j)) (HB _ (Kg O)) ?_)
      dsimp only;refine ah (λh=>?_) (λh=>?_)
      ·exact ae ⟨rfl,i,rfl,∅,∅,ho⟩
      ·exact ae ⟨rfl,rfl,pw c ho ∅ j O (by simpa using h)⟩
     ·rintro r Hg ⟨rfl,rfl,ho⟩;exact⟨rfl,_,rfl,∅,∅,ho⟩
     ·rintro r Hg ⟨rfl,m,rfl,Ig,Ih,ho⟩;refine ae ?_;have:=q (ys.take m) (ys.drop m) Hg (by rw[e4,Li]) (perm_take.trans Hr) (fun z=>by
       have h3:=congrArg MQ z;rw[Kf,Ln]at h3;lia) ho (Um.trans HN)
      rw[Kf,NU ∅]at this
      exact this
    clear_value Ho
    refine ah (λHn=>?_) (λHn=>?_)
    ·refine JI (jA (L:=L++J) (B:=F) (R:=R) (by rw[ea];simp) (by simp<;>lia) (by simp<;>lia) λHf e3 Um=>?_)
     have Um:=kp.trans Um;have e3:(Ke Hf).toList=L++((J++F.reverse)++R):=by rw[e3];simp
     have Hy:=rJ hN hE;have Hz:((J++F.reverse)++R).Perm xs:=(KW _ (L5 _ (Og _))).trans hp;have Hq:(J++F.reverse).length=(J++F).length:=by simp
     have Hu:0<(J++F.reverse).length:=by simp<;>lia
     exact Ht _ _ e3 Hy Hz Hq Hu Um
    ·exact Ht _ _ ea hN hp rfl (by simp<;>lia) kp
  clear_value jp
  refine ah (λh1=>?_) (λh1=>?_)
  ·obtain⟨x0,HC⟩:∃x0,xs[0]?=S x0:=⟨_,JF HE⟩;refine JI (dS c hk ((ck U (n:=0) ∅).trans HC) ((ck U ∅).trans hy) (hP _ (Kg HC)) (hP _ (Kg hy)) ?_)
   dsimp only;refine ah (λhr=>ae Hs) (λhr=>?_);have hr:lt x0 y=Up:=by simpa using hr
   have HQ:∀u∈xs.take n,lt u x0=Up:=λu j=>by
    obtain⟨i,hi,eu⟩:=Ls.mp j;have HD:(xs.take n)[i]?=S u:=by rw[<-eu];exact JF hi
    have Hv:(xs.take n)[0]?=S x0:=by rw[NM ∅];exact HC
    by_cases hi0:i=0
    ·subst hi0;rw[Hv]at HD;cases HD;exact c.irr
    ·exact fK ho ∅ Hv HD
   have Ib:∀u∈xs.take n,lt y u=Up:=ii c ho ∅ hy c.irr
   have heq:∀u∈xs.take n,∀v∈xs.take n,lt u v=Up:=λu j v O=>by exact c.le_trans (c.le_trans (Ib v O) hr) (HQ u j)
   refine JI (jA (L:=L) (B:=xs.take n) (R:=x::xs.drop (n+1)) (by rw[U];exact congrArg (L ++ ·) exs) rfl (by rw[Kf,NU HF]) λHh e1 Hl=>?_)
   have hB:(xs.take n).reverse.Perm (xs.take n):=Og _;have Hi:(xs.take n).reverse.length=n:=by rw[Rb,Kf];lia
   have Hj:∀u∈(xs.take n).reverse,∀v∈(xs.take n).reverse,lt u v=Up:=λu j v O=>heq u (NF.mp j) v (NF.mp O);have Hk:y∈(xs.take n).reverse:=NF.mpr HG;exact HH _ _ e1 hB Hi Hj Hk Hl
  ·have Hh:=st';have hn:n=1:=by lia
   have Hl:Kp st' st':=Kp.refl;have e1:(Ke st').toList=L++(xs.take n++x::xs.drop (n+1)):=by rw[U];exact congrArg (L ++ ·) exs
   have hB:(xs.take n).Perm (xs.take n):=Ph _;have Hi:(xs.take n).length=n:=by rw[Kf];lia
   have Hk:=HG;have Hj:∀u∈xs.take n,∀v∈xs.take n,lt u v=Up:=λu j v O=>by
    have e0:xs.take n=[y]:=by subst hn;rw[cT ∅ hy];rfl
    rw[e0]at j O;simp at j O;subst j O;exact c.irr
   exact HH _ _ e1 hB Hi Hj Hk Hl
end
end Srt
namespace Srt
section
variable{prog:JR}{w:K8}{A:K2}{E:h6->i4->Prop}{s:i4}{kd:NQ}{P:JH->Prop}{lt:JH->JH->Bool}
theorem vB(c:Cm prog w A s kd P lt){L r R:List JH}{n:Nat}{st:KI}{Q:Bool->KI->Prop}(hk:Lk st=kd)(Hg:(Ke st).toList=L++(r++R))(h0:r≠[])(ho:Ord lt r)(hn:r.length<=n)(Hh:n<=(r++R).length)(hP:∀x∈r++R,P x)(q:∀r' R' st',(Ke st').toList=L++(r'++R')->(r'++R').Perm (r++R)->r'.length=n->Ord lt r'->Kp st st'->Q Uo st'):wpS (JT prog w) A E s (binarySort' L.length n r.length) Q st:=by
 have Hn:0<r.length:=MD.mpr h0;rw[binarySort'_eq];refine JI (aJ (Q:=λx st'=>x=(Z,())/\∃D T,Kp st st'/\(Ke st').toList=L++(D++T)/\(D++T).Perm (r++R)/\D.length=n/\Ord lt D)
  (KJ (λi x st'=>x=(Z,())/\∃D T,Kp st st'/\(Ke st').toList=L++(D++T)/\(D++T).Perm (r++R)/\D.length=i/\Ord lt D) ?_ ?_ ⟨rfl,r,R,Kp.refl,Hg,Ph _,∅,ho⟩) ?_)
 ·rintro k x F Ho Hq ⟨rfl,D,T,kp,ea,U,hD,Um⟩;dsimp only;subst hD;have hlen:=U.length_eq;rw[JG]at hlen;obtain⟨z,T',rfl⟩:∃z T',T=z::T':=by
   cases T with
   |nil=>simp at hlen Hh;lia
   |cons z T'=>exact⟨z,T',rfl⟩
  have Hi:∀u∈D,P u:=λu O=>hP u (U.mem_iff.mp (Lp _ O));have Hj:P z:=hP z (U.mem_iff.mp (by simp))
  have hz:(Ke F)[L.length+D.length]?=S z:=by rw[ck ea rfl,D1 ∅,Sd];rfl
  refine JI (aJ (Q:=λx st'=>st'=F/\∃k,x=(Z,k,k)/\Gal lt Up z D k k)
   (KJ (fun i x st'=>st'=F/\∃lo hi,x=(Z,lo,hi)/\Gal lt Up z D lo hi/\hi-lo+i<=D.length) ?_ ?_ ⟨rfl,0,D.length,rfl,⟨∅,∅,fun _ _ h=>∅,fun i x hi hx=>by have:=(JO.mp hx).1;lia⟩,∅⟩) ?_)
  ·rintro i x Hf _ hi ⟨rfl,lo,j,rfl,J,hm⟩;dsimp only;have hl:=J.le;have Hk:=J.len;refine ah (λHl=>?_) (λHl=>?_)
   ·exact ae ⟨rfl,j,by rw[show lo=j by lia],by rw[show lo=j by lia]at J;exact J⟩
   ·obtain⟨u,O⟩:∃u,D[(lo+j) / 2]?=S u:=⟨_,JF ∅⟩
    have Hm:(Ke Hf)[L.length+(lo+j) / 2]?=S u:=by rw[ck ea rfl,JP ∅];exact O
    refine JI (dS c (kp.kind.trans hk) hz Hm Hj (Hi _ (Kg O)) ?_);dsimp only;refine ah (λhf=>?_) (λhf=>?_)
    ·exact ae ⟨rfl,_,_,rfl,⟨∅,∅,J.up,ic c Um O (by simp[bey,hf])⟩,∅⟩
    ·exact ae ⟨rfl,_,_,rfl,⟨∅,Hk,i9 c Um O (by simpa[bey]using hf),J.dn⟩,∅⟩
  ·rintro x Hf ⟨rfl,lo,j,rfl,J,hm⟩;have hl:=J.le;exact⟨rfl,j,by rw[show lo=j by lia],by rw[show lo=j by lia]at J;exact J⟩
  ·rintro x Hf ⟨rfl,l,rfl,J⟩;dsimp only;obtain⟨X,Y,e,hl,hX,hY⟩:=J.out;subst hl e;rw[moveDown'_eq];refine JI (Ny ?_);refine ae ⟨rfl,X++z::Y,T',kp.trans ⟨rfl,rfl,rfl⟩,qP ea (by simp) (by simp;lia),?_,by simp;lia,?_⟩
   ·refine O4.trans ?_ U;rw[JQ,JQ];refine L5 _ ?_;rw[Sz];exact SD.symm
   ·obtain⟨o1,o2,o3⟩:=I8.mp Um;refine I8.mpr ⟨o1,Pf.mpr ⟨λu O=>c.asym _ _ (by have:=hY u O;simpa[bey]using this),o2⟩,λu O v hv=>?_⟩
    rcases JS.mp hv with g|g
    ·subst g;have:=hX u O;simpa[bey]using this
    ·exact o3 u O v g
 ·rintro x F ⟨rfl,D,T,kp,ea,U,hD,Um⟩;exact⟨rfl,D,T,kp,ea,U,∅,Um⟩
 ·rintro x F ⟨rfl,D,T,kp,ea,U,hD,Um⟩;exact ae (q D T F ea U hD Um kp)
noncomputable def Pd:Nat->List (List JH)->List (Nat×Nat×Nat)->Prop
 |_,[],ps=>ps=[]
 |s,r::rs,ps=>∃p t,ps=(s,r.length,p)::t/\Pd (s+r.length) rs t
theorem Pd.split:∀{l t:List (List JH)} {s:Nat} {ps:List (Nat×Nat×Nat)},Pd s (l++t) ps->∃pl pt,ps=pl++pt/\pl.length=l.length/\Pd s l pl/\Pd (s+l.flatten.length) t pt
 |[],t,s,ps,h=>⟨[],ps,rfl,rfl,rfl,by simpa using h⟩
 |r::l,t,s,ps,h=>by
  obtain⟨p,q,e,h⟩:=h;obtain⟨pl,pt,j,z,h1,h2⟩:=Pd.split h;refine⟨(s,r.length,p)::pl,pt,by rw[e,j];rfl,by simp[z],⟨p,pl,rfl,h1⟩,?_⟩
  rw[LV,JG,<-Nat.add_assoc];exact h2
theorem Pd.length:∀{l:List (List JH)} {s:Nat} {ps:List (Nat×Nat×Nat)},Pd s l ps->ps.length=l.length
 |[],_,_,h=>by rw[show _=[]from h];rfl
 |r::l,s,ps,h=>by obtain⟨p,q,e,h⟩:=h;rw[e];simp[h.length]
structure Rn(lt:JH->JH->Bool)(kd:NQ)(a₀:List JH)(st:KI)(rs:List (List JH))(R:List JH):Prop where
 arr:(Ke st).toList=rs.flatten++R
 perm:(rs.flatten++R).Perm a₀
 ord:∀r∈rs,r≠[]/\Ord lt r
 pend:Pd 0 rs (La st).toList
 kind:Lk st=kd
 fail:LO st=Z
theorem Rn.size{a₀:List JH}{st:KI}{rs:List (List JH)}{R:List JH}(h:Rn lt kd a₀ st rs R):rs.flatten.length+R.length=a₀.length:=by have:=h.perm.length_eq;rw[JG]at this;exact this
end
end Srt
namespace Srt
def ij(cap:Nat):Prop:=∀(prog:JR) (w:K8) (A:K2) (E:h6->i4->Prop) (s:i4) (kd:NQ) (P:JH->Prop) (lt:JH->JH->Bool),Cm prog w A s kd P lt->∀(st:KI) (Q:Unit->KI->Prop),Lk st=kd->LO st=Z->La st=#[]->(∀x∈(Ke st).toList,P x)->2<=(Ke st).size->(Ke st).size<=cap->
 (∀st',(Ke st').toList.Perm (Ke st).toList->Ord lt (Ke st').toList->LO st'=Z->Q () st')->wpS (JT prog w) A E s sortRuns' Q st
theorem qR:ij 63:=by
 intro prog w A E s kd P lt c st Q hk hf hp hP h2 Hf q;rw[sortRuns'_eq];refine JI (OF ?_);dsimp only;have U:minRun' (Ke st).size (Ke st).size 0=(Ke st).size:=by
  obtain⟨f,hf⟩:∃f,(Ke st).size=f+1:=⟨(Ke st).size-1,∅⟩
  have:minRun' (f+1) (Ke st).size 0=(Ke st).size:=by rw[minRun'_succ,if_pos ∅];rfl
  rwa[<-hf]at this
 rw[U];have hsz:(Ke st).size=(Ke st).toList.length:=by simp
 generalize hA:(Ke st).toList=a₀ at hP q hsz;generalize hS:(Ke st).size=size at hsz h2 Hf U;have h0:a₀≠[]:=λz=>by rw[z]at hsz;simp at hsz;lia
 refine JI (aJ (Q:=λr st'=>r=(Z,size)/\(Ke st').toList.Perm a₀/\Ord lt (Ke st').toList/\LO st'=Z/\La st'=#[(0,size,0)])
  (KJ (λi r st'=>(i=0/\r=(Z,0)/\st'=st)∨(1<=i/\r=(Z,size)/\(Ke st').toList.Perm a₀/\Ord lt (Ke st').toList/\LO st'=Z/\La st'=#[(0,size,0)])) ?_ ?_ (.inl ⟨rfl,rfl,rfl⟩)) ?_)
 ·rintro i r F _ hi (⟨rfl,rfl,rfl⟩|⟨_,rfl,hD⟩)
  ·dsimp only;rw[if_neg ∅]
   rw[show size-0=a₀.length by lia,show min a₀.length size=size by lia]
   refine JI (qQ (L:=[]) c hk hA h0 hP λr R Y ea J Hg ho kp=>?_);dsimp only;have hl:=J.length_eq;rw[JG]at hl;have fin:∀(r':List JH) (j:KI),(Ke j).toList=r'->r'.Perm a₀->Ord lt r'->Kp F j->wpS (JT prog w) A E s (modify λz=>setPending z ((La z).push (0,size,0))) (λ_ st'=>(Ke st').toList.Perm a₀/\Ord lt (Ke st').toList/\LO st'=Z/\La st'=#[(0,size,0)]) j:=λr' j e3 p3 o3 k3=>by refine Ny ?_;exact⟨by show(Ke j).toList.Perm a₀;rw[e3];exact p3,by show Ord lt (Ke j).toList;rw[e3];exact o3,k3.fail.trans hf,by show(La j).push _=_;rw[k3.pend,hp];rfl⟩
   by_cases hlt:r.length<size
   ·rw[if_pos hlt];refine JI (cS ?_);refine JI (vB (L:=[]) c (kp.kind.trans hk) ea Hg ho (n:=size) ∅ (by simp;lia) (λx hx=>hP x (J.mem_iff.mp hx)) λr2 R2 j Hh O Hm Hi Um=>?_)
    rw[if_neg (by simp)]
    refine JI (OF ?_);have hb:(La j).back?=Z:=by rw[Um.pend,kp.pend,hp];rfl
    rw[hb];dsimp only;have Hj:=O.length_eq;rw[JG,JG]at Hj;have:R2=[]:=Kl.mp ∅
    subst this;rw[show 0+size=size by lia]
    refine JI (aJ (fin r2 j (by simpa using Hh) (by simpa using O.trans J) Hi (kp.trans Um)) λ_ Hk h4=>ae (.inr ⟨∅,rfl,h4⟩))
   ·rw[if_neg hlt];refine JI (OF ?_);have hb:(La Y).back?=Z:=by rw[kp.pend,hp];rfl
    rw[hb];dsimp only;have:R=[]:=Kl.mp ∅
    subst this;have Hl:r.length=size:=by simp at hl;lia
    rw[Hl,show 0+size=size by lia]
    refine JI (aJ (fin r Y (by simpa using ea) (by simpa using J) ho kp) λ_ Hk h4=>ae (.inr ⟨∅,rfl,h4⟩))
  ·dsimp only;rw[if_pos (JL _)];exact ae ⟨rfl,hD⟩
 ·rintro r F (⟨h,_,_⟩|⟨_,rfl,hD⟩)
  ·lia
  ·exact⟨rfl,hD⟩
 ·rintro r F ⟨rfl,p1,o1,f1,pd⟩;dsimp only;refine JI (aJ (KJ (I:=λ_ c st''=>st''=F/\c=(Z,())) (Q:=λc st''=>st''=F/\c=(Z,())) ?_ (λ_ _ hh=>hh) ⟨rfl,rfl⟩) ?_)
  ·rintro x c st'' _ _ ⟨rfl,rfl⟩;refine JI (OF ?_);rw[if_pos (by rw[pd];exact JL 1)]
   exact ae ⟨rfl,rfl⟩
  ·rintro c st'' ⟨rfl,rfl⟩;exact ae (q _ p1 o1 f1)
end Srt
namespace Srt
inductive Ky where
 |int (i:Int)
 |tup (l:List Ky)
mutual
noncomputable def aF:Ky->Ky->Ordering
 |.int a,.int b=>if a<b then .lt else if a=b then .eq else .gt
 |.int _,.tup _=>.lt
 |.tup _,.int _=>.gt
 |.tup a,.tup b=>cmpKs a b
noncomputable def cmpKs:List Ky->List Ky->Ordering
 |[],[]=>.eq
 |[],_::_=>.lt
 |_::_,[]=>.gt
 |x::xs,y::ys=>(aF x y).then (cmpKs xs ys)
end
mutual
theorem dl:∀a b,aF b a=(aF a b).swap
 |.int a,.int b=>by
  simp only[aF]
  by_cases h1:a<b
  ·rw[if_pos h1,if_neg ∅,if_neg ∅];rfl
  ·by_cases h2:a=b
   ·rw[if_neg h1,if_pos h2,if_neg ∅,if_pos h2.symm];rfl
   ·rw[if_neg h1,if_neg h2,if_pos ∅];rfl
 |.int _,.tup _=>by simp[aF]
 |.tup _,.int _=>by simp[aF]
 |.tup a,.tup b=>by simp only[aF];exact cmpKs_swap a b
theorem cmpKs_swap:∀a b,cmpKs b a=(cmpKs a b).swap
 |[],[]=>rfl
 |[],_::_=>rfl
 |_::_,[]=>rfl
 |x::xs,y::ys=>by
  simp only[cmpKs];rw[dl x y,cmpKs_swap xs ys]
  cases aF x y<;>rfl
end
mutual
theorem ik:∀a b,aF a b=.eq->a=b
 |.int a,.int b,h=>by
  simp only[aF]at h
  by_cases h1:a<b
  ·rw[if_pos h1]at h;cases h
  ·by_cases h2:a=b
   ·rw[h2]
   ·rw[if_neg h1,if_neg h2]at h;cases h
 |.int _,.tup _,h=>by simp[aF]at h
 |.tup _,.int _,h=>by simp[aF]at h
 |.tup a,.tup b,h=>by simp only[aF]at h;rw[cmpKs_eq a b h]
theorem cmpKs_eq:∀a b,cmpKs a b=.eq->a=b
 |[],[],_=>rfl
 |[],_::_,h=>by simp[cmpKs]at h
 |_::_,[],h=>by simp[cmpKs]at h
 |x::xs,y::ys,h=>by
  simp only[cmpKs]at h
  cases e:aF x y with
  |lt=>rw[e]at h;cases h
  |gt=>rw[e]at h;cases h
  |eq=>rw[e]at h;rw[ik x y e,cmpKs_eq xs ys h]
end
mutual
theorem jB:∀a b c,aF a b=.lt->aF b c=.lt->aF a c=.lt
 |.int a,.int b,.int c,h,g=>by
  simp only[aF]at h g⊢;have h1:a<b:=by
   by_cases h1:a<b
   ·exact h1
   ·rw[if_neg h1]at h;split at h<;>cases h
  have h2:b<c:=by
   by_cases h1:b<c
   ·exact h1
   ·rw[if_neg h1]at g;split at g<;>cases g
  rw[if_pos ∅]
 |.int _,.tup _,.int _,_,g=>by simp[aF]at g
 |.int _,.int _,.tup _,_,_=>by simp[aF]
 |.int _,.tup _,.tup _,_,_=>by simp[aF]
 |.tup _,.int _,_,h,_=>by simp[aF]at h
 |.tup _,.tup _,.int _,_,g=>by simp[aF]at g
 |.tup a,.tup b,.tup c,h,g=>by simp only[aF]at h g⊢;exact cmpKs_trans a b c h g
theorem cmpKs_trans:∀a b c,cmpKs a b=.lt->cmpKs b c=.lt->cmpKs a c=.lt
 |[],[],_,h,_=>by simp[cmpKs]at h
 |[],_::_,[],_,g=>by simp[cmpKs]at g
 |[],_::_,_::_,_,_=>by simp[cmpKs]
 |_::_,[],_,h,_=>by simp[cmpKs]at h
 |_::_,_::_,[],_,g=>by simp[cmpKs]at g
 |x::xs,y::ys,z::zs,h,g=>by
  simp only[cmpKs]at h g⊢
  cases e:aF x y with
  |gt=>rw[e]at h;cases h
  |eq=>
   have:=ik x y e;subst this;rw[e]at h
   cases e2:aF x z with
   |gt=>rw[e2]at g;cases g
   |lt=>rfl
   |eq=>rw[e2]at g;exact cmpKs_trans xs ys zs h g
  |lt=>
   cases e2:aF y z with
   |gt=>rw[e2]at g;cases g
   |lt=>rw[jB x y z e e2];rfl
   |eq=>have:=ik y z e2;subst this;rw[e];rfl
end
noncomputable def ltK(a b:Ky):Bool:=aF a b==.lt
noncomputable def pB(a b:List Ky):Bool:=cmpKs a b==.lt
theorem ym(a b:Ky)(h:ltK a b=Uo):ltK b a=Up:=by unfold ltK at h⊢;rw[dl a b,(by simpa using h:aF a b=.lt)];rfl
theorem vC(a b:Ky)(h:ltK a b=Up)(g:ltK b a=Up):a=b:=by
 unfold ltK at h g;rw[dl a b]at g;apply ik
 cases e:aF a b with
 |eq=>rfl
 |lt=>rw[e]at h;cases h
 |gt=>rw[e]at g;cases g
theorem AI(a b c:Ky)(h:ltK a c=Uo):ltK a b=Uo∨ltK b c=Uo:=by
 cases e:ltK a b with
 |true=>exact .inl rfl
 |false=>
  right
  cases j:ltK b a with
  |false=>rw[vC a b e j]at h;exact h
  |true=>unfold ltK at h j⊢;rw[jB b a c (by simpa using j) (by simpa using h)];rfl
theorem vD(x y:Ky)(xs ys:List Ky):pB (x::xs) (y::ys)=if(!ltK x y && !ltK y x)=Uo then pB xs ys else ltK x y:=by
 unfold pB ltK;rw[dl x y];simp only[cmpKs]
 cases aF x y<;>simp
mutual
noncomputable def toK:KQ->Ky
 |.int i=>.int i
 |.tuple xs=>.tup (toKs xs)
 |_=>.int 0
noncomputable def toKs:List KQ->List Ky
 |[]=>[]
 |x::xs=>toK x::toKs xs
end
inductive Cmpb:KQ->KQ->Prop where
 |int (a b:Int):Cmpb (.int a) (.int b)
 |nil (ys:List KQ):Cmpb (.tuple []) (.tuple ys)
 |nil' (xs:List KQ):Cmpb (.tuple xs) (.tuple [])
 |cons {x y:KQ} {xs ys:List KQ}:Cmpb x y->Cmpb (.tuple xs) (.tuple ys)->Cmpb (.tuple (x::xs)) (.tuple (y::ys))
theorem Cmpb.eqv{x y:KQ}(h:Cmpb x y):Kk x y=(!ltK (toK x) (toK y) && !ltK (toK y) (toK x)):=by
 have g:∀{x y:KQ},Cmpb x y->Kk x y=(aF (toK x) (toK y)==.eq):=by
  intro x y h
  induction h with
  |int a b=>
   simp only[Kk,toK,aF]
   by_cases h1:a<b
   ·rw[if_pos h1];simp;lia
   ·by_cases h2:a=b
    ·rw[if_neg h1,if_pos h2];simp[h2]
    ·rw[if_neg h1,if_neg h2];simp;lia
  |nil ys=>cases ys<;>simp[Kk,NR,toK,toKs,aF,cmpKs]
  |nil' xs=>cases xs<;>simp[Kk,NR,toK,toKs,aF,cmpKs]
  |@cons x y xs ys h1 h2 ih1 j=>
   simp only[Kk]at j⊢;simp only[NR,toK,toKs,aF,cmpKs]at j⊢;rw[ih1,j]
   cases aF (toK x) (toK y)<;>simp
 rw[g h];unfold ltK;rw[dl (toK x) (toK y)]
 cases aF (toK x) (toK y)<;>rfl
section
variable{prog:JR}{w:K8}{A:K2}{E:h6->i4->Prop}{s:i4}
theorem trd{b:Bool}{Q:Bool->i4->Prop}(q:Q b s):JK (JT prog w) A (truthOfDropped (.bool b)) Q E s:=by
 unfold truthOfDropped
 wp_walk
 exact q
theorem il(a b:Int):ltK (.int a) (.int b)=decide (a<b):=by
 simp only[ltK,aF]
 by_cases h:a<b
 ·simp[h]
 ·by_cases h2:a=b<;>simp[h,h2]
theorem vE{a b:Int}{t u:Tok}{Q:h6->i4->Prop}(q:Q (.bool (decide (a<b))) s):JK (JT prog w) A (SX .Lt (.int a t) (.int b u)) Q E s:=wpAny_richCompare_same (T:="int") rfl rfl F.slot_int_lt (call_int_lt ⟨by simp,q⟩)
noncomputable def cn:List KQ->List KQ->Option Bool
 |x::xs,y::ys=>if Kk x y=Uo then cn xs ys else S (ltK (toK x) (toK y))
 |_,_=>Z
theorem iQ:∀{xs ys:List KQ},Cmpb (.tuple xs) (.tuple ys)->ltK (toK (.tuple xs)) (toK (.tuple ys))=match cn xs ys with|some b=>b|none=>decide (xs.length<ys.length)
 |[],[],_=>rfl
 |[],_::_,_=>by simp[cn,toK,toKs,ltK,aF,cmpKs]
 |_::_,[],_=>by simp[cn,toK,toKs,ltK,aF,cmpKs]
 |x::xs,y::ys,h=>by
  cases h with
  |cons h1 h2=>
   have ih:=iQ h2;have e:∀a b:List Ky,ltK (.tup a) (.tup b)=pB a b:=λa b=>by simp[ltK,pB,aF]
   simp only[toK,toKs,e]at ih⊢;rw[vD,<-h1.eqv];simp only[cn]
   split
   ·rw[ih];simp
   ·rfl
noncomputable def cD{α β:Type}(M:MP)(A:K2)(E:h6->i4->Prop)(f:α->β->Sem (ForInStep β))(Q:β->i4->Prop):List α->β->i4->Prop
 |[],c,s=>Q c s
 |x::xs,c,s=>JK M A (f x c) (λr s'=>match r with|.done c'=>Q c' s'|.yield c'=>cD M A E f Q xs c' s') E s
theorem fZ{α β:Type}{M:MP}{f:α->β->Sem (ForInStep β)}{Q:β->i4->Prop}:∀{l:List α} {c:β} {s:i4},cD M A E f Q l c s->JK M A (forIn l c f) Q E s
 |[],c,s,h=>by rw[List.forIn_nil];exact B1 h
 |x::xs,c,s,h=>by
  rw[OQ];refine gV (Kh h (λr s' hr=>?_) λ_ _ z=>z)
  cases r with
  |done c'=>exact B1 hr
  |yield c'=>exact fZ hr
theorem bV{h:Heap}:∀{vs:List h6} {xs:List KQ} {as:List Uq},QR h vs xs as->vs.length=xs.length
 |_,_,_,.nil=>rfl
 |_,_,_,.cons _ r=>by simp[bV r]
theorem iR{α β:Type}{M:MP}{n:Nat}{f:α->Option β×Unit->Sem (ForInStep (Option β×Unit))}{g:Bool->β}{pr:α->h6×h6}{Q:Option β×Unit->i4->Prop}:
 ∀{l:List α} {vs us:List h6} {xs ys:List KQ} {as bs:List Uq},l.map pr=vs.zip us->QR s.heap vs xs as->QR s.heap us ys bs->Cmpb (.tuple xs) (.tuple ys)->L8 xs=Uo->L8 ys=Uo->LY xs<=n->
  (∀(z:α) (x y:h6) (d e:KQ) (as bs:List Uq) (R:ForInStep (Option β×Unit)->i4->Prop),z∈l->pr z=(x,y)->Od s.heap x d as->Od s.heap y e bs->Cmpb d e->d.canLay0=Uo->e.canLay0=Uo->d.depth<=n->
   R (if Kk d e=Uo then .yield (Z,())else .done (S (g (ltK (toK d) (toK e))),())) s->JK M A (f z (Z,())) R E s)->
  Q ((cn xs ys).map g,()) s->cD M A E f Q l (Z,()) s
 |[],vs,us,xs,ys,as,bs,e,j,F,J,_,_,_,_,q=>by
  have h1:=bV j;have h2:=bV F;have:vs=[]∨us=[]:=by
   cases vs with
   |nil=>exact .inl rfl
   | cons v vs=>cases us with
     |nil=>exact .inr rfl
     |cons u us=>simp at e
  have L:cn xs ys=Z:=by
   rcases this with rfl|rfl
   ·cases xs with
    |nil=>simp[cn]
    |cons x xs=>simp at h1
   ·cases ys with
    |nil=>cases xs<;>simp[cn]
    |cons y ys=>simp at h2
  rw[L]at q;exact q
 |z::l,vs,us,xs,ys,as,bs,e,j,F,J,lx,ly,hd,hf,q=>by
  cases j with
  |nil=>simp at e
  |cons rx j=>
   cases F with
   |nil=>simp at e
   |cons ry F=>
    simp only[K7,List.zip_cons_cons,Te]at e;simp only[L8,i5]at lx ly;simp only[LY]at hd
    cases J with
    |cons O U=>
     simp only[cD];refine hf z _ _ _ _ _ _ _ (by simp) e.1 rx ry O lx.1 ly.1 ∅ ?_
     simp only[cn]at q
     split at q
     ·next h=>rw[if_pos h];exact iR e.2 j F U lx.2 ly.2 ∅ (λz x y d e as bs R Y=>hf z x y d e as bs R (by simp[Y])) q
     ·next h=>rw[if_neg h];exact q
def EX(n:Nat):Prop:=∀(prog:JR) (w:K8) (A:K2) (s:i4) (a b:h6) (d e:KQ) (as bs:List Uq) (E:h6->i4->Prop) (Q:h6->i4->Prop),d.depth<=n->Cmpb d e->Od s.heap a d as->Od s.heap b e bs->d.canLay0=Uo->e.canLay0=Uo->A.units+n+1<Mj->
 Q (.bool (ltK (toK d) (toK e))) s->JK (JT prog w) A (SX .Lt a b) Q E s
theorem DW:∀n,EX n:=by
 intro n
 induction n with
 |zero=>
  intro prog w A s a b d e as bs E Q hd z ra rb ld le hu q
  cases z with
  |int i j=>
   cases ra;cases rb
   exact vE (by rw[<-il];exact q)
  |nil ys=>simp[N5]at hd
  |nil' xs=>simp[N5]at hd
  |cons _ _=>simp[N5]at hd
 |succ n ih=>
  intro prog w A s a b d e as bs E Q hd z ra rb ld le hu q;have tup:∀xs ys,d=.tuple xs->e=.tuple ys->JK (JT prog w) A (SX .Lt a b) Q E s:=by
   rintro xs ys rfl rfl
   cases ra with
   |tuple h1 h2 h3 O=>
    cases rb with
    |tuple g1 g2 g3 U=>
     rename_i l ol vl nl p ob vb nb;have tl:s.TypeIs (.ref l) "tuple":=⟨_,h1,h2⟩;have tb:s.TypeIs (.ref p) "tuple":=⟨_,g1,g2⟩;refine P2 tl tb Tf (Ld Tf tl F.entry_tuple_lt ?_ (F.args_tuple_lt_2 _ _)) ∅
     unfold MB.«tuple.__lt__»;refine gV ?_;have Y:isSubtype (.type "tuple") (.type "tuple")=pure Uo:=by rw[QT];kernel_rfl
     wp_walk
     rw[h3]
     wp_walk
     rw[g3];refine B1 ?_;refine B1 ?_;refine gV (fZ (iR (n:=n) (g:=λb=>Fin.done (Flow.ret (Qj b))) (pr:=id) (List.map_id _) O U z ld le (by simp[N5]at hd;lia) ?_ ?_))
     ·rintro⟨x,y⟩ x' y' d e as bs R _ hz rx ry z ld le hd r
      cases hz
      dsimp only;refine gV (SE d e _ _ _ _ _ _ rx ry ld le ?_ prog w E _ ?_)
      ·show A.units+1+min d.depth e.depth<Mj;lia
      ·by_cases J:Kk d e=Uo
       ·rw[if_pos J]at r;rw[J];exact B1 r
       ·rw[if_neg J]at r;have J:Kk d e=Up:=by simpa using J
        rw[J];refine gV (Me (gV (ih prog w _ s x y d e as bs E _ hd z rx ry ld le ?_ ?_)))
        ·show A.units+1+n+1<Mj;lia
        ·exact B1 r
     ·have L:=iQ z
      cases e2:cn xs ys with
      |some b=>rw[e2]at L;dsimp only at L;rw[L]at q;exact B1 ⟨_,rfl,by simp,q⟩
      |none=>
       rw[e2]at L;dsimp only at L;rw[L]at q;have Um:=bV O;have n2:=bV U;refine B1 ⟨_,rfl,?_,?_⟩
       ·simp[Oj]
       ·simp only[Kn]at Um n2;simp only[Oj];rw[Um,n2];exact q
  cases z with
  |int i j=>
   cases ra;cases rb
   exact vE (by rw[<-il];exact q)
  |nil ys=>exact tup _ _ rfl rfl
  |nil' xs=>exact tup _ _ rfl rfl
  |cons _ _=>exact tup _ _ rfl rfl
end
end Srt
namespace Srt
variable{n:Nat}
section
variable{prog:JR}{w:K8}{A:K2}{E:h6->i4->Prop}{s:i4}
theorem jC{α β:Type}{M:MP}{f:α->Sem β}{g:α->β}:∀{l:List α} {Q:List β->i4->Prop},(∀x∈l,∀R:β->i4->Prop,R (g x) s->JK M A (f x) R E s)->Q (l.map g) s->JK M A (l.mapM f) Q E s
 |[],Q,_,q=>by rw[List.mapM_nil];exact B1 q
 |x::xs,Q,h,q=>by rw[List.mapM_cons];refine gV (h x (by simp) _ (gV (jC (λy j=>h y (by simp[j])) (B1 q))))
theorem eW{α β:Type}{M:MP}{f:α->Sem β}{g:α->β}{xs:Array α}{Q:Array β->i4->Prop}(h:∀x∈xs.toList,∀R:β->i4->Prop,R (g x) s->JK M A (f x) R E s)(q:Q (xs.map g) s):JK M A (xs.mapM f) Q E s:=by
 rw[Array.mapM_eq_mapM_toList];rw[map_eq_pure_bind];refine gV (jC h (B1 ?_));have:(xs.toList.map g).toArray=xs.map g:=by apply Oy.mp;simp
 rw[this];exact q
theorem lQ{a:Uq}{v:h6}{vs:List h6}{o:Obj}(h1:s.heap.get? a=S o)(h2:o.cls=.type "tuple")(j:o.data=.seq (v::vs).toArray n){Q:Option h6->i4->Prop}(q:Q (S v) s):JK (JT prog w) A (firstOfTuple' (.ref a)) Q E s:=by
 unfold firstOfTuple';have ty:s.TypeIs (.ref a) "tuple":=⟨_,h1,h2⟩
 wp_walk
 rw[j];refine B1 ?_;refine B1 ?_;exact B1 q
theorem AJ{a:Uq}{o:Obj}{T:h6}(h1:s.heap.get? a=S o)(h2:o.cls=T){Q:h6->i4->Prop}(q:Q T s):JK (JT prog w) A (typeOf (.ref a)) Q E s:=by
 wp_walk
 rw[h2];exact q
theorem vG{x y:h6}{d e:KQ}{as bs:List Uq}(j:Cmpb d e)(rx:Od s.heap x d as)(ry:Od s.heap y e bs)(ld:d.canLay0=Uo)(le:e.canLay0=Uo)(hd:d.depth<=n)(z:A.units+n+1<Mj){Q:Bool->i4->Prop}(q:Q (ltK (toK d) (toK e)) s):JK (JT prog w) A (oneLt' Up x y) Q E s:=by rw[oneLt'_eq];exact gV (DW n prog w A s x y d e as bs E _ hd j rx ry ld le z (trd q))
theorem lU{b:Bool}{x y:h6}{xs ys:List KQ}{as bs:List Uq}(hb:b=Uo->∀d e,xs.head?=S d->ys.head?=S e->(∃i,d=.int i)/\∃i,e=.int i)(L:Cmpb (.tuple xs) (.tuple ys))(rx:Od s.heap x (.tuple xs) as)(ry:Od s.heap y (.tuple ys) bs)(lx:L8 xs=Uo)(ly:L8 ys=Uo)(hd:LY xs<=n)(hu:A.units+n+1<Mj){Q:Bool->i4->Prop}(q:Q (ltK (toK (.tuple xs)) (toK (.tuple ys))) s):
 JK (JT prog w) A (keyLt' (tuples' b) x y) Q E s:=by
 cases rx with
 |tuple h1 h2 h3 O=>
  cases ry with
  |tuple g1 g2 g3 U=>
   refine gV (Se h1 h3 ?_);refine gV (Se g1 g3 ?_);refine gV (fZ (iR (n:=n) (g:=id) (pr:=Prod.fst) (NJ _ _) O U L lx ly hd ?_ ?_))
   ·rintro⟨⟨x,y⟩,i⟩ x' y' d e as bs R hz hp rx ry L ld le hd r
    cases hp
    dsimp only;refine gV (SE d e _ _ _ _ _ _ rx ry ld le ∅ prog w E _ ?_)
    by_cases J:Kk d e=Uo
    ·rw[if_pos J]at r;rw[J];exact B1 r
    ·rw[if_neg J]at r;have J:Kk d e=Up:=by simpa using J
     rw[J];refine gV ?_
     by_cases z:(b&&i==0)=Uo
     ·rw[z];simp only[i5,beq_iff_eq]at z;obtain⟨rfl,rfl⟩:=z;have j:=List.mem_zipIdx_iff_getElem?.mp hz;obtain⟨Um,j1,t1,t2,F,Y⟩:∃(Um j1:Int) (t1 t2:Tok),x=.int Um t1/\y=.int j1 t2:=by
       generalize hV:Ql _=vl at O j;generalize hU:Ql _=ul at U j
       cases O with
       |nil=>simp at j
       |cons p1 p2=>
        cases U with
        |nil=>simp at j
        |cons q1 q2=>
         simp at j;obtain⟨⟨Um,ei⟩,⟨j1,ej⟩⟩:=hb rfl _ _ rfl rfl;subst ei ej
         cases p1;cases q1
         exact⟨_,_,_,_,j.1.symm,j.2.symm⟩
      subst F Y
      cases rx;cases ry
      refine oneLt_int ?_;rw[<-il];exact B1 r
     ·have z:(b&&i==0)=Up:=by simpa using z
      rw[z];exact vG L rx ry ld le hd hu (B1 r)
   ·have F:=iQ L
    cases Y:cn xs ys with
    |some b=>rw[Y]at F;dsimp only at F;rw[F]at q;exact B1 q
    |none=>rw[Y]at F;dsimp only at F;rw[F]at q;have n1:=bV O;have n2:=bV U;refine B1 ?_;simp only[Kn]at n1 n2;rw[n1,n2];exact q
end
end Srt
namespace Srt
structure pC(n:Nat)(ds:List KQ):Prop where
 cmp:∀d∈ds,∀e∈ds,Cmpb d e
 lay:∀d∈ds,d.canLay0=Uo/\d.depth<=n
 kind:(∀d∈ds,∃i,d=.int i)∨(∀d∈ds,∃i xs,d=.tuple (.int i::xs))∨(∀d∈ds,∃ys xs,d=.tuple (.tuple ys::xs))
noncomputable def cG(h:Heap):h6->Option h6
 |.ref a=>(h.get? a).bind λo=>match o.data with|.seq xs _=>xs[0]?|_=>Z
 |_=>Z
variable{vs:List h6}{h:Heap}{v:h6}
section
variable{prog:JR}{w:K8}{A:K2}{E:h6->i4->Prop}{s:i4}
noncomputable def dL(h:Heap)(x:JH):Ky:=toK (Lx h x.1)
def RdL(h:Heap)(vs:List h6)(ds:List KQ):Prop:=∀v∈vs,∃d∈ds,∃as,Od h v d as
theorem gJ{arr:Array h6}{T:String}(h0:0<arr.size)(h:∀v∈arr.toList,∀R:h6->i4->Prop,R (.type T) s->JK (JT prog w) A (typeOf v) R E s){Q:Option h6->i4->Prop}(q:Q (S (.type T)) s):JK (JT prog w) A (oneTypeOnly' arr) Q E s:=by
 rw[oneTypeOnly'_eq];refine gV (eW (g:=λ_=>KU T) h ?_);have e:(Oz (λ_=>KU T) arr)[0]?=S (KU T):=by rw[Array.getElem?_map,KS h0];rfl
 rw[e];dsimp only;have j:((Oz (λ_=>KU T) arr).all λx=>x==KU T)=Uo:=by rw[Sf];intro i hi;simp
 rw[j];exact B1 q
theorem tH{n:Nat}{kd:NQ}{ds:List KQ}(hr:RdL s.heap vs ds)(hs:pC n ds)(h:∀(x y:h6) (d e:KQ) (as bs:List Uq) (E:h6->i4->Prop) (Q:Bool->i4->Prop),d∈ds->e∈ds->Od s.heap x d as->Od s.heap y e bs->Q (ltK (toK d) (toK e)) s->JK (JT prog w) A (keyLt' kd x y) Q E s):
 Cm prog w A s kd (λx=>x.1∈vs) (λx y=>ltK (dL s.heap x) (dL s.heap y)) where
 asym:=λx y=>ym _ _
 neg:=λx y z=>AI _ _ _
 run:=λx y E Q hx j q=>by obtain⟨d,hd,as,ra⟩:=hr _ hx;obtain⟨e,he,bs,rb⟩:=hr _ j;have F:=Mo (hs.lay d hd).1 ra;have J:=Mo (hs.lay e he).1 rb;unfold dL at q;rw[F,J]at q;exact h _ _ d e as bs E Q hd he ra rb q
theorem pD(j:∀v∈vs,∃u,cG h v=S u):((vs.toArray.map (cG h)).all λx=>x.isSome)=Uo:=by rw[Sf];intro i hi;simp at hi;obtain⟨u,z⟩:=j vs[i] (Sy hi);simp[z]
theorem vH{x:h6}(hx:x∈(Tg id (vs.toArray.map (cG h))).toList):∃v∈vs,cG h v=S x:=by simp at hx;exact hx
theorem vI{u:h6}(j:cG h v=S u):0<(Tg id ((v::vs).toArray.map (cG h))).size:=by rw[<-Kn];simp[j]
theorem lV{d:KQ}{xs:List KQ}{as:List Uq}(r:Od h v (.tuple (d::xs)) as):∃a o u us n bs,v=.ref a/\h.get? a=S o/\o.cls=.type "tuple"/\o.data=.seq (u::us).toArray n/\Od h u d bs:=by
 cases r with
 |@tuple a o vs n xs as h1 h2 j h4=>
  generalize z:vs.toList=vl at h4
  cases h4 with
  |@cons u us _ _ bs _ F p2=>exact⟨_,_,u,us,n,bs,rfl,h1,h2,by rw[j];congr 1;apply Oy.mp;simpa using z,F⟩
theorem DX{n:Nat}{ds:List KQ}(hr:RdL s.heap (v::vs) ds)(hs:pC n ds)(z:A.units+n+1<Mj):
 ∃kd,(∀(E:h6->i4->Prop) (Q:NQ->i4->Prop),Q kd s->JK (JT prog w) A (keyKind' (v::vs).toArray) Q E s)/\Cm prog w A s kd (λx=>x.1∈v::vs) (λx y=>ltK (dL s.heap x) (dL s.heap y)):=by
 rcases hs.kind with hk|hk|hk
 ·refine⟨oneType',λE Q q=>?_,tH hr hs λx y d e as bs E Q hd he ra rb q=>?_⟩
  ·have aS:∀u∈v::vs,∃i t,u=.int i t:=fun u z=>by
    obtain⟨d,hd,as,ra⟩:=hr u z;obtain⟨i,rfl⟩:=hk d hd
    cases ra
    exact⟨_,_,rfl⟩
   rw[SY];refine gV (eW (g:=λ_=>(Z:Option h6)) (λu z R r=>?_) ?_)
   ·obtain⟨i,t,rfl⟩:=aS u (by simpa using z)
    rw[firstOfTuple'_int];exact B1 r
   ·have Um:((Oz (fun _=>(Z:Option h6)) (v::vs).toArray).all fun x=>x.isSome)=Up:=by
     simp
    rw[Um];have F:((Oz (λ_=>(Z:Option h6)) (v::vs).toArray)[0]?.bind id).isSome=Up:=by simp
    simp only[F,KH,if_false];refine gV (gJ (T:="int") (by simp) (λu z R r=>?_) ?_)
    ·obtain⟨i,t,rfl⟩:=aS u (by simpa using z)
     exact B1 r
    ·exact B1 q
  ·obtain⟨i,rfl⟩:=hk d hd;obtain⟨j,rfl⟩:=hk e he
   cases ra;cases rb
   rw[keyLt'_oneType];exact oneLt_int (by rw[<-il];exact q)
 ·refine⟨tuples' Uo,λE Q q=>?_,tH hr hs λx y d e as bs E Q hd he ra rb q=>?_⟩
  ·have hf:∀u∈v::vs,∃a o i t us n,u=.ref a/\s.heap.get? a=S o/\o.cls=.type "tuple"/\o.data=.seq (.int i t::us).toArray n:=fun u z=>by
    obtain⟨d,hd,as,ra⟩:=hr u z;obtain⟨i,xs,rfl⟩:=hk d hd;obtain⟨a,o,u1,us,n,bs,Um,F,O,L,U⟩:=lV ra
    cases U
    exact⟨a,o,_,_,us,n,Um,F,O,L⟩
   have J:∀u∈v::vs,∃i t,cG s.heap u=S (.int i t):=λu z=>by obtain⟨a,o,i,t,us,n,rfl,F,O,L⟩:=hf u z;exact⟨i,t,by simp[cG,F,L]⟩
   rw[SY];refine gV (eW (g:=cG s.heap) (λu z R r=>?_) ?_)
   ·obtain⟨a,o,i,t,us,n,rfl,F,O,L⟩:=hf u (by simpa using z)
    refine lQ F O L ?_;simpa[cG,F,L]using r
   ·rw[pD (λu z=>let⟨i,t,e⟩:=J u z; ⟨_,e⟩)];refine gV (Me ?_);obtain⟨i0,t0,e0⟩:=J v (by simp)
    refine gV (gJ (T:="int") (vI e0) (λu z R r=>?_) ?_)
    ·obtain⟨u',Y,e⟩:=vH z;obtain⟨i,t,e'⟩:=J u' Y;rw[e']at e;cases e;exact B1 r
    ·exact B1 q
  ·obtain⟨i,xs,rfl⟩:=hk d hd;obtain⟨j,ys,rfl⟩:=hk e he;have l1:=hs.lay _ hd;have l2:=hs.lay _ he;refine lU (n:=n) (λ_ d e hd he=>?_) (hs.cmp _ hd _ he) ra rb (by simpa[Oh]using l1.1) (by simpa[Oh]using l2.1) (by have:=l1.2;simp[N5]at this;lia) z q
   simp at hd he;subst hd he;exact⟨⟨_,rfl⟩,_,rfl⟩
 ·refine⟨tuples' Up,λE Q q=>?_,tH hr hs λx y d e as bs E Q hd he ra rb q=>?_⟩
  ·have hf:∀u∈v::vs,∃a o b ob us n,u=.ref a/\s.heap.get? a=S o/\o.cls=.type "tuple"/\o.data=.seq (.ref b::us).toArray n/\s.heap.get? b=S ob/\ob.cls=.type "tuple":=fun u z=>by
    obtain⟨d,hd,as,ra⟩:=hr u z;obtain⟨ys,xs,rfl⟩:=hk d hd;obtain⟨a,o,u1,us,n,bs,Um,F,O,L,U⟩:=lV ra
    cases U with
    |tuple h1 h2 h3 h4=>exact⟨a,o,_,_,us,n,Um,F,O,L,h1,h2⟩
   have J:∀u∈v::vs,∃b ob,cG s.heap u=S (.ref b)/\s.heap.get? b=S ob/\ob.cls=.type "tuple":=λu z=>by obtain⟨a,o,b,ob,us,n,rfl,F,O,L,U,e6⟩:=hf u z;exact⟨b,ob,by simp[cG,F,L],U,e6⟩
   rw[SY];refine gV (eW (g:=cG s.heap) (λu z R r=>?_) ?_)
   ·obtain⟨a,o,b,ob,us,n,rfl,F,O,L,U,e6⟩:=hf u (by simpa using z)
    refine lQ F O L ?_;simpa[cG,F,L]using r
   ·rw[pD (λu z=>let⟨i,t,e,_⟩:=J u z; ⟨_,e⟩)];refine gV (Me ?_);obtain⟨i0,t0,e0,_⟩:=J v (by simp)
    refine gV (gJ (T:="tuple") (vI e0) (λu z R r=>?_) ?_)
    ·obtain⟨u',Y,e⟩:=vH z;obtain⟨b,ob,e',U,e6⟩:=J u' Y;rw[e']at e;cases e;exact AJ U e6 r
    ·exact B1 q
  ·obtain⟨zs,xs,rfl⟩:=hk d hd;obtain⟨zs',ys,rfl⟩:=hk e he;have l1:=hs.lay _ hd;have l2:=hs.lay _ he;exact lU (n:=n) (λh=>by cases h) (hs.cmp _ hd _ he) ra rb (by simpa[Oh]using l1.1) (by simpa[Oh]using l2.1) (by have:=l1.2;simp[N5]at this;lia) z q
end
end Srt
namespace Srt
inductive Pl:KQ->Prop where
 |int (i:Int):Pl (.int i)
 |tup (xs:List KQ):(∀x∈xs,Pl x)->Pl (.tuple xs)
theorem bM{h h':Heap}(k:∀b o,h.get? b=S o->o.cls=.type "tuple"->h'.get? b=S o){d:KQ}(p:Pl d):∀{v:h6} {as:List Uq},Od h v d as->Od h' v d as:=by
 induction p with
 |int i=>intro v as r;cases r;exact .int _ _
 |tup xs hx ih=>
  intro v as r
  cases r with
  |tuple h1 h2 j z=>
   refine .tuple (k _ _ h1 h2) h2 j ?_;have g:∀(xs:List KQ),(∀x∈xs,∀{v:h6} {as:List Uq},Od h v x as->Od h' v x as)->∀(vs:List h6) (as:List Uq),QR h vs xs as->QR h' vs xs as:=by
    intro xs
    induction xs with
    |nil=>intro _ vs as r;cases r;exact .nil
    |cons x xs ihx=>
     intro hk vs as r
     cases r with
     |cons F p2=>exact .cons (hk x (by simp) F) (ihx (λy J=>hk y (by simp[J])) _ _ p2)
   exact g xs ih _ _ z
section
variable{prog:JR}{w:K8}{A:K2}{E:h6->i4->Prop}{s:i4}
theorem yn{α:Type}{R:α->α->Prop}:∀{l:List α},l.length<2->l.Pairwise R
 |[],_=>.nil
 |[_],_=>List.pairwise_singleton _ _
theorem AK{α:Type}:∀{l:List α},2<=l.length->∃x r,l=x::r
 |x::r,_=>⟨x,r,rfl⟩
theorem AL{cap:Nat}(F3:ij cap){m:Nat}{a:Uq}{vs:List h6}{n:Nat}{ds:List KQ}(ha:s.heap.get? a=S (SG "list" vs.toArray n))(hr:RdL s.heap vs ds)(hs:pC m ds)(hp:∀d∈ds,Pl d)(hl:vs.length<=D2)(Hj:vs.length<=cap)(hu:A.units+m+1<Mj){Q:PySem.Fin->i4->Prop}(q:∀(h':Heap) (out:List h6) (n':Nat),(∀b o,b≠a->s.heap.get? b=S o->h'.get? b=S o)->h'.get? a=S (SG "list" out.toArray n')->out.Perm vs->out.Pairwise (λx y=>ltK (toK (Lx s.heap y)) (toK (Lx s.heap x))=Up)->Q (.done (.ret .none)) {s with heap:=h'}):
 JK (JT prog w) A (MB.«list.sort» ⟨[.ref a],[]⟩) Q E s:=by
 rw[list_sort_plain];refine gV (Se ha rfl ?_);refine gV (OG ha rfl ?_ (by simpa using hl) (by simp))
 have g1:=NV ha (λ_=>#[]);generalize Hk:s.heap.update a (MW λ_=>#[])=h1 at g1;generalize (if((#[]:Array h6).size==vs.toArray.size)=Uo then n else n+1)=n1 at g1
 refine gV (T1 g1 rfl ?_);refine gV (wpAny_newTuple ?_ (by simpa using hl))
 refine gV (PR ?_ (by simp))
 refine KO ?_;dsimp only;generalize Y:({heap:=(h1.push {cls:=KU "tuple",data:=OI vs.toArray.toList.toArray}).push {cls:=KU "list",data:=OI [].toArray},gens:=s.gens,drawn:=s.drawn,toks:=s.toks,os:=s.os}:i4)=s3;have g3:s3.heap.get? a=S (SG "list" #[] n1):=by rw[<-Y];exact n6 _ (n6 _ g1)
 have keep:∀b o,b≠a->s.heap.get? b=S o->s3.heap.get? b=S o:=λb o L O=>by rw[<-Y,<-Hk];exact n6 _ (n6 _ (by rw[L3 _ _ _ _ L];exact O))
 have keepT:∀b o,s.heap.get? b=S o->o.cls=.type "tuple"->s3.heap.get? b=S o:=λb o L hc=>keep b o (λz=>by rw[z,ha]at L;cases L;simp at hc) L
 have Hl:RdL s3.heap vs ds:=λv hv=>by obtain⟨d,hd,as,r⟩:=hr v hv;exact⟨d,hd,as,bM keepT (hp d hd) r⟩
 have same:∀v∈vs,Lx s3.heap v=Lx s.heap v:=λv hv=>by obtain⟨d,hd,as,r⟩:=hr v hv;rw[Mo (hs.lay d hd).1 r,Mo (hs.lay d hd).1 (bM keepT (hp d hd) r)]
 have q:∀(h':Heap) (out:List h6) (n':Nat),(∀b o,b≠a->s.heap.get? b=S o->h'.get? b=S o)->h'.get? a=S (SG "list" out.toArray n')->out.Perm vs->out.Pairwise (λx y=>ltK (toK (Lx s.heap y)) (toK (Lx s.heap x))=Up)->Q (.done (.ret .none)) {s3 with heap:=h'}:=by rw[<-Y];exact q
 have Hn:∀A':K2,A'.units=A.units->True:=λ_ _=>trivial;clear Y
 let Good:KI->Prop:=λst'=>LO st'=Z/\(Ke st').toList.Perm (vs.zip vs)/\(Ke st').toList.Pairwise (λx y=>ltK (dL s3.heap y) (dL s3.heap x)=Up)
 by_cases J:vs.toArray.size<2
 ·rw[if_pos J,if_pos J];refine gV (B1 ?_);have F:vs.length<2:=by simpa using J
  have run:JK (JT prog w) A ((pure ():StateT KI Sem Unit).run (Ow general' (vs.toArray.zip vs.toArray) #[] 7 Z)) (λr s'=>s'=s3/\Good r.2) E s3:=by
   refine B1 ⟨rfl,rfl,?_,?_⟩
   ·show(vs.toArray.zip vs.toArray).toList.Perm _;simp
   ·show List.Pairwise _ (vs.toArray.zip vs.toArray).toList;exact yn (by simpa using F)
  refine gV (Kh (Q:=λr s'=>s'=s3/\Good r.2) run (λr s' hr=>?_) (λ_ _ z=>z));obtain⟨rfl,U,j,Um⟩:=hr;obtain⟨u,st'⟩:=r;refine gV (T1 g3 rfl ?_);refine gV (OG g3 rfl ?_ (by simp) (by simp only[Array.size_map];have:=j.length_eq;simp at this;rw[this];lia))
  dsimp only at U;rw[U];simp only[bne_self_eq_false,KH,if_false];refine B1 ?_;have gq:=NV g3 (λ_=>Oz (λx=>x.snd) (Ke st'));have eo:Oz (λx=>x.snd) (Ke st')=((Ke st').toList.map λx=>x.snd).toArray:=by apply Oy.mp;simp
  refine q _ ((Ke st').toList.map λx=>x.snd) _ (λb o L O=>?_) (by rw[gq,eo]) ?_ ?_
  ·rw[L3 _ _ _ _ L];exact keep b o L O
  ·have h8:=j.map (λx:JH=>x.snd);rw[SH (by simp)]at h8
   exact h8
  ·rw[Mv];refine Um.imp_of_mem λ{x y} hx hy hxy=>?_;have mx:=P4 (j.mem_iff.mp hx);have my:=P4 (j.mem_iff.mp hy);unfold dL at hxy;rw[mx.1,my.1,same y.2 (by rw[<-my.1];exact my.2),same x.2 (by rw[<-mx.1];exact mx.2)]at hxy
   exact hxy
 ·rw[if_neg J,if_neg J];have F:2<=vs.length:=by simpa using J
  obtain⟨v0,Hm,Hf⟩:=AK F;obtain⟨kd,Hg,Hh⟩:=DX (prog:=prog) (w:=w) (A:=A) (v:=v0) (vs:=Hm) (by rw[<-Hf];exact Hl) hs hu
  rw[<-Hf]at Hg Hh;refine gV (Hg E _ ?_);have run:JK (JT prog w) A (sortRuns'.run (Ow kd (vs.toArray.zip vs.toArray) #[] 7 Z)) (λr s'=>s'=s3/\Good r.2) E s3:=by
   have ez:(Ke (Ow kd (vs.toArray.zip vs.toArray) #[] 7 Z)).toList=vs.zip vs:=by show(vs.toArray.zip vs.toArray).toList=_;simp
   have h9:wpS (JT prog w) A E s3 sortRuns' (λ_ st'=>Good st') (Ow kd (vs.toArray.zip vs.toArray) #[] 7 Z):=by
    have Hi:(Ke (Ow kd (vs.toArray.zip vs.toArray) #[] 7 Z)).size=vs.length:=by rw[<-Kn,ez];simp
    refine F3 _ _ _ _ _ _ _ _ Hh (Ow kd (vs.toArray.zip vs.toArray) #[] 7 Z) _ rfl rfl rfl (λx hx=>?_) (by rw[Hi];exact F) (by rw[Hi];exact Hj) λst' p1 p2 p3=>⟨p3,by rw[ez]at p1;exact p1,p2⟩
    rw[ez]at hx;exact(P4 hx).2
   exact h9
  refine gV (Kh (Q:=λr s'=>s'=s3/\Good r.2) run (λr s' hr=>?_) (λ_ _ z=>z));obtain⟨rfl,U,j,Um⟩:=hr;obtain⟨u,st'⟩:=r;refine gV (T1 g3 rfl ?_);refine gV (OG g3 rfl ?_ (by simp) (by simp only[Array.size_map];have:=j.length_eq;simp at this;rw[this];lia))
  dsimp only at U;rw[U];simp only[bne_self_eq_false,KH,if_false];refine B1 ?_;have gq:=NV g3 (λ_=>Oz (λx=>x.snd) (Ke st'));have eo:Oz (λx=>x.snd) (Ke st')=((Ke st').toList.map λx=>x.snd).toArray:=by apply Oy.mp;simp
  refine q _ ((Ke st').toList.map λx=>x.snd) _ (λb o L O=>?_) (by rw[gq,eo]) ?_ ?_
  ·rw[L3 _ _ _ _ L];exact keep b o L O
  ·have h8:=j.map (λx:JH=>x.snd);rw[SH (by simp)]at h8
   exact h8
  ·rw[Mv];refine Um.imp_of_mem λ{x y} hx hy hxy=>?_;have mx:=P4 (j.mem_iff.mp hx);have my:=P4 (j.mem_iff.mp hy);unfold dL at hxy;rw[mx.1,my.1,same y.2 (by rw[<-my.1];exact my.2),same x.2 (by rw[<-mx.1];exact mx.2)]at hxy
   exact hxy
theorem tI(u:h6):NB "sorted" ⟨[u],[]⟩=pure ():=by kernel_rfl
theorem vJ{cap:Nat}(F3:ij cap){m:Nat}{u:h6}{ds:List KQ}{C:Heap->List h6->Prop}{Q:h6->i4->Prop}(hu:A.units+m+3<Mj)(hs:pC m ds)(J:∀d∈ds,Pl d)(L:∀(E:h6->i4->Prop) (R:List h6->i4->Prop),(∀(h':Heap) (vs':List h6) (t':Nat),C h' vs'->RdL h' vs' ds->vs'.length<=D2/\vs'.length<=cap->s.toks<=t'->R vs' {s with heap:=h',toks:=t'})->JK (JT prog w) A.in1 (collect u) R E s)(q:∀(h1 h2:Heap) (vs out:List h6) (n' t':Nat),C h1 vs->(∀b o,h1.get? b=S o->h2.get? b=S o)->h2.get? h1.objs.size=S (SG "list" out.toArray n')->out.Perm vs->out.Pairwise (λx y=>ltK (toK (Lx h2 y)) (toK (Lx h2 x))=Up)->RdL h2 out ds->vs.length<=D2->s.toks<=t'->Q (.ref h1.objs.size) {s with heap:=h2,toks:=t'}):
 JK (JT prog w) A (call (.builtin "sorted") [u]) Q E s:=by
 refine Om (Mu plain_sorted entry_sorted (OJ (tI u) ?_));unfold Builtin.sorted;refine gV (OJ (a:=()) (by kernel_rfl) ?_)
 refine gV (L _ _ λh1 vs t' hC hr O ht=>?_);obtain⟨O,U⟩:=O;refine gV (PR ?_ O);refine gV (KO ?_);have Y:RdL (h1.push {cls:=KU "list",data:=OI vs.toArray}) vs ds:=λv F=>by obtain⟨d,hd,as,r⟩:=hr v F;exact⟨d,hd,as,bM (λb o z _=>n6 _ z) (J d hd) r⟩
 have ha:(h1.push {cls:=KU "list",data:=OI vs.toArray}).get? h1.objs.size=S (SG "list" vs.toArray 0):=JW _ rfl;refine Ld slot_list_sort (T:="list") ⟨_,ha,rfl⟩ entry_list_sort ?_ (args_list_sort _);refine AL F3 (m:=m) ha Y hs J O U (by show A.units+1+1+m+1<Mj;lia) λh2 out n' keep g2 j Um=>⟨_,rfl,B1 ?_⟩
 have old:∀b o,h1.get? b=S o->h2.get? b=S o:=λb o z=>keep b o (K6 (JJ z)) (n6 _ z);have Hf:RdL h2 vs ds:=λv F=>by obtain⟨d,hd,as,r⟩:=hr v F;exact⟨d,hd,as,bM (λb o z _=>old b o z) (J d hd) r⟩
 refine q h1 h2 vs out n' t' hC old g2 j ?_ (λv F=>Hf v (j.mem_iff.mp F)) O ht;have same:∀v∈vs,Lx (h1.push {cls:=KU "list",data:=OI vs.toArray}) v=Lx h2 v:=λv F=>by obtain⟨d,hd,as,r⟩:=hr v F;rw[Mo (hs.lay d hd).1 (bM (λb o z _=>old b o z) (J d hd) r),Mo (hs.lay d hd).1 (bM (λb o z _=>n6 _ z) (J d hd) r)]
 refine Um.imp_of_mem λ{x y} hx hy hxy=>?_;rw[same y (j.mem_iff.mp hy),same x (j.mem_iff.mp hx)]at hxy;exact hxy
end
end Srt
namespace It
end It
namespace It
end It
namespace It
end It
section
section
variable{P:JR}{w:K8}{H:Hp}{h:Heap}{a:Uq}{o:HO}
theorem ObjOk.there(x:ObjOk P w H h a o):∃ob,h.get? a=S ob:=by
 cases o with
 |lst xs=>obtain⟨_,_,_,_,e⟩:=x;exact⟨_,e⟩
 |tup xs=>obtain⟨_,_,_,_,e,_⟩:=x;exact⟨_,e⟩
 |dK kvs=>obtain⟨_,_,_,_,o,_,_,e,_⟩:=x;exact⟨_,e⟩
 |dT kvs=>obtain⟨_,_,_,_,o,_,_,e,_⟩:=x;exact⟨_,e⟩
 |set F3 n=>obtain⟨o,_,_,_,e,_⟩:=x;exact⟨_,e⟩
 |ins C dx fs=>obtain⟨_,_,_,e,_⟩:=x;exact⟨_,e⟩
 |own y=>obtain⟨_,e⟩:=x;exact⟨_,e⟩
 |xd fs=>obtain⟨_,⟨_,_,_,e,_⟩,_⟩:=x;exact⟨_,e⟩
 |rng lo hi=>obtain⟨_,_,_,e⟩:=x;exact⟨_,e⟩
 |frz ob u=>obtain⟨e,_⟩:=x;exact⟨_,e⟩
 |tbl ps=>exact⟨_,show h.get? a=S _ from x⟩
 |met f y=>exact⟨_,show h.get? a=S _ from x⟩
 |ext φ=>obtain⟨_,⟨_,e⟩,_⟩:=x;exact⟨_,e⟩
end
noncomputable def lay(H:Hp)(N:Uq->Option HO):Hp:=λb=>match N b with|some o=>S o|none=>H b
section
variable{X:Cx}{pins:List (Uq×Obj)}{σ:List (Option V)}{H:Hp}{s:i4}{h':Heap}{N:Uq->Option HO}
theorem AM{o:HO}(e:N b=S o):lay H N b=S o:=by unfold lay;rw[e]
theorem kl(e:N b=Z):lay H N b=H b:=by unfold lay;rw[e]
theorem Inv.fresh'(I:Inv X pins σ H s)(e:s.heap.get? b=Z):H b=Z:=by
 cases q:H b with
 |none=>rfl
 |some o=>obtain⟨ob,eo⟩:=(I.hok b o q).there;rw[e]at eo;cases eo
theorem Inv.laidN(I:Inv X pins σ H s)(k:∀b u,s.heap.get? b=S u->h'.get? b=S u)(j:∀b o,N b=S o->s.heap.get? b=Z)(new:∀b o,N b=S o->ObjOk X.prog X.w (lay H N) h' b o):Inv X pins σ (lay H N) {s with heap:=h',toks:=t'}:=by
 have old:∀b u,s.heap.get? b=S u->N b=Z:=λb u e=>by
  cases q:N b with
  |none=>rfl
  |some o=>rw[j b o q]at e;cases e
 have oldH:∀b o,H b=S o->lay H N b=S o:=λb o e=>by obtain⟨ob,eo⟩:=(I.hok b o e).there;rw[kl (old b ob eo)];exact e
 refine I.un ⟨λb u q _ _ _=>k b u q,λb u q _ _ _=>⟨u.slots,k b u q⟩,λb u q n _=>by rw[kl (old b u q)];exact n,λb u q _=>⟨u,k b u q⟩,λb xs q=>oldH b _ q,λb u xs q=>oldH b _ q,λb ps q=>⟨#[],by rw[oldH b _ q];simp⟩⟩ λb o e=>?_
 cases q:N b with
 |some o'=>rw[AM q]at e;cases e;exact new b o q
 |none=>rw[kl q]at e;exact(I.hok b o e).stay (λc v _ q=>k c v q) (λc q=>oldH c _ q) λc xs q=>oldH c _ q
end
namespace Mi
open L2.Srt
inductive Sh where
 |int
 |tup (l:List Sh)
mutual
noncomputable def hs:Sh->D->Bool
 |.int,.int _=>Uo
 |.tup l,.tup ds=>hss l ds
 |_,_=>Up
noncomputable def hss:List Sh->List D->Bool
 |[],[]=>Uo
 |s::l,d::ds=>hs s d&&hss l ds
 |_,_=>Up
end
mutual
noncomputable def pd:D->KQ
 |.int i=>.int i
 |.tup ds=>.tuple (pds ds)
 |_=>.none
noncomputable def pds:List D->List KQ
 |[]=>[]
 |d::ds=>pd d::pds ds
end
mutual
noncomputable def dep:Sh->Nat
 |.int=>0
 |.tup l=>deps l+1
noncomputable def deps:List Sh->Nat
 |[]=>0
 |s::l=>max (dep s) (deps l)
end
noncomputable def km:Sh->Bool
 |.int=>Uo
 |.tup (.int::l)=>decide (deps l<=6)
 |.tup (.tup a::l)=>decide (deps (.tup a::l)<=6)
 |.tup []=>Up
noncomputable def kyD(d:D):Ky:=toK (pd d)
theorem tJ{x:D}(h:hs .int x=Uo):∃i,x=.int i:=by cases x<;>first|exact⟨_,rfl⟩|cases h
theorem tK{l:List Sh}{x:D}(h:hs (.tup l) x=Uo):∃ds,x=.tup ds/\hss l ds=Uo:=by cases x<;>first|exact⟨_,rfl,h⟩|cases h
theorem nA{a:List D}(h:hss [] a=Uo):a=[]:=by
 cases a with
 |nil=>rfl
 |cons _ _=>cases h
variable{s:Sh}
theorem nB{l:List Sh}{a:List D}(h:hss (s::l) a=Uo):∃x r,a=x::r/\hs s x=Uo/\hss l r=Uo:=by
 cases a with
 |nil=>cases h
 |cons x r=>exact⟨x,r,rfl,OK.mp h⟩
mutual
theorem vK:∀(s:Sh) (x y:D),hs s x=Uo->hs s y=Uo->Cmpb (pd x) (pd y)
 |.int,_,_,h,g=>by obtain⟨a,rfl⟩:=tJ h;obtain⟨b,rfl⟩:=tJ g;simp only[pd];exact .int a b
 |.tup l,_,_,h,g=>by obtain⟨a,rfl,h⟩:=tK h;obtain⟨b,rfl,g⟩:=tK g;simp only[pd];exact hss_cmp l a b h g
theorem hss_cmp:∀(l:List Sh) (a b:List D),hss l a=Uo->hss l b=Uo->Cmpb (.tuple (pds a)) (.tuple (pds b))
 |[],_,_,h,g=>by cases nA h;cases nA g;simp only[pds];exact .nil _
 |s::l,_,_,h,g=>by obtain⟨x,a,rfl,j⟩:=nB h;clear h;have h:=j;obtain⟨y,b,rfl,z⟩:=nB g;clear g;have g:=z;simp only[pds];exact .cons (vK s x y h.1 g.1) (hss_cmp l a b h.2 g.2)
end
mutual
theorem tL:∀(s:Sh) (x:D),hs s x=Uo->Pl (pd x)/\(pd x).canLay0=Uo/\(pd x).depth<=dep s
 |.int,_,h=>by obtain⟨a,rfl⟩:=tJ h;simp only[pd];exact⟨.int a,rfl,by simp[N5]⟩
 |.tup l,_,h=>by obtain⟨a,rfl,h⟩:=tK h;obtain⟨h1,h2,j⟩:=hss_pl l a h;simp only[pd];exact⟨.tup _ h1,by simpa[Oh]using h2,by simp[N5,dep];lia⟩
theorem hss_pl:∀(l:List Sh) (a:List D),hss l a=Uo->(∀x∈pds a,Pl x)/\L8 (pds a)=Uo/\LY (pds a)<=deps l
 |[],_,h=>by cases nA h;simp[pds,L8,LY]
 |s::l,_,h=>by
  obtain⟨x,a,rfl,j⟩:=nB h;clear h;have h:=j;obtain⟨h1,h2,J⟩:=tL s x h.1;obtain⟨g1,g2,g3⟩:=hss_pl l a h.2;simp only[pds];refine⟨λy F=>?_,by simp[L8,h2,g2],by simp[LY,deps];lia⟩
  rcases JS.mp F with z|z
  ·rw[z];exact h1
  ·exact g1 y z
end
mutual
theorem zw(M:Mem):∀(s:Sh) (x:D) (n:Nat),hs s x=Uo->dep s<=n->rb n M x=S (pd x)
 |.int,_,n,h,_=>by obtain⟨a,rfl⟩:=tJ h;cases n<;>simp[rb,pd]
 |.tup l,_,n,h,hn=>by
  obtain⟨a,rfl,h⟩:=tK h;simp only[dep]at hn;obtain⟨k,rfl⟩:∃k,n=k+1:=⟨n-1,∅⟩
  simp only[rb,pd];rw[hss_rb M l a k h ∅];rfl
theorem hss_rb(M:Mem):∀(l:List Sh) (a:List D) (n:Nat),hss l a=Uo->deps l<=n->aA (rb n M) a=S (pds a)
 |[],_,_,h,_=>by cases nA h;simp[pds,aA]
 |s::l,_,n,h,hn=>by obtain⟨x,a,rfl,j⟩:=nB h;clear h;have h:=j;simp only[deps]at hn;simp only[pds,aA];rw[zw M s x n h.1 ∅,hss_rb M l a n h.2 ∅];rfl
end
theorem pE(h:km s=Uo):dep s<=7:=by
 match s,h with
 |.int,_=>simp[dep]
 |.tup (.int::l),h=>simp[km]at h;simp[dep,deps];lia
 |.tup (.tup a::l),h=>simp only[km,decide_eq_true_eq]at h;simp only[dep];lia
theorem AN(h:km s=Uo){xs:List D}(hx:∀x∈xs,hs s x=Uo):pC 7 (xs.map pd)/\∀d∈xs.map pd,Pl d:=by
 refine⟨⟨?_,?_,?_⟩,?_⟩
 ·intro d hd e he;obtain⟨x,h1,rfl⟩:=KD.mp hd;obtain⟨y,h2,rfl⟩:=KD.mp he;exact vK s x y (hx x h1) (hx y h2)
 ·intro d hd;obtain⟨x,h1,rfl⟩:=KD.mp hd;obtain⟨_,g2,g3⟩:=tL s x (hx x h1);exact⟨g2,by have:=pE h;lia⟩
 ·match s,h with
  |.int,_=>
   left
   intro d hd;obtain⟨x,h1,rfl⟩:=KD.mp hd;have:=hx x h1
   cases x<;>simp[hs]at this
   exact⟨_,rfl⟩
  |.tup (.int::l),_=>
   right;left
   intro d hd;obtain⟨x,h1,rfl⟩:=KD.mp hd;have:=hx x h1
   cases x<;>simp[hs]at this
   rename_i ds
   cases ds with
   |nil=>simp[hss]at this
   |cons y ys=>
    simp[hss]at this
    cases y<;>simp[hs]at this
    exact⟨_,_,rfl⟩
  |.tup (.tup a::l),_=>
   right;right
   intro d hd;obtain⟨x,h1,rfl⟩:=KD.mp hd;have:=hx x h1
   cases x<;>simp[hs]at this
   rename_i ds
   cases ds with
   |nil=>simp[hss]at this
   |cons y ys=>
    simp[hss]at this
    cases y<;>simp[hs]at this
    exact⟨_,_,rfl⟩
 ·intro d hd;obtain⟨x,h1,rfl⟩:=KD.mp hd;exact(tL s x (hx x h1)).1
theorem vL{α β:Type}(f:α->β):∀{l m:List β},l.Perm m->∀{t:List α},t.map f=m->∃t':List α,t'.Perm t/\t'.map f=l:=by
 intro l m h
 induction h with
 |nil=>intro t e;exact⟨[],by rw[List.map_eq_nil_iff.mp e],rfl⟩
 |cons x h ih=>
  intro t e
  cases t with
  |nil=>simp at e
  |cons a t=>simp at e;obtain⟨t',h1,h2⟩:=ih e.2;exact⟨a::t',h1.cons a,by simp[h2,e.1]⟩
 |swap x y l=>
  intro t e
  match t,e with
  |a::b::t,e=>simp at e;exact⟨b::a::t,.swap _ _ _,by simp[e]⟩
 |trans h1 h2 j z=>intro t e;obtain⟨O,p2,F⟩:=z e;obtain⟨t1,J,L⟩:=j F;exact⟨t1,J.trans p2,L⟩
def yo(ys:List D):Prop:=ys.Pairwise λa b=>ltK (kyD b) (kyD a)=Up
theorem rK{K:Frag}{H:Hp}:∀{ds:List D} {vs:List V} {us:List h6},RDs K H ds vs->Vals vs us->∃t:List (D×V×h6),t.map (·.1)=ds/\t.map (·.2.1)=vs/\t.map (·.2.2)=us/\∀p∈t,RD K H p.1 p.2.1/\RelV p.2.1 p.2.2
 |[],vs,us,h,g=>by
  cases RDs.nil_iff.mp h
  cases g
  exact⟨[],rfl,rfl,rfl,λ_ h=>by simp at h⟩
 |d::ds,vs,us,h,g=>by
  obtain⟨v,r,rfl,h1,h2⟩:=TZ.mp h
  cases g with
  |cons g1 g2=>
   rename_i u us;obtain⟨t,j,F,J,L⟩:=rK h2 g2;exact⟨(d,v,u)::t,by simp[j],by simp[F],by simp[J],λp O=>by
    rcases JS.mp O with z|z
    ·rw[z];exact⟨h1,g1⟩
    ·exact L p z⟩
theorem rL{K:Frag}{H:Hp}:∀{t:List (D×V×h6)},(∀p∈t,RD K H p.1 p.2.1/\RelV p.2.1 p.2.2)->RDs K H (t.map (·.1)) (t.map (·.2.1))/\Vals (t.map (·.2.1)) (t.map (·.2.2))
 |[],_=>⟨RDs.nil,.nil⟩
 |p::t,h=>by
  obtain⟨h1,h2⟩:=rL (t:=t) λq j=>h q (by simp[j])
  exact⟨RDs.cons (h p (by simp)).1 h1,.cons (h p (by simp)).2 h2⟩
section
variable{X:Cx}
theorem qS{cap:Nat}(F3:ij cap)(U:X.A.units+16<Mj){pins:List (Uq×Obj)}{s:i4}{σ:St}{H:Hp}{Q:VK}(I:Inv X pins σ H s){M:Mem}(rm:RM X.K M H){es:List D}{sh:Sh}{vs:List V}{p:Uq}(rvs:RDs X.K H es vs)(hok:km sh=Uo)(Y:∀d∈es,hs sh d=Uo)(q:∀p ys,M p=Z->ys.Perm es->yo ys->KE' X.K M H Q (.ref p) (ag M p (.lst ys))){its:List h6}(hv:Vals vs its)(hl:vs.length<=D2)(Hj:vs.length<=cap)(Um:∀(E:h6->i4->Prop) (R:List h6->i4->Prop),(∀(h':Heap) (tk:Nat),(∀b o,s.heap.get? b=S o->h'.get? b=S o)->s.toks<=tk->R its {s with heap:=h',toks:=tk})->JK (JT X.prog X.w) X.A.in1 (collect (.ref p)) R E s):
 JK (JT X.prog X.w) X.A (call (.builtin "sorted") [.ref p]) (EP X pins σ Q) X.xe s:=by
 obtain⟨hS,O⟩:=AN hok Y;have Hm:=pE hok;obtain⟨t,t1,t2,t3,t4⟩:=rK rvs hv;have Hf:∀pp∈t,∃as,Od s.heap pp.2.2 (pd pp.1) as:=λpp j=>by
  have hm:pp.1∈es:=by rw[<-t1];exact Ly j
  exact bU I rm 16 pp.1 (pd pp.1) pp.2.1 pp.2.2 (zw M sh pp.1 16 (Y _ hm) ∅) (t4 pp j).1 (t4 pp j).2
 have Hg:RdL s.heap its (es.map pd):=λu U=>by rw[<-t3]at U;obtain⟨pp,j,rfl⟩:=KD.mp U;obtain⟨as,ra⟩:=Hf pp j;exact⟨pd pp.1,Ly (by rw[<-t1];exact Ly j),as,ra⟩
 refine vJ F3 (m:=7) (ds:=es.map pd) (C:=λh' vs'=>vs'=its/\∀b o,s.heap.get? b=S o->h'.get? b=S o) ∅ hS O (λE R hR=>?_) λh1 h2 vs' out n' tk hC old g2 J Hh Hn Ho ht=>?_
 ·refine Um E R λh' tk kp Hk=>hR h' its tk ⟨rfl,kp⟩ (λu U=>?_) ⟨by rw[<-hv.length];exact hl,by rw[<-hv.length];exact Hj⟩ Hk
  obtain⟨d,hd,as,ra⟩:=Hg u U;exact⟨d,hd,as,bM (λb o e _=>kp b o e) (O d hd) ra⟩
 ·obtain⟨rfl,kp⟩:=hC;rw[<-t3]at J;obtain⟨t',p1,p2⟩:=vL (fun pp:D×V×h6=>pp.2.2) J rfl;have hz:=rL (t:=t') fun pp j=>t4 pp (p1.mem_iff.mp j);have Hi:∀b o,s.heap.get? b=S o->h2.get? b=S o:=fun b o e=>old b o (kp b o e);have z:s.heap.get? h1.objs.size=Z:=by
   cases hq:s.heap.get? h1.objs.size with
   |none=>rfl
   |some o=>exact absurd (JJ (kp _ _ hq)) (Lc _)
  have Hl:=I.fresh' z;have hlen:(t'.map (·.2.1)).length<=D2:=by rw[B2,p1.length_eq,<-B2 (f:=λpp:D×V×h6=>pp.2.1),t2];exact hl
  have I2:=I.laidN (t':=tk) (h':=h2) (N:=λb=>if b=h1.objs.size then S (.lst (t'.map (·.2.1)))else Z) Hi (λb o e=>by
   by_cases F:b=h1.objs.size
   ·rw[F];exact z
   ·rw[if_neg F]at e;cases e) (λb o e=>by
   by_cases F:b=h1.objs.size
   ·subst F;rw[if_pos rfl]at e;cases e;exact⟨hlen,out,n',by rw[<-p2];exact hz.2,g2⟩
   ·rw[if_neg F]at e;cases e)
  have eH:lay H (λb=>if b=h1.objs.size then S (.lst (t'.map (·.2.1)))else Z)=upd H h1.objs.size (.lst (t'.map (·.2.1))):=by
   funext b
   unfold lay upd;dsimp only
   by_cases F:b=h1.objs.size
   ·rw[if_pos F,if_pos F]
   ·rw[if_neg F,if_neg F]
  rw[eH]at I2;refine⟨.ref h1.objs.size,_,I2,rfl,?_⟩;refine fG rm hz.1 (λp' n=>q p' _ n ?_ ?_) Hl
  ·have:=p1.map (λpp:D×V×h6=>pp.1);rw[t1]at this;exact this
  ·unfold yo;rw[Mv];rw[<-p2,Mv]at Hh;refine Hh.imp_of_mem fun {a b} ha F hab=>?_;have rd:∀pp∈t',Lx h2 pp.2.2=pd pp.1:=fun pp j=>by
    have L:=p1.mem_iff.mp j;obtain⟨as,ra⟩:=Hf pp L;have hm:pp.1∈es:=by rw[<-t1];exact Ly L
    exact Mo (hS.lay _ (Ly hm)).1 (bM (λb o e _=>Hi b o e) (O _ (Ly hm)) ra)
   rw[rd a ha,rd b F]at hab;exact hab
end
end Mi
end
namespace Mi
open L2.Srt
def pF(K:Frag)(H:Hp)(kv:D×D)(e:Mm):Prop:=∃kV vV,RD K H kv.1 kV/\RelV kV e.key/\RD K H kv.2 vV/\RelV vV e.val
variable{K:Frag}{H:Hp}
theorem rM{d:D}{k:Key}(h:RKey d k):RD K H d (kV k):=by
 cases d<;>first
  |exact h.elim
  |(cases h;first|exact TV.mpr rfl|exact U1.mpr rfl)
theorem lW{K:Frag}{H:Hp}:∀{ds:List D} {ks:List Key},Kv RKey ds ks->RDs K H ds (ks.map kV)
 |_,_,.nil=>RDs.nil
 |_,_,.cons r t=>RDs.cons (rM r) (lW t)
theorem zx{P:JR}{w:K8}{K:Frag}{H:Hp}:∀{kvs:List (D×D)} {ps:List (Key×V)} {vs:List (Key×h6)} {es:List Mm},Kv (λ(p:D×D) (q:Key×V)=>RKey p.1 q.1/\RD K H p.2 q.2) kvs ps->KV ps vs->Pairs (aH P w) es vs->Kv (pF K H) kvs es
 |_,_,_,_,.nil,.nil,.nil=>.nil
 |_,_,_,_,.cons F t1,.cons J L,.cons h1 h2 t3=>by
  refine .cons ⟨kV _,_,rM F.1,?_,F.2,by rw[h2];exact J.2⟩ (zx t1 L t3)
  rw[<-J.1]at h1
  rcases b7 h1 with⟨i,t,j,z⟩|⟨x,t,j,z⟩
  ·rw[j,z];exact⟨t,rfl⟩
  ·rw[j,z];exact⟨t,rfl⟩
theorem zy{P:JR}{w:K8}{K:Frag}{H:Hp}:∀{kvs:List (D×D)} {ps:List (List Key×V)} {xs:List (List Key×Uq×h6)},Kv (λ(p:D×D) (q:List Key×V)=>RKeys p.1 q.1/\RD K H p.2 q.2) kvs ps->Kv (λ(p:List Key×V) (q:List Key×Uq×h6)=>p.1=q.1/\H q.2.1=S (.tup (p.1.map kV))/\RelV p.2 q.2.2) ps xs->Kv (pF K H) kvs (xs.map (entryOfKey (P6 (aH P w))))
 |_,_,_,.nil,.nil=>.nil
 |kv::_,_,_,.cons z t1,.cons F J=>by
  refine .cons ?_ (zy t1 J);obtain⟨d,v⟩:=kv;have j:=z.1
  cases d<;>first
   |exact j.elim
   |exact⟨.ref _,_,U9 ⟨_,_,rfl,F.2.1,lW j⟩,rfl,z.2,F.2.2⟩
theorem cb{α β:Type}{R:α->β->Prop}:∀{l:List α} {m:List β},Kv R l m->l.length=m.length
 |_,_,.nil=>rfl
 |_,_,.cons _ t=>by simp[cb t]
variable{a:Uq}{kvs:List (D×D)}
section
variable{X:Cx}
theorem Cv{h:Heap}{P:JR}{w:K8}{ps:List (List Key×V)}(ok:ObjOk P w H h a (.dT ps))(pr:Kv (λ(p:D×D) (q:List Key×V)=>RKeys p.1 q.1/\RD K H p.2 q.2) kvs ps):
 ∃cd dd sl es ep,h.get? a=S {cls:=cd,dict:=dd,data:=.dict es ep,slots:=sl}/\es.size<=D2/\Kv (pF K H) kvs es.toList:=by
 obtain⟨L,F,xs,j,o,es,ep,h1,h2,z,J,O⟩:=ok;obtain⟨cd,dd,dat,sl⟩:=o;dsimp only at z;subst z;have pp:=zy (P:=P) (w:=w) pr j;rw[<-J]at pp;refine⟨cd,dd,sl,es,ep,h1,?_,pp⟩;have:=cb pp;have:=cb pr;simp at *;lia
theorem AO{pins:List (Uq×Obj)}{σ:St}{s:i4}{M:Mem}(I:Inv X pins σ H s)(rm:RM X.K M H){t:Bool}(e:M a=S (.dct t kvs)):
 ∃cd dd sl es ep,s.heap.get? a=S {cls:=cd,dict:=dd,data:=.dict es ep,slots:=sl}/\es.size<=D2/\Kv (pF X.K H) kvs es.toList/\IsD H a:=by
 have ro:=rm a _ e
 cases t with
 |false=>obtain⟨ps,j,pr⟩:=ro;obtain⟨O,J,vs,F,o,es,ep,h1,h2,z,U,L,Y⟩:=I.hok a _ j;obtain⟨cd,dd,dat,sl⟩:=o;dsimp only at z;subst z;have pp:=zx pr F L;refine⟨cd,dd,sl,es,ep,h1,?_,pp,.inl ⟨_,Rd.of j⟩⟩;have:=cb pp;have:=cb pr;simp at *;lia
 |true=>obtain⟨ps,j,pr⟩:=ro;obtain⟨cd,dd,sl,es,ep,h1,h2,z⟩:=Cv (I.hok a _ j) pr;exact⟨cd,dd,sl,es,ep,h1,h2,z,.inr ⟨_,Rd.of j⟩⟩
end
section
noncomputable def nC(to tk tx:TEd):TEd:=λρ M Q=>to ρ M λx M1=>∃a t kvs,x=.ref a/\M1 a=S (.dct t kvs)/\tk ρ M1 λk M2=>tx ρ M2 λz M3=>∃t' kvs',M3 a=S (.dct t' kvs')/\eQ t' k=Uo/\Q ((dget kvs' k).getD z) M3
theorem vM{to tk tx:TEd}(h1:af to)(h2:af tk)(F:af tx):af (nC to tk tx):=λρ M Q Q' i q=>h1 _ _ _ _ (λx M1 j=>(by obtain⟨a,t,kvs,e,J,L⟩:=j;exact⟨a,t,kvs,e,J,h2 _ _ _ _ (λk M2 O=>F _ _ _ _ (λz Um j=>(by obtain⟨t',kvs',U,ok,Y⟩:=j;exact⟨t',kvs',U,ok,i _ _ Y⟩)) O) L⟩)) q
section
variable{X:Cx}
theorem vN{M:Mem}(rm:RM K M H){t:Bool}(e:M a=S (.dct t kvs)):IsD H a:=by
 have ro:=rm a _ e
 cases t with
 |false=>obtain⟨ps,j,_⟩:=ro;exact .inl ⟨_,Rd.of j⟩
 |true=>obtain⟨ps,j,_⟩:=ro;exact .inr ⟨_,Rd.of j⟩
theorem AQ{o e f:Expr}{to tk tx:TEd}{apos cpos:Pos}(Um:X.A.units+1<Mj)(mo:af to)(mk:af tk)(mx:af tx)(ho:PE X o (lE X.K to))(he:PE X e (lE X.K tk))(hf:PE X f (lE X.K tx))(m:M2 X o "get" apos e f cpos):
 PE X (.Call (.Attribute o "get" apos) [e,f] [] cpos) (lE X.K (nC to tk tx)):=by
 refine PE.imp (xk Um ho he hf m) λσ H Q h=>?_;obtain⟨ρ,M,rs,rm,q⟩:=h;refine⟨ρ,M,rs,rm,mo _ _ _ _ (λx M1 g9 v H1 x1 j rd1=>?_) q⟩;obtain⟨a,t,kvs,e,e1,q1⟩:=g9;subst e
 cases TX.mp rd1
 have F:=rs.mono (x1.stab rm);refine⟨a,rfl,vN j e1,ρ,M1,F,j,mk _ _ _ _ (λk M2 q2 v2 H2 U J L=>?_) q1⟩;have O:=F.mono (U.stab j);refine⟨ρ,M2,O,J,mx _ _ _ _ (λz M3 g9 v3 H3 Y rm3 rd3=>?_) q2⟩;obtain⟨t',kvs',e3,ok,q3⟩:=g9;obtain⟨w,g,g1,g2⟩:=kb rm3 e3 ok (L.mono (Y.stab J));refine⟨w,g,?_⟩;refine q3 _ H3 (x1.trans (U.trans Y)) rm3 ?_
 cases e4:dget kvs' k with
 |none=>rw[g2 e4];exact rd3
 |some d=>obtain⟨w',e5,r5⟩:=g1 d e4;rw[e5];exact r5
end
end
end Mi
namespace Mi
end Mi
namespace Mi
end Mi
namespace Mi
end Mi
namespace Mi
section
section
variable{K:Frag}{p:Uq}
theorem Paired.len{α β:Type}{R:α->β->Prop}:∀{a:List α} {b:List β},Kv R a b->a.length=b.length
 |_,_,.nil=>rfl
 |_,_,.cons _ t=>by rw[Kq,Kq,Paired.len t]
end
end
end Mi
namespace Dk
variable{it d:Uq}{ep:Nat}{dd:Option Uq}{sl:Array (Option h6)}{es:Array Mm}
section
variable{prog:JR}{w:K8}{A:K2}{E:h6->i4->Prop}{s:i4}
noncomputable def kO(d:Uq)(i n ep:Nat):Obj:={cls:=.type "dict_keyiterator",data:=.fields #[.ref d,.int i 0,.int n 0,.int ep 0]}
theorem slot_next:Slot "dict_keyiterator" "__next__" "dict_keyiterator.__next__":=.of (owner:="dict_keyiterator") (n:="__next__") (by rw[typeLookup_type,QF];kernel_rfl) (by decide +kernel) (by decide +kernel) (by decide +kernel) (.inl (by decide +kernel)) (by rw[QT];kernel_rfl)
theorem jD:entryFor table "dict_keyiterator.__next__"=S MB.«dict_keyiterator.__next__»:=entryFor_of_tree (by kernel_rfl)
theorem lZ(a:h6):argsOk "dict_keyiterator.__next__" ⟨[a],[]⟩:=by unfold argsOk;kernel_rfl
theorem vO(ty:s.TypeIs (.ref it) "dict_keyiterator"){types:List String}{Q:Bool->i4->Prop}(q:Q (types.any λt=>[KU "dict_keyiterator",KU "object"].contains (KU t)) s):JK (model prog w) A (Pj (.ref it) types) Q E s:=by
 have hm:=Rh;unfold Pj
 wp_walk
 exact q
theorem jX{i:Nat}{cd:h6}{e:Mm}{Q:Option h6->i4->Prop}(hi:s.heap.get? it=S (kO d i es.size ep))(hd:s.heap.get? d=S {cls:=cd,dict:=dd,data:=.dict es ep,slots:=sl})(he:es[i]?=S e)(q:∀h',h'.get? it=S (kO d (i+1) es.size ep)->L6 it s.heap h'->Q (S e.key) {s with heap:=h'}):JK (model prog w) A (PN (.ref it)) Q E s:=by
 have ty:s.TypeIs (.ref it) "dict_keyiterator":=⟨_,hi,rfl⟩;unfold PN;refine gV (OE (L9 (name:=i3 "__next__") ty slot_next (Ld slot_next ty jD ?_ (lZ _))));unfold MB.«dict_keyiterator.__next__»;have hm:=Rh
 wp_walk
 dsimp only;rw[if_neg (by simp)]
 simp only[Lh,he];refine gV (Kh (Q:=λn s'=>n=0/\s'=s) ?_ (λn s' hs=>?_) λ_ _ z=>z)
 ·wp_walk
  exact⟨by kernel_rfl,rfl⟩
 obtain⟨rfl,rfl⟩:=hs;refine gV (vO ty ?_);refine gV (LG hi (by simp) λh1 j s1=>?_)
 rw[if_neg (by decide +kernel)]at j
 have j:h1.get? it=S (kO d (i+1) es.size ep):=j;have F:Shared.TypeIs {s' with heap:=h1} (.ref it) "dict_keyiterator":=⟨_,j,rfl⟩
 refine gV (KO ?_);refine gV (vO F ?_);refine QU (by decide +kernel) ?_
 refine B1 (B1 ⟨_,rfl,B1 ?_⟩);exact q h1 j s1
theorem nx_end{cd:h6}{Q:Option h6->i4->Prop}(hn:A.handled=Z)(hi:s.heap.get? it=S (kO d es.size es.size ep))(hd:s.heap.get? d=S {cls:=cd,dict:=dd,data:=.dict es ep,slots:=sl})(q:∀h',(∀b o,b≠it->s.heap.get? b=S o->h'.get? b=S o)->Q Z {s with heap:=h'}):JK (model prog w) A (PN (.ref it)) Q E s:=by
 have ty:s.TypeIs (.ref it) "dict_keyiterator":=⟨_,hi,rfl⟩;unfold PN;refine gV (OE (L9 (name:=i3 "__next__") ty slot_next (Ld slot_next ty jD ?_ (lZ _))));unfold MB.«dict_keyiterator.__next__»;have hm:=Rh
 wp_walk
 dsimp only;rw[if_neg (by simp)]
 have he:es[es.size]?=Z:=Oi (JL _);simp only[Lh,he];refine gV (Kh (Q:=λn s'=>n=0/\s'=s) ?_ (λn s' hs=>?_) λ_ _ z=>z)
 ·wp_walk
  exact⟨by kernel_rfl,rfl⟩
 obtain⟨rfl,rfl⟩:=hs;refine gV (LG hi (by simp) λh1 F s1=>?_)
 refine gV (m:=newExc (.type "StopIteration") []) ?_;simp only[newExc,newTuple];refine gV (LR ?_ (by size_fits))
 refine gV (m:=Pc _ _) (OJ (a:=Kx) (by first|rfl|(simp only[Pc];rfl)) (LR ?_ (by size_fits)))
 simp only[raiseNew];refine gV (wpAny_handled ?_)
 first|rw[show A.in1.handled=Z from hn]|rw[hn]
 refine gV (B1 (wpAny_throw ?_));exact gV (Ov (T:="StopIteration") (b:=Uo) ⟨_,JW _ rfl,rfl⟩ isSubtype_stop (B1 (q _ λb o j e=>n6 _ (n6 _ (s1.extBut b o j e)))))
theorem AR{Q:h6->i4->Prop}(j:(d==KG)=Up)(hd:s.heap.get? d=S {cls:=.type "dict",dict:=dd,data:=.dict es ep,slots:=sl})(q:Q (.ref s.heap.objs.size) {s with heap:=s.heap.push (kO d 0 es.size ep)}):JK (model prog w) A (QK (.ref d)) Q E s:=by
 have ty:s.TypeIs (.ref d) "dict":=⟨_,hd,rfl⟩;refine wpAny_pyIter_slot ty SJ (Ld SJ ty F.entry_dict_iter ?_ (F.args_dict_iter_1 _));unfold MB.«dict.__iter__»
 wp_walk
 exact⟨_,rfl,"dict_keyiterator",_,⟨_,JW _ rfl,rfl⟩,slot_next.lookup,q⟩
theorem walk(hn:A.handled=Z)(it d:Uq)(hne:d≠it)(es:Array Mm)(ep:Nat):
 Walks prog w A it [it,d] [it] es.size (λi v=>∃e,es[i]?=S e/\v=e.key) (λi h=>h.get? it=S (kO d i es.size ep)/\∃cd dd sl,h.get? d=S {cls:=cd,dict:=dd,data:=.dict es ep,slots:=sl}) where
 sub:=λb hb=>by simp at hb;simp[hb]
 frame:=λ_ _ _ st k=>⟨k it (by simp) _ st.1,by obtain⟨cd,dd,sl,h⟩:=st.2;exact⟨cd,dd,sl,k d (by simp) _ h⟩⟩
 item:=λi s Q E hi st q=>by obtain⟨h1,cd,dd,sl,h2⟩:=st;refine jX (e:=es[i]) h1 h2 (KS hi) λh' e' s'=>?_;exact q _ h' s.toks ⟨_,KS hi,rfl⟩ ⟨e',cd,dd,sl,s'.extBut d _ hne h2⟩ λb o hb x=>s'.extBut b o (λz=>hb (by simp[z])) x
 done:=λs Q E st q=>by obtain⟨h1,cd,dd,sl,h2⟩:=st;exact nx_end hn h1 h2 λh' k=>q h' s.toks λb o hb x=>k b o (λz=>hb (by simp[z])) x
 self:=λi s Q E st q=>wpAny_pyIter_keyiter ⟨_,st.1,rfl,rfl⟩ q
theorem vP{Q:Bool->i4->Prop}(ty:s.TypeIs (.ref d) "dict")(q:Q Up s):JK (model prog w) A (P5 (.ref d)) Q E s:=by
 unfold P5;refine gV (wpAny_specialOf ty F.slot_dict_len.lookup ?_);generalize j:("dict.__len__":String)=z
 (fail_if_success (clear j z));wp_delta
 rw[show splitId z=S ("dict","__len__")from by subst j;decide +kernel]
 subst j;refine gV (Ov (b:=Uo) ty (by rw[QT];kernel_rfl) ?_)
 rw[if_neg (by decide)]
 refine QU (by decide +kernel) ?_
 refine gV (Sg ty ?_);exact B1 q
open Builtin.List in
theorem yp(hn:A.handled=Z){F3:Uq}{c:Nat}{R:Result->i4->Prop}(res:h6)(Hf:(d==KG)=Up)(hd:s.heap.get? d=S {cls:=.type "dict",dict:=dd,data:=.dict es ep,slots:=sl})(hS:s.heap.get? F3=S {cls:=.type "list",data:=.seq #[] c})(hz:es.size<=D2)(q:∀(h':Heap) (tk:Nat) (acc':Array h6) (c':Nat),(∀b o,b≠F3->s.heap.get? b=S o->h'.get? b=S o)->h'.get? F3=S {cls:=.type "list",data:=.seq acc' c'}->acc'.toList=es.toList.map (·.key)->s.toks<=tk->R (.ok (.ret res)) {s with heap:=h',toks:=tk}):
 JK (model prog w) A.in1 (listExtendWith (.ref F3) (.ref d) res) (λfin s'=>match fin with|.done f=>R (.ok f) s'|.again c'=>c'.quiet=Uo/\O7 (model prog w) A c' R s') (λe s'=>R (.error e) s') s:=by
 have ty:s.TypeIs (.ref d) "dict":=⟨_,hd,rfl⟩;have L:F3≠d:=λe=>by rw[e,hd]at hS;simp at hS
 have h1:listSameRef (.ref F3) (.ref d)=Up:=by simp[listSameRef,L]
 unfold listExtendWith;refine gV (Sg ty ?_);rw[if_neg (by rw[h1];decide)]
 refine gV (AR Hf hd ?_);refine gV (KO (vP (s:={s with heap:=s.heap.push (kO d 0 es.size ep)}) ⟨_,n6 _ hd,rfl⟩ ?_))
 have J:=JJ hS;have O:=JJ hd;have W:=(walk (prog:=prog) (w:=w) (A:=A.in1) hn s.heap.objs.size d (K6 O) es ep).toS;have Hg:F3∉[s.heap.objs.size,d]:=λhm=>by
  simp only[JS,KL,or_false]at hm
  rcases hm with e|e
  ·exact absurd (e▸J) (Lc _)
  ·exact L e
 refine QU (by decide +kernel) ?_
 refine gV (Me ?_);unfold listTouch;have U:(s.heap.push (kO d 0 es.size ep)).get? F3=S (SG "list" #[] c):=n6 _ hS;refine gV (gV (OG U rfl ?_ (by simp) (by simp)))
 have Y:=NV U (λx=>x.push Kx);refine OG Y rfl ?_ (by simp;decide) (by simp)
 have Hh:=NV Y (λx=>x.pop);have oth:∀b o,b≠F3->s.heap.get? b=S o->(((s.heap.push (kO d 0 es.size ep)).update F3 (MW λx=>x.push Kx)).update F3 (MW λx=>x.pop)).get? b=S o:=λb o Um e=>by rw[L3 _ _ _ _ Um,L3 _ _ _ _ Um];exact n6 _ e
 have hit:(((s.heap.push (kO d 0 es.size ep)).update F3 (MW λx=>x.push Kx)).update F3 (MW λx=>x.pop)).get? s.heap.objs.size=S (kO d 0 es.size ep):=by rw[L3 _ _ _ _ (Mr J),L3 _ _ _ _ (Mr J)];exact JW _ rfl
 refine B1 ⟨plainId_quiet F.plain_extend_loop _,codeAny_extend_loopS W hz _ Hg _ es.size 0 _ _ _ rfl (LM _) ⟨hit,_,_,_,oth d _ L.symm hd⟩ Hh (ItemsOf.nil _) λs' acc c' hm Hi ha=>?_⟩;rw[hm.eq_with];refine q _ _ acc c' (λb o Um e=>?_) Hi ?_ hm.toks
 ·exact hm.heap b o (fun z=>by
   simp only[JS,KL,or_false]at z
   rcases z with z|z
   ·exact Um z
   ·exact absurd (z▸JJ e) (Lc _)) (oth b o Um e)
 ·obtain⟨g1,g2⟩:=ha;apply Of;intro j;rw[K9,KA,K9]
  by_cases hj:j<es.size
  ·obtain⟨e,he,hv⟩:=g2 j (acc[j]'∅) (KS ∅)
   rw[KS ∅,hv,he];rfl
  ·rw[Oi ∅,Oi ∅];rfl
theorem collect_dict(hn:A.handled=Z){Q:List h6->i4->Prop}(j:(d==KG)=Up)(hd:s.heap.get? d=S {cls:=.type "dict",dict:=dd,data:=.dict es ep,slots:=sl})(O:es.size<=D2)(q:∀(h':Heap) (tk:Nat),(∀b o,s.heap.get? b=S o->h'.get? b=S o)->s.toks<=tk->Q (es.toList.map (·.key)) {s with heap:=h',toks:=tk}):JK (model prog w) A (collect (.ref d)) Q E s:=by
 unfold collect;refine gV (wpAny_runValue (codeAny_builtin F.entry_proto_collect ?_));unfold MB.«proto.collect»;dsimp only;refine gV (PR ?_ (by simp))
 refine B1 ⟨Pk _ (by decide +kernel),?_⟩
 refine codeAny_builtin entry_list_iadd' ?_;unfold MB.«list.__iadd__»;refine gV (OJ (a:=(K3 s.heap.objs.size,[K3 d])) (by kernel_rfl) ?_)
 have z:(s.heap.push {cls:=KU "list",data:=OI [].toArray}).get? s.heap.objs.size=S {cls:=KU "list",data:=OI #[] 0}:=JW _ rfl;rw[Around.under_plain (by rfl) (by rfl)]
 refine Kh (yp (s:={s with heap:=s.heap.push {cls:=KU "list",data:=OI [].toArray}}) (R:=λr s'=>r=.ok (.ret (.ref s.heap.objs.size))/\JK (model prog w) A (do
  let o <-load s.heap.objs.size
  match o.data with
  |.seq xs _=>pure xs.toList
  |_=>unsupported "internal:collect") Q E s') hn (K3 s.heap.objs.size) j (n6 _ hd) z O λh' tk acc c' kp J U L=>⟨rfl,?_⟩) (λfn s' h=>?_) (λe s' h=>?_)
 ·refine gV (wpAny_load J ?_);refine B1 ?_;rw[U];exact q h' tk (λb o e=>kp b o (K6 (JJ e)) (n6 _ e)) L
 ·cases fn with
  |done f=>
   obtain⟨e,h⟩:=h
   cases e
   exact h
  |again c'=>refine⟨h.1,MU h.2 λr s1 hr=>?_⟩;obtain⟨rfl,hr⟩:=hr;exact hr
 ·cases h.1
end
end Dk
namespace Mi
open L2.Srt
noncomputable def gK:RAd:=λds M Q=>∃a t kvs sh,ds=[.ref a]/\M a=S (.dct t kvs)/\km sh=Uo/\(∀kv∈kvs,hs sh kv.1=Uo)/\kvs.length<=63/\∀p ys,M p=Z->ys.Perm (kvs.map (·.1))->yo ys->Q (.ref p) (ag M p (.lst ys))
theorem jE:b8 gK:=λ_ _ _ _ h j=>(by obtain⟨a,t,kvs,sh,e,z,F,J,L,q⟩:=j;exact⟨a,t,kvs,sh,e,z,F,J,L,λp ys n O hs=>h _ _ (q p ys n O hs)⟩)
theorem rN{K:Frag}{H:Hp}:∀{kvs:List (D×D)} {es:List Mm},Kv (pF K H) kvs es->∃vs,RDs K H (kvs.map (·.1)) vs/\Vals vs (es.map (·.key))
 |_,_,.nil=>⟨[],RDs.nil,.nil⟩
 |_,_,.cons r t=>by obtain⟨vs,h1,h2⟩:=rN t;obtain⟨kV,vV,g1,g2,_,_⟩:=r;exact⟨kV::vs,RDs.cons g1 h1,.cons g2 h2⟩
section
variable{X:Cx}
theorem pG(U:X.A.units+16<Mj)(Y:X.calm=Uo):CallR X (.builtin "sorted") (lR X.K gK):=by
 intro pins s σ H xs us Q I r h;obtain⟨ds,M,rm,rs,a,t,kvs,sh,rfl,e,hok,j,Um,q⟩:=h;obtain⟨v,rfl,rv⟩:=rs.one;obtain⟨u,rfl,ru⟩:=dC r
 cases TX.mp rv
 cases(show u=K3 a from ru)
 obtain⟨cd,dd,sl,es,ep,hd,hz,z,hD⟩:=AO I rm e;obtain⟨t1,t2,F⟩:=ji I hD;obtain⟨vs,h1,h2⟩:=rN z;have J:cd=.type "dict":=by obtain⟨o,g1,g2⟩:=t1;rw[hd]at g1;cases g1;exact g2
 subst J;have hn:X.A.in1.handled=Z:=I.ok.hd Y;exact qS qR U I rm h1 hok (λd hd=>by obtain⟨kv,L,rfl⟩:=KD.mp hd;exact j kv L) q h2 (by have:=h2.length;rw[B2]at this;simp at this;lia) (by have:=h2.length;rw[B2]at this;have h9:=h1.length;rw[B2]at h9;lia) λE R hR=>Dk.collect_dict hn F hd hz λh' tk kp O=>hR h' tk kp O
end
end Mi
namespace Mi
end Mi
namespace Mi
end Mi
namespace Mi
end Mi
namespace Mi
section
variable{X:Cx}
def dI(M:Mem)(a:Uq)(kvs:List (D×D)):Prop:=(M a=S (.dct Uo kvs)∨M a=S (.fdc kvs))/\∀kv∈kvs,∃i,kv.2=.int i
theorem dI.at{K:Frag}{M:Mem}{H:Hp}{a:Uq}{kvs:List (D×D)}(rm:RM K M H)(h:dI M a kvs):∃ps,Rd H a (.dT ps)/\Kv (λ(p:D×D) (q:List Key×V)=>RKeys p.1 q.1/\RD K H p.2 q.2) kvs ps:=by
 rcases h.1 with e|e
 ·obtain⟨ps,j,pr⟩:=rm a _ e;exact⟨ps,.inl j,pr⟩
 ·obtain⟨o,ps,j,pr⟩:=rm a _ e;exact⟨ps,.inr ⟨o,j⟩,pr⟩
end
section
section
variable{lt:Nat->Nat->Bool}{prog:JR}{w:K8}{A:K2}{R:Result->i4->Prop}{I:Uq}{fp wr:List Uq}{n:Nat}{P:Nat->h6->Prop}{St:Nat->Heap->Prop}{h0:Heap}{F3:Uq}
def Kpt(wr:List Uq)(F3:Uq)(h h':Heap):Prop:=∀b o,b∉wr->b≠F3->h.get? b=S o->h'.get? b=S o
theorem Kpt.trans{wr:List Uq}{F3:Uq}{a b c:Heap}(h:Kpt wr F3 a b)(g:Kpt wr F3 b c):Kpt wr F3 a c:=λx o h1 h2 e=>g x o h1 h2 (h x o h1 h2 e)
end
end
end Mi
section
section
variable{X:Cx}
noncomputable def rO:V->List V->Hp->VK->Prop:=λx vs H Q=>∃(l:Uq) (xs:List V) (i:Int) (y:V),x=.ref l/\vs=[.int i,y]/\H l=S (.lst xs)/\0<=i/\i.toNat<=xs.length/\xs.length<D2/\Q .non (upd H l (.lst (xs.take i.toNat++y::xs.drop i.toNat)))
theorem Uc:∀{xs:List V} {us:List h6} (n:Nat),Vals xs us->Vals (xs.take n) (us.take n)
 |_,_,0,_=>by simp only[List.take_zero];exact .nil
 |_,_,_+1,.nil=>.nil
 |_,_,n+1,.cons r t=>.cons r (Uc n t)
theorem Ud:∀{xs:List V} {us:List h6} (n:Nat),Vals xs us->Vals (xs.drop n) (us.drop n)
 |_,_,0,r=>r
 |_,_,_+1,.nil=>.nil
 |_,_,n+1,.cons _ t=>Ud n t
theorem vQ:MtM X "list.insert" rO:=by
 intro pins s σ H x vs v us Q I rx rv h;obtain⟨l,xs,i,y,rfl,rfl,J,h0,hk,L,q⟩:=h
 cases rx
 obtain⟨u,u2,rfl,ru,j⟩:=mP rv;obtain⟨t,rfl⟩:=ru;obtain⟨z,its,n,r,O,e⟩:=I.lstM J;have hf:¬(!Builtin.List.listFitsIndex i)=Uo:=by
  have:Pm i=Uo:=by unfold Pm;rw[D0]at L;rw[i5];exact⟨decide_eq_true ∅,decide_eq_true ∅⟩
  rw[this];decide
 have hs:its.toArray.size<=D2:=by rw[JN];lia
 have mt:=PySem.AutoSeq1.list_insert_list_int_val_1 l its.toArray n i t u2 hf hs;refine P9 PV ⟨_,e,rfl⟩ PySem.F.entry_list_insert (PySem.F.args_list_insert_3 _ _ _) mt ⟨e,?_⟩;refine⟨.non,_,I.lset (its':=its.take i.toNat++u2::its.drop i.toNat) J e ?_ ((Uc i.toNat r).append (.cons j (Ud i.toNat r))) ?_,rfl,q⟩
 ·have hm:(if i<0 then(i+(its.toArray.size:Int)).toNat else min i.toNat its.toArray.size)=i.toNat:=by
   rw[if_neg ∅,JN];lia
  show(its.toArray.extract 0 (if i<0 then(i+(its.toArray.size:Int)).toNat else min i.toNat its.toArray.size)).push u2++its.toArray.extract (if i<0 then(i+(its.toArray.size:Int)).toNat else min i.toNat its.toArray.size)=_
  rw[hm];apply Array.ext';simp only[List.extract_toArray,List.push_toArray,List.append_toArray];simp[MZ]
 ·rw[JG,Kq,Kf,Ox];lia
end
namespace Mi
noncomputable def im:D->List D->Mem->QD->Prop:=λx ds M Q=>∃(a:Uq) (xs:List D) (i:Int) (y:D),x=.ref a/\ds=[.int i,y]/\M a=S (.lst xs)/\0<=i/\i.toNat<=xs.length/\xs.length<D2/\Q .non (ag M a (.lst (xs.take i.toNat++y::xs.drop i.toNat)))
theorem iH:ju im:=λ_ _ _ _ _ h j=>(by obtain⟨a,xs,k,y,F,J,L,O,z,U,q⟩:=j;exact⟨a,xs,k,y,F,J,L,O,z,U,h _ _ q⟩)
theorem yq{K:Frag}(v:V)(vs:List V)(H:Hp)(Q:VK)(h:lMt K im v vs H Q):rO v vs H Q:=by
 obtain⟨x,ds,M,rm,rx,rs,a,xs,i,y,rfl,rfl,e,j,z,F,q⟩:=h
 cases TX.mp rx
 obtain⟨O,w,rfl,J,rw'⟩:=rs.two
 cases TV.mp J
 obtain⟨us,L,ru⟩:=rm _ _ e;exact⟨a,us,i,w,rfl,rfl,L,j,by rw[ru.length];exact z,by rw[ru.length];exact F,rD rm e ((ru.take i.toNat).append (RDs.cons rw' (ru.drop i.toNat))) (U2.mpr rfl) q⟩
end Mi
end
namespace Mi
section
section
variable{X:Cx}
noncomputable def tM:R2d
 |.int i,y,M,Q=>∃ns:List Int,bv M y=S (ns.map .int)/\Q (.bl (decide (i∈ns))) M
 |_,_,_,_=>False
theorem yr:az tM:=by
 intro x y M Q Q' h q
 cases x<;>first
  |exact q.elim
  |(obtain⟨ns,e,q⟩:=q;exact⟨ns,e,h _ _ q⟩)
theorem iS{i:Int}:∀ns:List Int,inV (.int i) (ns.map V.int)=decide (i∈ns)
 |[]=>by simp[inV]
 |n::ns=>by
  have ih:=iS (i:=i) ns;unfold inV at ih⊢;rw[K7,LJ,ih];show(n==i || decide (i∈ns))=_
  by_cases h:n=i
  ·subst h;simp
  ·rw[show(n==i)=Up by simpa using h]
   simp only[NP,JS];exact decide_eq_decide.mpr ⟨.inr,λz=>z.resolve_left λw=>h w.symm⟩
theorem yt:OpR X (Kb .In) (l2 X.K tM):=by
 refine OpR.of kY λv u H Q h=>?_;obtain⟨x,y,M,rm,rx,ry,q⟩:=h
 cases x<;>first
  |exact q.elim
  |skip
 case int i=>
  obtain⟨ns,e,q⟩:=q;obtain⟨p,vs,rfl,hs,r⟩:=fJ rm ry e;have rv:=r.ints_eq;subst rv
  cases TV.mp rx
  refine⟨p,_,rfl,hs,rfl,?_,?_⟩
  ·simp[cC]
  ·rw[if_neg q7,iS];exact q _ H Ext.refl rm (TY.mpr rfl)
end
end
variable{K:Frag}{H:Hp}
section
section
variable{X:Cx}
def DF(M:Mem)(a:Uq)(t:Bool)(kvs:List (D×D)):Prop:=M a=S (.dct t kvs)∨(t=Uo/\M a=S (.fdc kvs))
noncomputable def iT(neg:Bool):R2d:=λk x M Q=>∃a t kvs,x=.ref a/\DF M a t kvs/\eQ t k=Uo/\Q (.bl (if neg then !(dget kvs k).isSome else(dget kvs k).isSome)) M
theorem pH{neg:Bool}:az (iT neg):=λ_ _ _ _ _ h j=>(by obtain⟨a,t,kvs,z,F,J,q⟩:=j;exact⟨a,t,kvs,z,F,J,h _ _ q⟩)
theorem vR{M:Mem}{a:Uq}{t:Bool}{kvs:List (D×D)}{k:D}{v:V}(rm:RM K M H)(e:DF M a t kvs)(ok:eQ t k=Uo)(rk:RD K H k v):∃o,DGet H a v o/\o.isSome=(dget kvs k).isSome:=by
 have:∃o,DGet H a v o/\(∀d,dget kvs k=S d->∃w,o=S w/\RD K H d w)/\(dget kvs k=Z->o=Z):=by
  rcases e with e|⟨rfl,e⟩
  ·exact kb rm e ok rk
  ·obtain⟨ob,ps,j,pr⟩:=rm a _ e;exact oH (.inr ⟨ob,j⟩) pr ok rk
 obtain⟨o,g,g1,g2⟩:=this;refine⟨o,g,?_⟩
 cases h:dget kvs k with
 |none=>rw[g2 h];rfl
 |some d=>obtain⟨w,rfl,_⟩:=g1 d h;rfl
theorem yu(j:X.A.units+1<Mj):OpR X (Kb .In) (l2 X.K (iT Up)):=by
 intro pins s σ H y x u v Q I ry rx h;obtain⟨dk,dx,M,rm,rk,rd,a,t,kvs,rfl,e,ok,q⟩:=h
 cases TX.mp rd
 cases rx
 obtain⟨o,g,ho⟩:=vR rm e ok rk;exact ES j I g ry λs' I'=>⟨.bl o.isSome,H,I',rfl,by rw[ho];exact q _ H Ext.refl rm (TY.mpr rfl)⟩
theorem vS(j:X.A.units+1<Mj):OpR X (Kb .NotIn) (l2 X.K (iT Uo)):=by
 intro pins s σ H y x u v Q I ry rx h;obtain⟨dk,dx,M,rm,rk,rd,a,t,kvs,rfl,e,ok,q⟩:=h
 cases TX.mp rd
 cases rx
 obtain⟨o,g,ho⟩:=vR rm e ok rk;exact zY j I g ry λs' I'=>⟨.bl (!o.isSome),H,I',rfl,by rw[ho];exact q _ H Ext.refl rm (TY.mpr rfl)⟩
theorem RDs.eraseIdx:∀{ds:List D} {vs:List V} (i:Nat),RDs K H ds vs->RDs K H (ds.eraseIdx i) (vs.eraseIdx i):=by intro ds vs i r;rw[MA,MA];exact(r.take i).append (r.drop (i+1))
end
end
section
section
variable{X:Cx}
theorem RDs.dropLast{ds:List D}{vs:List V}(r:RDs K H ds vs):RDs K H ds.dropLast vs.dropLast:=by rw[QH,QH,r.length];exact r.take _
end
end
end Mi
namespace Mi
end Mi
section
noncomputable abbrev TPd:=St->Hp->(List (V×V)->Hp->Prop)->Prop
def ko(X:Cx)(pos:Pos)(keys:List (Option Expr))(values:List Expr)(T:TPd):Prop:=
 ∀(pins:List (Uq×Obj)) (s:i4) (σ:St) (H:Hp) (Q:List (V×V)->Hp->Prop),Inv X pins σ H s->T σ H Q->
  JK (model X.prog X.w) X.A (evalPairs (pairTrees keys values X.env pos)) (λvs s'=>∃ps H',Inv X pins σ H' s'/\VV ps vs/\Q ps H') X.xe s
noncomputable def Cw(T:TPd):TE:=λσ H Q=>∀p,H p=Z->T σ (upd H p (.dK [])) λps H2=>H2 p=S (.dK [])/\∃kvs:List (Key×V),ps=kvs.map (λkv=>(kV kv.1,kv.2))/\kvs.length<=15/\Q (.ref p) (upd H2 p (.dK (di [] kvs)))
theorem yv{keys:List (Option Expr)}{values:List Expr}{T:TPd}(h:ko X pos keys values T)(j:keys.all (·.isSome)=Uo)(L:keys.length=values.length)(h0:keys≠[])(F:keys.length<=15):PE X (.Dict keys values pos) (Cw T):=by
 intro pins s σ H Q I q;have hn:=I.hok.fresh (JL s.heap.objs.size);have O:=I.laid (a:=s.heap.objs.size) (o:=.dK []) (h':=s.heap.push {cls:=.type "dict",data:=.dict #[]}) (t':=s.toks) (λ_ _ q=>n6 _ q) (JL _) (nX s.heap I.big);refine wpAny_Dict_walk (knd:=aH X.prog X.w) j L h0 F (thn (h pins _ σ _ _ O (q _ hn)) λws s2 U=>?_);obtain⟨ps,H2,J,rel,e,kvs,ep,lk,Y⟩:=U;subst ep;obtain⟨rs,c,rk⟩:=jh (P:=X.prog) (w:=X.w) rel;obtain⟨z,hd,Um,r0,dd⟩:=gX J.hok e
 cases r0
 refine⟨rs,c,dd,λh' dd' hs=>⟨.ref s.heap.objs.size,_,?_,rfl,Y⟩⟩;have hz:(di [] kvs).length<=D2:=by have h1:=gm kvs [];rw[Ln]at h1;rw[D0];lia
 have he:∃q,h'.get? s.heap.objs.size=S q:=let⟨q,_,_,hq,_⟩:=dd'; ⟨q,hq⟩;exact fA J (by rw[e];exact LX) hs he (jg hz hd (rk.merge .nil) dd')
theorem AS{kvs:List (Key×V)}{k:Key}(h:k∉kvs.map (·.1)):bH kvs k v=kvs++[(k,v)]:=by unfold bH;rw[if_neg];intro z;obtain⟨p,j,e⟩:=SK.mp z;exact h (KD.mpr ⟨p,j,of_decide_eq_true e⟩)
theorem md:∀{more kvs:List (Key×V)},((kvs++more).map (·.1)).Nodup->di kvs more=kvs++more
 |[],kvs,_=>by simp[di]
 |p::r,kvs,h=>by
  have h1:p.1∉kvs.map (·.1):=λz=>by rw[JX,K7]at h;exact(List.nodup_append.mp h).2.2 p.1 z p.1 (by simp) rfl
  show di (bH kvs p.1 p.2) r=_;rw[AS h1,md (by rw[JQ];exact h),JQ];rfl
namespace Mi
noncomputable def cH{α:Type}:List (α×α)->List α
 |[]=>[]
 |p::r=>p.1::p.2::cH r
noncomputable def lP(K:Frag)(ta:TAd):TPd:=λσ H Q=>∃ρ M,RS K H σ ρ/\RM K M H/\ta ρ M λds M'=>∀ps H',Ext M H M' H'->RM K M' H'->RDs K H' ds (cH ps)->Q ps H'
section
variable{X:Cx}{pos:Pos}
theorem Cy:ko X pos [] [] (lP X.K bN):=λpins s σ H Q I ⟨ρ,M,rs,rm,q⟩=>A0 pins s σ H Q I (q [] H Ext.refl rm rfl)
theorem AT{k v:Expr}{ks:List (Option Expr)}{vs:List Expr}{tk tv:TEd}{tr:TAd}(mk:af tk)(mv:af tv)(mr:bb tr)(hk:PE X k (lE X.K tk))(hv:PE X v (lE X.K tv))(hr:ko X pos ks vs (lP X.K tr)):
 ko X pos (S k::ks) (v::vs) (lP X.K (aO tk (aO tv tr))):=λpins s σ H Q I ⟨ρ,M,rs,rm,q⟩=>by
 refine pairTrees_cons_walk (thn (hk pins s σ H (λx H1=>lE X.K tv σ H1 λy H2=>lP X.K tr σ H2 λps F=>Q ((x,y)::ps) F) I ?_) λu s1 ⟨x,H1,I1,rx,L⟩=>thn (hv pins s1 σ H1 _ I1 L) λw2 s2 ⟨y,H2,I2,ry,O⟩=>thn (hr pins s2 σ H2 _ I2 O) λws s3 g9=>(by obtain⟨ps,F,I3,rel,U⟩:=g9;exact⟨(x,y)::ps,F,I3,.cons ⟨rx,ry⟩ rel,U⟩))
 refine⟨ρ,M,rs,rm,mk _ _ _ _ (λx M1 L v1 H1 x1 j Y=>?_) q⟩;have J:=rs.mono (x1.stab rm);refine⟨ρ,M1,J,j,mv _ _ _ _ (λy M2 O v2 H2 Um z Hf=>?_) L⟩;refine⟨ρ,M2,J.mono (Um.stab j),z,mr _ _ _ _ (λds M3 U ps F x3 Hg Hh=>?_) O⟩;exact U _ F (x1.trans (Um.trans x3)) Hg (RDs.cons ((Y.mono (Um.stab j)).mono (x3.stab z)) (RDs.cons (Hf.mono (x3.stab z)) Hh))
noncomputable def kvS(p:Str×D):D×D:=(.str p.1,p.2)
noncomputable def nD(ta:TAd):TEd:=λρ M Q=>∀p,M p=Z->ta ρ (ag M p (.dct Up [])) λds M1=>∃kvs:List (Str×D),ds=cH (kvs.map kvS)/\(kvs.map (·.1)).Nodup/\kvs.length<=15/\M1 p=S (.dct Up [])/\Q (.ref p) (ag M1 p (.dct Up (kvs.map kvS)))
theorem vT{ta:TAd}(h:bb ta):af (nD ta):=λρ M Q Q' i q p n=>h _ _ _ _ (λds M1 j=>(by obtain⟨kvs,e,a,b,c,z⟩:=j;exact⟨kvs,e,a,b,c,i _ _ z⟩)) (q p n)
theorem mf{K:Frag}{H:Hp}:∀{kvs:List (Str×D)} {ps:List (V×V)},RDs K H (cH (kvs.map kvS)) (cH ps)->
 ∃qs:List (Key×V),ps=qs.map (λkv=>(kV kv.1,kv.2))/\qs.length=kvs.length/\qs.map (·.1)=kvs.map (λp=>O5 p.1)/\Kv (λ(p:D×D) (q:Key×V)=>RKey p.1 q.1/\RD K H p.2 q.2) (kvs.map kvS) qs
 |[],[],_=>⟨[],rfl,rfl,rfl,.nil⟩
 |[],p::r,h=>by
  have h2:cH (p::r)=[]:=h
  cases h2
 |kv::r,[],h=>by
  obtain⟨v,w,e,_⟩:=(show ∃v r',cH ([]:List (V×V))=v::r'/\_/\_ from h)
  cases e
 |kv::r,p::ps,h=>by
  obtain⟨v,w,e,j,h1⟩:=(show ∃v r',cH (p::ps)=v::r'/\RD K H (.str kv.1) v/\RDs K H (kv.2::cH (r.map kvS)) r' from h);obtain⟨v2,L,z,F,h2⟩:=(show ∃v r',w=v::r'/\RD K H kv.2 v/\RDs K H (cH (r.map kvS)) r' from h1);have e':p.1::p.2::cH ps=v::w:=e;rw[z]at e'
  injection e' with ea eb
  injection eb with eb ec
  rw[<-ec]at h2;obtain⟨qs,f1,f2,J,f4⟩:=mf h2;have ev:p.1=.str kv.1:=by rw[ea];exact U1.mp j
  refine⟨(.inr kv.1,p.2)::qs,?_,by simp[f2],by simp[J],.cons ⟨rfl,by rw[eb];exact F⟩ f4⟩
  rw[f1,K7];congr 1;exact Prod.ext ev rfl
theorem AU{keys:List (Option Expr)}{values:List Expr}{ta:TAd}(ma:bb ta)(h:ko X pos keys values (lP X.K ta))(F:keys.all (·.isSome)=Uo)(Um:keys.length=values.length)(h0:keys≠[])(J:keys.length<=15):
 PE X (.Dict keys values pos) (lE X.K (nD ta)):=by
 refine PE.imp (yv h F Um h0 J) λσ H Q h=>?_;obtain⟨ρ,M,rs,rm,q⟩:=h;intro p n;have x0:Ext M H (ag M p (.dct Up [])) (upd H p (.dK [])):=Ext.lay n;have L:RM X.K (ag M p (.dct Up [])) (upd H p (.dK [])):=rm.lay n ⟨[],ar,.nil⟩;refine⟨ρ,_,rs.mono (x0.stab rm),L,ma _ _ _ _ (λds M1 g9 ps H1 x1 j O=>?_) (q p (rm.out n))⟩;obtain⟨kvs,rfl,nd,Hf,em,q1⟩:=g9;obtain⟨qs,f1,f2,f3,f4⟩:=mf O;obtain⟨zs,hz,pz⟩:=j _ _ em
 cases pz
 refine⟨hz,qs,f1,by omega,?_⟩
 have U:(([]++qs:List (Key×V)).map (·.1)).Nodup:=by
  rw[Ml,f3];have e3:kvs.map (λp=>(O5 p.1:Key))=(kvs.map (·.1)).map O5:=by rw[Mw];rfl
  rw[e3];exact Mv.mpr (nd.imp λh z=>h (O5.inj z))
 rw[md U,Ml];have st:Stab H1 (upd H1 p (.dK qs)):=j.stabPut em;refine q1 _ _ ((x0.trans x1).trans (Ext.put em)) (j.put (o:=.dct Up (kvs.map kvS)) em ⟨qs,ar,?_⟩) (TX.mpr rfl);exact Uh (λ_ _ Y=>⟨Y.1,Y.2.mono st⟩) f4
end
end Mi
end
namespace Mi
open L2.Srt
end Mi
namespace Srt
open AutoSeq1 (wpAny_loadPart')
open MeetsSeq MeetsSeq2 MeetsSeq3
end Srt
namespace Srt
end Srt
namespace Mi
open L2.Srt
end Mi
namespace ST
noncomputable abbrev Tb:=SetTable
noncomputable abbrev Pb:=SetTable.Probe
noncomputable def yw(t:Tb):Nat->Pb->Pb
 |0,p=>p
 |n+1,p=>yw t n (t.advance p)
end ST
namespace ST
noncomputable abbrev Srt(l:List Nat):Prop:=l.Pairwise (· < ·)
noncomputable abbrev En:=Nat×Int×h6
end ST
namespace ST
structure Own(t:Tb)(hs:List Int)(ow:Array (Option Nat))(n:Nat):Prop where
 size:ow.size=t.mask+1
 lt:∀(j i:Nat),ow[j]?=S (S i)->i<n
 one:∀i,i<n->∃j:Nat,ow[j]?=S (S i)
 uniq:∀j j' i:Nat,ow[j]?=S (S i)->ow[j']?=S (S i)->j=j'
 reach:∀(j i:Nat),ow[j]?=S (S i)->∃h m,hs[i]?=S h/\(yw t m (t.probeStart h)).j=j/\∀k,k<m->∃i',ow[(yw t k (t.probeStart h)).j]?=S (S i')
theorem zz:∀{l:List Nat} {n:Nat},l.Nodup->(∀x∈l,x<n)->l.length<=n
 |l,0,_,h=>by
  cases l with
  |nil=>exact JL _
  |cons a l=>exact absurd (h a Ks) (Th _)
 |l,n+1,hn,h=>by
  have ih:=zz (l:=l.erase n) (n:=n) (hn.erase n) λx hx=>by
   have h1:=h x (List.mem_of_mem_erase hx);have h2:x≠n:=λz=>by subst z;exact hn.not_mem_erase hx
   lia
  have:=List.length_erase_le (a:=n) (l:=l)
  by_cases hm:n∈l
  ·rw[List.length_erase_of_mem hm]at ih;lia
  ·rw[List.erase_of_not_mem hm]at ih;lia
theorem Uk{t:Tb}{hs:List Int}{ow:Array (Option Nat)}{n:Nat}(h:Own t hs ow n)(hn:n<=t.mask):∃s,s<=t.mask/\ow[s]?=S Z:=by
 refine Classical.byContradiction λz=>?_;have j:∀s,s<=t.mask->∃i,ow[s]?=S (S i):=λs hs=>by
  have F:s<ow.size:=by rw[h.size];lia
  cases e:ow[s]with
  |none=>exact absurd ⟨s,hs,by simp[F,e]⟩ z
  |some i=>exact⟨i,by simp[F,e]⟩
 have O:=zz (l:=(L4 (t.mask+1)).map λs=>(ow.getD s Z).getD 0) (n:=n) ?_ ?_
 ·simp at O;lia
 ·rw[List.nodup_iff_pairwise_ne,Mv];refine List.pairwise_lt_range.imp_of_mem λ{a b} ha hb hab e=>?_;obtain⟨i,hi⟩:=j a (by have:=Nm.mp ha;lia)
  obtain⟨i',J⟩:=j b (by have:=Nm.mp hb;lia)
  have ea:ow.getD a Z=S i:=by rw[Nk,hi];rfl
  have eb:ow.getD b Z=S i':=by rw[Nk,J];rfl
  rw[ea,eb]at e;have e:i=i':=e;subst e;have:=h.uniq _ _ _ hi J;lia
 ·intro x hx;obtain⟨s,L,rfl⟩:=KD.mp hx;obtain⟨i,hi⟩:=j s (by have:=Nm.mp L;lia)
  have ea:ow.getD s Z=S i:=by rw[Nk,hi];rfl
  rw[ea];exact h.lt _ _ hi
end ST
namespace ST
theorem Own.nil{t:Tb}{hs:List Int}:Own t hs (Ti (t.mask+1) Z) 0:=by
 have e:∀(j i:Nat),(Ti (t.mask+1) (Z:Option Nat))[j]?=S (S i)->False:=λj i e=>by
  rw[Array.getElem?_replicate]at e
  split at e<;>simp at e
 exact⟨Array.size_replicate,λj i h=>(e j i h).elim,λi h=>absurd h (Th _),λj j' i h=>(e j i h).elim,λj i h=>(e j i h).elim⟩
end ST
namespace ST
end ST
namespace ST
end ST
namespace ST
end ST
namespace ST
end ST
namespace ST
end ST
namespace ST
end ST
namespace ST
end ST
namespace ST
theorem rP{α:Type}{next:Nat->Nat}:∀(n k:Nat) (left:List α) (out:Array α),left.length=n->(pickOrder.go next n k left out).toList.Perm (out.toList++left)
 |0,k,left,out,h=>by rw[Kl.mp h,Kw];exact Ph _
 |n+1,k,left,out,h=>by
  have j:next k%left.length<left.length:=Nat.mod_lt _ ∅
  have e:left[next k%left.length]?=S (left[next k%left.length]):=JF j;show(match left[next k%left.length]? with|some x=>_|none=>_:Array α).toList.Perm _
  rw[e];dsimp only;refine(rP n (k+1) _ _ (by rw[List.length_eraseIdx_of_lt j];lia)).trans ?_
  rw[JV,JQ];refine L5 _ ?_;show(left[next k%left.length]::left.eraseIdx _).Perm left;rw[MA];refine SD.symm.trans ?_;rw[<-Le j,Li]
theorem pick_perm{α:Type}{next:Nat->Nat}{xs:Array α}:(pickOrder next xs).toList.Perm xs.toList:=by
 have:=rP (next:=next) xs.size 0 xs.toList #[] (by simp)
 rw[Ml]at this;exact this
section
variable{prog:JR}{w:K8}{A:K2}{E:h6->i4->Prop}{s:i4}
structure Wk(w:K8)(F3:Uq)(es:Array (Int×h6))(ep:Nat)(t:Tb)(U:List h6):Prop where
 fits:t.fits es.size=Uo
 plain:t.plain=Uo
 led:t.led = !w.params.followText "set-order"
 srt:Srt t.place.toList
 text:w.params.followText "set-order"=Uo->U=(pickOrder (w.params.setOrder F3 ep) es).toList.map (·.2)
 tab:w.params.followText "set-order"=Up->U=es.toList.map (·.2)
theorem Wk.len{F3:Uq}{es:Array (Int×h6)}{ep:Nat}{t:Tb}{U:List h6}(h:Wk w F3 es ep t U):U.length=es.size/\U.Perm (es.toList.map (·.2)):=by
 have j:U.Perm (es.toList.map (·.2)):=by
  cases e:w.params.followText "set-order" with
  |true=>rw[h.text e];exact pick_perm.map _
  |false=>rw[h.tab e]
 exact⟨by rw[j.length_eq];simp,j⟩
end
end ST
namespace ST
end ST
namespace ST
end ST
namespace Mi
open L2.Srt
end Mi
section
theorem KT.drop(r:KT H kvs xs)(k:List Key):KT H (bX kvs k) (xs.filter λx=>decide (x.1≠k)):=by
 unfold bX
 induction r with
 |nil=>exact .nil
 |@cons p q ps qs h t ih=>
  obtain⟨h1,h2,j⟩:=h
  by_cases e:p.1=k
  ·rw[MM (by simp[e]),MM (by simp[h1.symm.trans e])];exact ih
  ·rw[MN (by simp[e]),MN (by simpa usingλz=>e (h1.trans z))];exact .cons ⟨h1,h2,j⟩ ih
namespace Mi
section
variable{K:Frag}{H:Hp}{κ:Type}[DecidableEq κ]{RK:D->κ->Prop}
theorem mj(inj:∀{a b:D} {q:κ},RK a q->RK b q->a=b)(fn:∀{a:D} {p q:κ},RK a p->RK a q->p=q){k:D}{q:κ}(hk:RK k q){kvs:List (D×D)}{ps:List (κ×V)}(r:Kv (λp r=>RK p.1 r.1/\RD K H p.2 r.2) kvs ps):
 Kv (λp r=>RK p.1 r.1/\RD K H p.2 r.2) (eP kvs k) (bX ps q):=by
 unfold eP bX
 induction r with
 |nil=>exact .nil
 |@cons p r ps qs h t ih=>
  by_cases e:p.1=k
  ·have e':r.1=q:=by have h1:=h.1;rw[e]at h1;exact fn h1 hk
   rw[MM (by simp[e]),MM (by simp[e'])];exact ih
  ·have e':¬r.1=q:=λz=>e (by have h1:=h.1;rw[z]at h1;exact inj h1 hk)
   rw[MN (by simp[e]),MN (by simp[e'])];exact .cons h ih
end
end Mi
end
section
theorem vU:CallR X (.builtin "len") (λxs H Q=>∃a kvs,xs=[.ref a]/\H a=S (.dK kvs)/\Q (.int kvs.length) H):=by
 intro pins s σ H xs us Q I r h;obtain⟨a,kvs,rfl,e,q⟩:=h;obtain⟨u,rfl,rx⟩:=dC r
 cases rx
 obtain⟨z,hd,vs,rel,dd⟩:=I.hok a _ e;obtain⟨o,es,ep,ho,L,j,O,he,hn⟩:=dd;have hlen:es.size=kvs.length:=by rw[Mb rel,<-Kn];exact he.length
 have J:s.TypeIs (.ref a) "dict":=⟨_,ho,L.1⟩;have mt:MeetsIn X.prog X.w (MB.«dict.__len__» ⟨[.ref a],[]⟩) (λ_ R s=>s.heap.get? a=S o/\R (.ok (.ret (.int kvs.length s.toks))) {s with toks:=s.toks+1}):=.of_wp λA R s ⟨ho,h⟩=>by show JK _ _ (dictSize a>>=_) _ _ s;unfold dictSize;refine gV (gV (PJ ho j (B1 ?_)));show JK _ _ (Builtin.Dict.pendingCount a>>=_) _ _ s;refine gV (wpAny_pendingCount_other hd (wpAny_ret_mkInt ?_));rw[Si,hlen];exact h
 have U:=dY;rw[D0]at z;refine Calls.call_function_entry kind_len plain_len entry_len (args_len1 _) ?_;unfold MB.«len»;refine gV (m:=oneArg "len" _) (B1 ?_);refine gV (m:=callSpecial? (.ref a) (i3 "__len__")) (L9 (name:=i3 "__len__") J Tj (P0 Tj J F.entry_dict_len (F.args_dict_len_1 _) mt ⟨ho,?_⟩));show JK _ _ _ _ _ {s with toks:=s.toks+1}
 refine gV (KO (B1 ?_));refine gV (wpAny_letGo ?_);show JK _ _ (if((kvs.length:Nat):Int)<0 then _ else _) _ _ _
 rw[if_neg (by omega)]
 show JK _ _ (if((kvs.length:Nat):Int)≥2^63 then _ else _) _ _ _
 rw[if_neg (by omega)]
 exact gV (wpAny_mkInt (B1 ⟨_,rfl,⟨.int kvs.length,H,I.tok _,⟨_,rfl⟩,q⟩⟩))
namespace Mi
variable{to tk:TEd}
section
variable{X:Cx}
noncomputable def nE:RAd:=λxs M Q=>∃a kvs,xs=[.ref a]/\M a=S (.dct Up kvs)/\Q (.int kvs.length) M
theorem mn:b8 nE:=λ_ _ _ _ h j=>(by obtain⟨a,kvs,e,l,q⟩:=j;exact⟨a,kvs,e,l,h _ _ q⟩)
theorem qT:CallR X (.builtin "len") (lR X.K nE):=by
 refine CallR.of vU λvs H Q h=>?_;obtain⟨ds,M,rm,rs,a,kvs,rfl,e,q⟩:=h;obtain⟨v,rfl,r⟩:=rs.one
 cases TX.mp r
 obtain⟨ps,j,pr⟩:=rm _ _ e;exact⟨a,ps,rfl,j,by rw[<-Mb pr];exact q _ H Ext.refl rm (TV.mpr rfl)⟩
noncomputable def pI:R2d
 |.str i,y,M,Q=>∃ns:List Str,bv M y=S (ns.map .str)/\Q (.bl (decide (i∈ns))) M
 |_,_,_,_=>False
noncomputable def nF:R2d
 |.int i,y,M,Q=>∃ns:List Int,bv M y=S (ns.map .int)/\Q (.bl (!decide (i∈ns))) M
 |_,_,_,_=>False
theorem yx:az pI:=by
 intro x y M Q Q' h q
 cases x<;>first
  |exact q.elim
  |(obtain⟨ns,e,q⟩:=q;exact⟨ns,e,h _ _ q⟩)
theorem vW:az nF:=by
 intro x y M Q Q' h q
 cases x<;>first
  |exact q.elim
  |(obtain⟨ns,e,q⟩:=q;exact⟨ns,e,h _ _ q⟩)
theorem pJ{i:Str}:∀ns:List Str,inV (.str i) (ns.map V.str)=decide (i∈ns)
 |[]=>by simp[inV]
 |n::ns=>by
  have ih:=pJ (i:=i) ns;unfold inV at ih⊢;rw[K7,LJ,ih];have e:eqV (V.str n) (V.str i)=decide (n=i):=(by simp only[eqV];exact QI n i)
  rw[e]
  by_cases h:n=i
  ·subst h;simp
  ·rw[decide_eq_false h];simp only[NP,JS];exact decide_eq_decide.mpr ⟨.inr,λz=>z.resolve_left λw=>h w.symm⟩
theorem RDs.strs_eq{K:Frag}{H:Hp}:∀{ns:List Str} {vs:List V},RDs K H (ns.map D.str) vs->vs=ns.map V.str
 |[],vs,h=>RDs.nil_iff.mp h
 |n::ns,vs,h=>by obtain⟨v,r,rfl,h1,h2⟩:=TZ.mp h;rw[U1.mp h1,RDs.strs_eq h2];rfl
theorem yz:OpR X (Kb .In) (l2 X.K pI):=by
 refine OpR.of kY λv u H Q h=>?_;obtain⟨x,y,M,rm,rx,ry,q⟩:=h
 cases x<;>first
  |exact q.elim
  |skip
 case str i=>
  obtain⟨ns,e,q⟩:=q;obtain⟨p,vs,rfl,hs,r⟩:=fJ rm ry e;have rv:=r.strs_eq;subst rv
  cases U1.mp rx
  refine⟨p,_,rfl,hs,rfl,?_,?_⟩
  ·simp[cC]
  ·rw[if_neg q7,pJ];exact q _ H Ext.refl rm (TY.mpr rfl)
theorem vX:OpR X (Kb .NotIn) (l2 X.K nF):=by
 refine OpR.of nS λv u H Q h=>?_;obtain⟨x,y,M,rm,rx,ry,q⟩:=h
 cases x<;>first
  |exact q.elim
  |skip
 case int i=>
  obtain⟨ns,e,q⟩:=q;obtain⟨p,vs,rfl,hs,r⟩:=fJ rm ry e;have rv:=r.ints_eq;subst rv
  cases TV.mp rx
  refine⟨p,_,rfl,hs,rfl,?_,?_⟩
  ·simp[cC]
  ·rw[if_pos rfl,iS];exact q _ H Ext.refl rm (TY.mpr rfl)
noncomputable def nG(to tk:TEd):TEd:=λρ M Q=>to ρ M λx M1=>∃a kvs,x=.ref a/\M1 a=S (.dct Up kvs)/\tk ρ M1 λk M2=>∃kvs' d,M2 a=S (.dct Up kvs')/\dG k=Uo/\dget kvs' k=S d/\Q d (ag M2 a (.dct Up (eP kvs' k)))
theorem vY(h1:af to)(h2:af tk):af (nG to tk):=λρ M Q Q' i q=>h1 _ _ _ _ (λx M1 j=>(by obtain⟨a,kvs,e,z,F⟩:=j;exact⟨a,kvs,e,z,h2 _ _ _ _ (λk M2 j=>(by obtain⟨kvs',d,J,ok,g,L⟩:=j;exact⟨kvs',d,J,ok,g,i _ _ L⟩)) F⟩)) q
theorem AV{o e:Expr}{apos cpos:Pos}(mo:af to)(mk:af tk)(ho:PE X o (lE X.K to))(he:PE X e (lE X.K tk))(m:M1 X o "pop" apos e cpos):
 PE X (.Call (.Attribute o "pop" apos) [e] [] cpos) (lE X.K (nG to tk)):=by
 refine PE.imp (xm ho he m) λσ H Q h=>?_;obtain⟨ρ,M,rs,rm,q⟩:=h;refine⟨ρ,M,rs,rm,mo _ _ _ _ (λx M1 g9 v H1 x1 F rd1=>?_) q⟩;obtain⟨a,kvs,e,Y,Um⟩:=g9;subst e
 cases TX.mp rd1
 have L:=rs.mono (x1.stab rm);refine⟨a,rfl,vN F Y,ρ,M1,L,F,mk _ _ _ _ (λk M2 g9 v2 H2 x2 j O=>?_) Um⟩;obtain⟨kvs',d,J,ok,g,q3⟩:=g9;obtain⟨ps,hp,pr⟩:=j _ _ J;obtain⟨kq,hk⟩:=gA ok;obtain⟨g1,g2⟩:=el (RK:=RKey) RKey.inj RKey.fun hk pr;obtain⟨w,gw,rw'⟩:=g1 d g;have st:Stab H2 (upd H2 a (.dK (bX ps kq))):=j.stabPut J;have U:=mj (RK:=RKey) RKey.inj RKey.fun hk pr;exact⟨ps,kq,w,hp,fH hk O,gw,q3 _ _ ((x1.trans x2).trans (Ext.put J)) (j.put (o:=.dct Up (eP kvs' k)) J ⟨_,ar,U0 U λ_ _ z=>⟨z.1,z.2.mono st⟩⟩) (rw'.mono st)⟩
noncomputable def nH(to tk:TEd):TSd:=λD ρ M=>to ρ M λx M1=>tk ρ M1 λk M2=>∃a kvs,x=.ref a/\M2 a=S (.dct Up kvs)/\dG k=Uo/\(dget kvs k).isSome=Uo/\D.nx ρ (ag M2 a (.dct Up (eP kvs k)))
theorem vZ(h1:af to)(h2:af tk):aP (nH to tk):=λa b ρ M i q=>h1 _ _ _ _ (λx M1 j=>h2 _ _ _ _ (λk M2 z=>(by obtain⟨a,kvs,e,F,ok,g,J⟩:=z;exact⟨a,kvs,e,F,ok,g,i.nx _ _ J⟩)) j) q
theorem AW{o i:Expr}{tpos pos:Pos}(mo:af to)(mk:af tk)(ho:PE X o (lE X.K to))(hi:PE X i (lE X.K tk)):PS X (.Delete [.Subscript o i tpos] pos) (lS X.K (nH to tk)):=by
 refine PS.imp (zZ ho hi) λD σ H h=>?_;obtain⟨ρ,M,A,rs,rm,l,q⟩:=h;refine⟨ρ,M,rs,rm,mo _ _ _ _ (λx M1 q1 v H1 x1 F O=>?_) q⟩;have J:=rs.mono (x1.stab rm);refine⟨ρ,M1,J,F,mk _ _ _ _ (λk M2 g9 v2 H2 Um j U=>?_) q1⟩;obtain⟨a,kvs,e,L,ok,g,q2⟩:=g9;subst e
 cases TX.mp O
 obtain⟨ps,hp,pr⟩:=j _ _ L;obtain⟨kq,hk⟩:=gA ok;obtain⟨g1,g2⟩:=el (RK:=RKey) RKey.inj RKey.fun hk pr;obtain⟨d,hd⟩:=Ll.mp g;obtain⟨w,gw,rw'⟩:=g1 d hd;have st:Stab H2 (upd H2 a (.dK (bX ps kq))):=j.stabPut L;have Y:=mj (RK:=RKey) RKey.inj RKey.fun hk pr;refine⟨a,ps,kq,rfl,hp,fH hk U,by rw[gw];rfl,?_⟩
 exact l.nx _ _ _ _ ((x1.trans Um).trans (Ext.put L)) ((J.mono (Um.stab F)).mono st) (j.put (o:=.dct Up (eP kvs k)) L ⟨_,ar,U0 Y λ_ _ z=>⟨z.1,z.2.mono st⟩⟩) q2
end
end Mi
end
namespace It
end It
namespace Mi
end Mi
section
section
variable{X:Cx}
def PF(X:Cx)(es:List Expr)(t:Str->TE):Prop:=
 ∀(acc:Str) (pins:List (Uq×Obj)) (s:i4) (σ:St) (H:Hp) (Q:VK),Inv X pins σ H s->t acc σ H Q->
  Joins (model X.prog X.w) X.A X.xe (evalEach es X.env) acc (λout s1=>out.length<=D2/\EP X pins σ Q (.str out s1.toks) {s1 with toks:=s1.toks+1}) s
noncomputable def DY(acc:Str):TE:=λ_ H Q=>acc.length<=D2/\Q (.str acc) H
noncomputable def DZ(te:TE)(tr:Str->TE)(acc:Str):TE:=λσ H Q=>te σ H λx H1=>∃y,x=.str y/\(acc++y).length<=D2/\tr (acc++y) σ H1 Q
theorem Cz:PF X [] DY:=λacc pins s σ H Q I g9=>(by obtain⟨j,q⟩:=g9;exact⟨j,.str acc,H,I.tok _,⟨_,rfl⟩,q⟩)
theorem kr{e:Expr}{tr:Str->TE}(he:PE X e te)(hr:PF X es tr):PF X (e::es) (DZ te tr):=by intro acc pins s σ H Q I h;refine thn (he pins s σ H _ I h) λv s1 j=>?_;obtain⟨x,H1,z,F,y,hx,J,q⟩:=j;subst hx;obtain⟨t,rfl⟩:=F;exact⟨y,t,rfl,J,hr _ pins s1 σ H1 Q z q⟩
theorem AX{j z:Expr}{t:Str->TE}(h:PF X (j::z::es) t):PE X (.JoinedStr (j::z::es) pos) (t TK):=λpins s σ H Q I q=>wpAny_JoinedStr (h _ pins s σ H Q I q)
noncomputable def EY(te:TE):TE:=λσ H Q=>te σ H λx H1=>(∃y:Str,x=.str y/\y.length<=D2/\Q (.str y) H1)∨∃i:Int,x=.int i/\i.natAbs.log2<1920/\Q (.str (toString i)) H1
theorem CA{e:Expr}(h:PE X e te):PE X (.FormattedValue e (-1) Z pos) (EY te):=by
 intro pins s σ H Q I q;refine wpAny_FormattedValue_plain (thn (h pins s σ H _ I q) λv s1 L=>?_);obtain⟨x,H1,z,J,j⟩:=L
 rcases j with⟨y,rfl,F,j⟩|⟨i,rfl,F,j⟩
 ·obtain⟨t,rfl⟩:=J;exact wpAny_formatField_str ⟨.str y,H1,z,⟨_,rfl⟩,j⟩ ⟨.str y,H1,z.tok _,⟨_,rfl⟩,j⟩ F
 ·obtain⟨t,rfl⟩:=J;exact wpAny_formatField_int F ⟨.str _,H1,z.tok _,⟨_,rfl⟩,j⟩
end
namespace Mi
end Mi
end
namespace En
open Sem (wp)
end En
namespace Mi
end Mi
namespace Mi
open L2.Srt
end Mi
namespace Mi
end Mi
section
section
variable{prog:JR}{w:K8}{A:K2}{E:h6->i4->Prop}{s:i4}{K:Type}[DecidableEq K]{knd:KeyKind prog w K}
theorem mw{es:List Mm}{xs:List (K×h6)}(h:Pairs knd es xs):xs.length=es.length:=h.length.symm
theorem CB{nm:String}{xa:List (K×h6)}{Q:Bool->i4->Prop}(ha:(a==KG)=Up)(hb:(b==KG)=Up)(da:s.heap.DictOf knd a xa)(db:s.heap.DictOf knd b [])(h:Q (xa.length==0) s):
 JK (model prog w) A (Qw nm a b) Q E s:=by
 obtain⟨oa,es,ep,z,_,F,Hf,J⟩:=da;obtain⟨ob,es',ep',L,_,O,Hg,U⟩:=db;have Y:xa.length=es.size:=by rw[mw J.1];simp
 have j:es'.size=0:=by have:=mw U.1;simp at this;simp[<-this]
 rw[Y]at h;unfold Qw Builtin.Dict.showsAll;rw[if_neg (show ¬(a==KG)=Uo by rw[ha];exact q7),if_neg (show ¬(b==KG)=Uo by rw[hb];exact q7)]
 refine gV (B1 (gV (B1 ?_)));refine gV (PJ z F ?_);dsimp only;refine gV (PJ L O ?_)
 by_cases hsz:es.size=es'.size
 case neg=>
  rw[if_pos (by simpa using hsz)]
  have Um:(es.size==0)=Up:=by rw[j]at hsz;simpa using hsz
  rw[Um]at h;exact gV (Me (B1 h))
 case pos=>
  have h':Q Uo s:=by rw[hsz,j]at h;exact h
  rw[if_neg (by rw[hsz];simp)]
  refine gV (wpAny_dictEpoch z F ?_);refine gV ?_;rw[Std.Legacy.Range.forIn_eq_forIn_range'];simp only[Std.Legacy.Range.size,Nat.sub_zero,RA,Nat.div_one];rw[hsz,j];refine B1 ?_;exact B1 h'
theorem E1{xa:List (K×h6)}{Q:h6->i4->Prop}(j:A.units<Mj)(z:(a==KG)=Up)(J:(b==KG)=Up)(da:s.heap.DictOf knd a xa)(db:s.heap.DictOf knd b [])(h:Q (.bool (!(xa.length==0))) s):
 JK (model prog w) A (Kb .NotEq (.ref a) (.ref b)) Q E s:=by
 refine P2 (op:=.NotEq) da.typeIs db.typeIs QV (Ld QV da.typeIs PySem.F.entry_dict_ne ?_ (PySem.F.args_dict_ne_2 _ _)) j;show JK _ _ (Pr "__ne__" ⟨[.ref a,.ref b],[]⟩>>=_) _ _ s;refine gV ?_;unfold Pr;refine gV (wpAny_notOrdered_dict da.typeIs ?_);show JK _ _ (pure (K3 a,K3 b)) _ _ s;refine B1 ?_;refine gV (Ov (T:="dict") db.typeIs PySem.F.sub_dict_dict ?_);simp only[Bool.not_true,KH,if_false];refine gV (B1 (gV (B1 ?_)));refine gV (CB z J da db ?_);refine B1 ⟨_,rfl,?_,?_⟩
 ·exactλx=>nomatch x
 ·simpa using h
end
namespace Mi
section
variable{X:Cx}
noncomputable def tN:R2d:=λx y M Q=>∃a b kvs,x=.ref a/\y=.ref b/\M a=S (.dct Up kvs)/\M b=S (.dct Up [])/\Q (.bl (!(kvs.length==0))) M
theorem yA:az tN:=λ_ _ _ _ _ h j=>(by obtain⟨a,b,ps,z,F,J,L,q⟩:=j;exact⟨a,b,ps,z,F,J,L,h _ _ q⟩)
theorem yB(J:X.A.units+2<Mj):OpR X (Kb .NotEq) (l2 X.K tN):=by
 intro pins s σ H x y v u Q I rx ry h;obtain⟨x',y',M,rm,rdx,rdy,a,b,kvs,rfl,rfl,h1,h2,q⟩:=h
 cases TX.mp rdx
 cases TX.mp rdy
 cases rx
 cases ry
 obtain⟨ps,j,pr⟩:=rm _ _ h1;obtain⟨qs,z,pr'⟩:=rm _ _ h2
 cases pr'
 obtain⟨_,sm,xs,kv,dd⟩:=gX I.hok j;obtain⟨_,sm',ys,kv',dd'⟩:=gX I.hok z
 cases kv'
 have F:xs.length=kvs.length:=by rw[<-Mb kv,<-cb pr]
 refine E1 ∅ sm sm' dd dd' ?_
 rw[F];exact⟨.bl (!(kvs.length==0)),H,I,rfl,q _ H Ext.refl rm (TY.mpr rfl)⟩
end
variable{K:Frag}
section
mutual
noncomputable def GV(K:Frag):D->h6->Prop
 |.int i,v=>∃t,v=.int i t
 |.str x,v=>∃t,v=.str x t
 |.tup ds,v=>∃a o its n,v=.ref a/\K.lookup a=S o/\o.cls=.type "tuple"/\o.data=.seq its n/\its.size<=D2/\fk ds=Up/\GVs K ds its.toList
 |_,_=>False
noncomputable def GVs(K:Frag):List D->List h6->Prop
 |[],us=>us=[]
 |d::ds,us=>∃u r,us=u::r/\GV K d u/\GVs K ds r
end
theorem GV.ints{i:Int}{t}:GV K (.int i) (.int i t):=by unfold GV;exact⟨t,rfl⟩
theorem GV.tups{ds:List D}{a:Uq}{od sl}{its:Array h6}{n:Nat}(h:K.lookup a=S ⟨.type "tuple",od,.seq its n,sl⟩)(j:its.size<=1000)(f:fk ds=Up)(r:GVs K ds its.toList):GV K (.tup ds) (.ref a):=by unfold GV;exact⟨a,_,its,n,rfl,h,rfl,rfl,by rw[D0];lia,f,r⟩
theorem GVs.nil:GVs K [] []:=by unfold GVs;rfl
theorem GVs.cons{K:Frag}{d:D}{ds:List D}{u:h6}{us:List h6}(h:GV K d u)(r:GVs K ds us):GVs K (d::ds) (u::us):=by unfold GVs;exact⟨u,us,rfl,h,r⟩
end
section
noncomputable def ng(kvs:List (NK×D))(k:NK):Option D:=(kvs.find? λp=>decide (p.1=k)).map (·.2)
noncomputable def np(kvs:List (NK×D))(k:NK)(v:D):List (NK×D):=if(ng kvs k).isSome then kvs.map (λp=>if p.1=k then(p.1,v)else p)else kvs++[(k,v)]
end
end Mi
end
namespace Mi
end Mi
variable{mN:Str->Option h6}{fI:Uq}
section
open Sem (wp)
noncomputable abbrev exO(C:Uq)(t:Uq)(dct:Option Uq):Obj:={cls:=.ref C,dict:=dct,data:=.fields #[.ref t,.none,.none,.none,.bool Up,.none]}
noncomputable abbrev tuO(vs:List h6):Obj:={cls:=.type "tuple",data:=.seq vs.toArray}
section
variable{prog:JR}{w:K8}{A:K2}{E:h6->i4->Prop}{h:Heap}{g:Array PZ}{d:Drawn}{t:Nat}{os:Tp}
variable{nm q:Str}{C N:Uq}{bs bm bmB:List h6}{hdct:Bool}{sn:List Str}{sub:List h6}{ab:Bool}{col:Option Bool}{dd:Option Uq}{k0 k1 k2 k3 k5:Option h6}{B newId initId:String}
theorem mL(F:Sj B newId initId bmB)(T:S1 h bmB bm){rest:List h6}{oI:Obj}{Q:Fin->i4->Prop}(z:h.get? C=S (MR nm q C N bs bm hdct sn sub ab col dd k0 k1 k2 k3 k5 newId))(hn:h.Ns N mN)(hi:mN "__init__"=S (.ref fI))(U:h.get? fI=S oI)(Y:oI.cls=.type "function")(hq:JK (model prog w) A (call (.ref fI) (.ref (h.objs.size+1)::rest)) (λr s'=>r=.none/\Q (.done (.ret (.ref (h.objs.size+1)))) s') E ⟨(h.push (tuO rest)).push (exO C h.objs.size Z),g,d,t,os⟩)(j:rest.length<=D2):
 JK (model prog w) A (MB.«type.__call__» ⟨.ref C::rest,[]⟩) Q E ⟨h,g,d,t,os⟩:=by
 repeat (first|with_reducible refine LW z ?_|with_reducible refine wpAny_madeBy_exc z ?_|wp_step)
 refine codeAny_call_builtin_code (Pk _ F.quiet) (wpAny_check_new_subT F T z ?_);refine codeAny_exc_new_subT F T z ?_ j;show JK _ _ _ _ _ _;have J:=n6 (exO C h.objs.size Z) (n6 (tuO rest) z);have L:=n6 (exO C h.objs.size Z) (n6 (tuO rest) U);have Um:((h.push (tuO rest)).push (exO C h.objs.size Z)).Ns N mN:=let⟨o,es,ep,e,r⟩:=hn; ⟨o,es,ep,n6 _ (n6 _ e),r⟩
 have O:((h.push (tuO rest)).push (exO C h.objs.size Z)).get? (h.objs.size+1)=S (exO C h.objs.size Z):=by heap_get
 have Hf:(K3 C::bm).contains (.ref C)=Uo:=by simp
 have T₁:=T.keeps (h':=(h.push (tuO rest)).push (exO C h.objs.size Z)) λb o e=>n6 _ (n6 _ e);unfold Rz
 repeat (first|with_reducible refine LW O ?_|(with_reducible refine OX J ?_;rw[Hf])|wp_step)
 show JK _ _ (Tu (.ref C) _) _ _ _;refine wpAny_typeLookup_tail J Um T₁ F.mroIs F.init.lookup ?_;rw[hi];refine KO (gV ?_);unfold bindSpecial;refine gV (Sg (T:="function") ⟨_,L,Y⟩ ?_);rw[if_pos (by decide)]
 refine B1 (gV (Kh hq (λr s' hr=>?_) λ_ _ x=>x));obtain⟨rfl,hQ⟩:=hr
 wp_walk
 exact hQ
theorem pK(F:Sj B newId initId bmB)(T:S1 h bmB bm){rest:List h6}{oI:Obj}{Q:h6->i4->Prop}(z:h.get? C=S (MR nm q C N bs bm hdct sn sub ab col dd k0 k1 k2 k3 k5 newId))(hn:h.Ns N mN)(hi:mN "__init__"=S (.ref fI))(J:h.get? fI=S oI)(L:oI.cls=.type "function")(O:JK (model prog w) (A.under (.builtin "type.__call__" ⟨.ref C::rest,[]⟩)) (call (.ref fI) (.ref (h.objs.size+1)::rest)) (λr s'=>r=.none/\Q (.ref (h.objs.size+1)) s') E ⟨(h.push (tuO rest)).push (exO C h.objs.size Z),g,d,t,os⟩)(j:rest.length<=D2):
 JK (model prog w) A (call (.ref C) rest) Q E ⟨h,g,d,t,os⟩:=by
 have f1:=tc_lookup;have f2:=tc_bind (.ref C);have U:(⟨h,g,d,t,os⟩:i4).TypeIs (.ref C) "type":=⟨_,z,rfl⟩;refine Om (codeAny_of_tree ?_);show JK _ _ (callAny (.ref C) _) _ _ _
 repeat (any_goals (first|assumption|with_reducible refine LW z ?_|wp_step))
 refine⟨rfl,?_⟩;exact codeAny_call_builtin_at (Pk _ (by decide +kernel)) entry_typeCall (wpAny_check_type_call_sub z (mL F T z hn hi J L O j))
end
section
variable{prog:JR}{w:K8}{A:K2}{E:h6->i4->Prop}{s:i4}{env:Env}
variable{nm q:Str}{C N:Uq}{bs bm bmB:List h6}{hdct:Bool}{sn:List Str}{sub:List h6}{ab:Bool}{col:Option Bool}{dd:Option Uq}{k0 k1 k2 k3 k5:Option h6}{B newId initId:String}
theorem dA {E:h6->i4->Prop}{x:Sem h6}{Q:Flow->i4->Prop}(j:bm.contains (.type "BaseException")=Uo)(J:A.handled=Z)(h:JK M A x (fun v s₁=>∃e t dct,v=.ref e/\s₁.heap.get? C=S (MR nm q C N bs bm hdct sn sub ab col dd k0 k1 k2 k3 k5 newId) /\
   s₁.heap.get? e=S (exO C t dct)/\E (.ref e) s₁) E s):JK M A (raiseStmt env (S x) Z) Q E s:=by
 have z:(K3 C::bm).contains (.type "BaseException")=Uo:=by rw[NY,j,Qs]
 unfold raiseStmt;refine gV (Kh h (λv s₁ h₁=>?_) λ_ _ x=>x);obtain⟨e,t,dct,rfl,F,he,L⟩:=h₁;obtain⟨O,g,d,tk,os⟩:=s₁
 repeat (first|with_reducible refine LW he ?_|with_reducible refine LW F ?_|(with_reducible refine OX F ?_;rw[z])|wp_step)
 exact wpAny_raiseNew_none J L
theorem ku (F:Sj B newId initId bmB){np cpos:Pos}{args:List Expr}{Q:Flow->i4->Prop}(j:bm.contains (.type "BaseException")=Uo)(L:A.handled=Z)(z:(LA cpos (JU args env)).any (·.1)=Up)(hi:mN "__init__"=S (.ref fI))(h:JK (model prog w) A (eval (.Name x np) env) (fun f s₁=>f=.ref C/\JK (model prog w) A (evalArgs (.ref C) Uo (LA cpos (JU args env)) [])
   (fun a s₂=>a.kw=[]/\a.pos.length<=D2/\s₂.heap.get? C=S (MR nm q C N bs bm hdct sn sub ab col dd k0 k1 k2 k3 k5 newId)/\s₂.heap.Ns N mN/\S1 s₂.heap bmB bm/\(∃oI,s₂.heap.get? fI=S oI/\oI.cls=.type "function") /\
     JK (model prog w) (A.under (.builtin "type.__call__" ⟨.ref C::a.pos,[]⟩)) (call (.ref fI) (.ref (s₂.heap.objs.size+1)::a.pos)) (λr s'=>r=.none/\s'.heap.get? C=S (MR nm q C N bs bm hdct sn sub ab col dd k0 k1 k2 k3 k5 newId)/\(∃t dct,s'.heap.get? (s₂.heap.objs.size+1)=S (exO C t dct))/\E (.ref (s₂.heap.objs.size+1)) s') E
      {s₂ with heap:=(s₂.heap.push (tuO a.pos)).push (exO C s₂.heap.objs.size Z)}) E s₁) E s):
 JK (model prog w) A (exec (.Raise (S (.Call (.Name x np) args [] cpos)) Z pos) env) Q E s:=by
 rw[arm_exec_Raise]
 first
  |refine gV (KP (dA (C:=C) (nm:=nm) (q:=q) (N:=N) (bs:=bs) (bm:=bm) (hdct:=hdct) (sn:=sn) (sub:=sub) (ab:=ab) (col:=col) (dd:=dd) (k0:=k0) (k1:=k1) (k2:=k2) (k3:=k3) (k5:=k5) (newId:=newId) j L (gV (Kh (PM (Kh h (λf s₁ h₁=>?_) λ_ _ x=>x)) (λv s₃ J=>gV (KP (B1 J))) λ_ _ x=>x))))
  |(simp only[evalOpt,Option.map];refine gV (KP (dA (C:=C) (nm:=nm) (q:=q) (N:=N) (bs:=bs) (bm:=bm) (hdct:=hdct) (sn:=sn) (sub:=sub) (ab:=ab) (col:=col) (dd:=dd) (k0:=k0) (k1:=k1) (k2:=k2) (k3:=k3) (k5:=k5) (newId:=newId) j L (gV (Kh (PM (Kh h (λf s₁ h₁=>?_) λ_ _ x=>x)) (λv s₃ J=>gV (KP (B1 J))) λ_ _ x=>x)))))
  |(refine gV (KP (dA (C:=C) (nm:=nm) (q:=q) (N:=N) (bs:=bs) (bm:=bm) (hdct:=hdct) (sn:=sn) (sub:=sub) (ab:=ab) (col:=col) (dd:=dd) (k0:=k0) (k1:=k1) (k2:=k2) (k3:=k3) (k5:=k5) (newId:=newId) j L ?_));refine gV (Kh (PM (Kh h (λf s₁ h₁=>?_) λ_ _ x=>x)) (λv s₃ J=>gV (KP (B1 J))) λ_ _ x=>x))
 obtain⟨rfl,h₁⟩:=h₁;unfold callWith;refine gV (KO (Kh h₁ (λa s₂ O=>gV (KP ?_)) λ_ _ x=>x));obtain⟨apos,akw⟩:=a;obtain⟨U,hlen,hC,hn,T,⟨oI,Y,Um⟩,O⟩:=O;obtain rfl:akw=[]:=U;obtain⟨hp,g,d,tk,os⟩:=s₂;simp only[z];refine gV (wpAny_keeperOf_exc hC ?_);refine gV (pK F T hC hn hi Y Um (Kh O (λr s' hr=>?_) λ_ _ x=>x) hlen);obtain⟨rfl,Hf,⟨t,dct,he⟩,hE⟩:=hr;exact⟨rfl,gV (KO (SU (B1 ⟨_,t,dct,rfl,Hf,he,hE⟩)))⟩
end
end
open PySem.W
open Sem (wp)
open Builtin Builtin.ObjectAttr
noncomputable def io:List h6->Bool
 |.ref _::r=>io r
 |l=>l==vbm
theorem qU(self:h6):∀(l:List h6),io l=Uo->refuseLoop self "__setattr__" l=pure ():=by
 intro l
 induction l with
 |nil=>intro e;exact absurd e (by decide)
 |cons v r ih=>
  intro e
  cases v with
  |ref c=>rw[refuseLoop_ref];exact ih e
  |_=>rw[Mn (show((_::r)==vbm)=Uo from e)];exact F.store_ValueError.passes self
theorem yC:∀(l:List h6),io l=Uo->l.contains (.type "object")=Uo/\l.contains (.type "BaseException")=Uo:=by
 intro l
 induction l with
 |nil=>intro e;exact absurd e (by decide)
 |cons v r ih=>
  intro e
  cases v with
  |ref c=>rw[NY,NY,(ih e).1,(ih e).2,Qs,Qs];exact⟨rfl,rfl⟩
  |_=>rw[Mn (show((_::r)==vbm)=Uo from e)];decide
noncomputable def pL(K:Frag)(C:Uq):Bool:=(clsIn K C).any λcd=>io cd.mro&&cd.hasDict
section
variable{prog:JR}{w:K8}{A:K2}{E:h6->i4->Prop}{s:i4}{K:Frag}{x C t0:Uq}{name:Str}{v:h6}
theorem CC(hx:h.get? x=S (exO C t0 Z)):InstAt h x (exO C t0 Z) C Z:=⟨hx,rfl,rfl,trivial⟩
theorem AY{Q:Unit->i4->Prop}(X:K.In s.heap)(hx:s.heap.get? x=S (exO C t0 Z))(hs:findIn K (.ref C) "__setattr__"=S (S (.builtin "object.__setattr__")))(hp:pL K C=Uo)(ht:findIn K (.ref C) name=S Z)(h_:∀h' tk',h'.get? x=S (exO C t0 (S s.heap.objs.size))->h'.Ns1 s.heap.objs.size (λy=>if y=name then S v else Z)->(∀b o,b≠x->s.heap.get? b=S o->h'.get? b=S o)->Q () {s with heap:=h',toks:=tk'}):
 JK (model prog w) A (setAttr (.ref x) name v) Q E s:=by
 have SF:=F.store_ValueError;have I:=CC hx;obtain⟨cd,O,ho⟩:=any_some hp;rw[i5]at ho;have ne:cd.mro.isEmpty=Up:=by cases q:cd.mro with|nil=>rw[q]at ho;exact absurd ho.1 (by decide)|cons _ _=>rfl
 have sub:Looks (model prog w) s.heap (Rz (.ref x) (.type "object")) Uo:=I.type.andThen (looks_mroIn X (by unfold mroIn;rw[O,KN,if_neg (by rw[ne];decide),(yC _ ho.1).1]))
 refine set_plain X I hs ?_;have j:Looks (model prog w) {s with toks:=s.toks+1}.heap (Rz (.ref x) (.type "object")) Uo:=sub
 refine Mu SF.slot.plain SF.entry (@check_slot (model prog w) _ _ {s with toks:=s.toks+1} "object.__setattr__" "object" "__setattr__" (.ref x) [.str name s.toks,v] [] _ SF.kind SF.split j (SF.args (.ref x) (.str name s.toks) v) ?_)
 have hm:Looks (model prog w) s.heap (mroOf (.ref C)) cd.mro:=(looks_clsIn X O).andThen .now;rw[osa_eq,refuse_eq];have I1:InstAt {s with toks:=s.toks+1}.heap x (exO C t0 Z) C Z:=I
 refine gV (gV (I1.type.here (gV (Looks.here (s:={s with toks:=s.toks+1}) hm ?_))))
 rw[qU _ _ ho.1];refine B1 (gV (I1.type.here (gV (Looks.here (s:={s with toks:=s.toks+1}) (looks_findIn X ht) (gV ?_)))))
 refine B1 ?_;obtain⟨h,g,d,t,os⟩:=s;refine gV (B1 (gV (gV (wpAny_loadPart hx (gV (Looks.at (looks_clsIn X O) ?_))))));rw[ho.2];have z:(h.push {cls:=.type "dict",data:=.dict #[]}).get? x=S (exO C t0 Z):=n6 _ hx;have J:x≠h.objs.size:=K6 (JJ hx);refine gV (wpAny_alloc' ?_);refine gV (wpAny_update' z ?_);refine B1 ?_;have U:((h.push {cls:=.type "dict",data:=.dict #[]}).update x λo=>{cls:=o.cls,dict:=S h.objs.size,data:=o.data,slots:=o.slots}).get? h.objs.size
  = S {cls:=.type "dict",data:=.dict #[]}:=(L3 _ _ _ _ J.symm).trans (Heap.get?_push_at rfl rfl)
 have Y:((h.push {cls:=.type "dict",data:=.dict #[]}).update x λo=>{cls:=o.cls,dict:=S h.objs.size,data:=o.data,slots:=o.slots}).Ns h.objs.size (λ_=>Z):=⟨_,#[],_,U,rfl,λe he=>absurd he (by simp),λ_=>rfl⟩
 show JK _ _ (storeInDict h.objs.size (.str name t) name v) _ _ _;unfold storeInDict newKeyGuard;refine gV (B1 (gV (wpAny_nsSet1 (Heap.Ns1.of_empty Y) λh' L hs=>?_)));obtain⟨oD,esD,epD,Um,Hf,Hg⟩:=L.count (Within.cons name v Within.nil);refine gV (wpAny_lookBehind Um (by rw[Hf];exact pastItsLine_dict (Ka Hg (by rw[Kq,Ln,D0];omega))) ?_)
 refine B1 ?_;refine h_ h' _ ?_ L λb ob Hh hb=>?_
 ·refine(hs.2 x J).trans (Kr _ z rfl)
 ·exact(hs.2 b (K6 (JJ hb))).trans ((L3 _ _ _ _ Hh).trans (n6 _ hb))
end
end L2

namespace L2
open PySem PySem.Spec PyProof.Rows
open PySem.W
def exAt(C e:Uq)(h:Heap):Prop:=∃t,h.get? e=S (exO C t Z)
def exAd(C e dx:Uq)(h:Heap):Prop:=∃t,h.get? e=S (exO C t (S dx))
theorem tO{K:Frag}{h:Heap}{N:Uq}{mg:Str->Option h6}{n:Str}{v:h6}(X:K.In h)(G:h.Ns N mg)(e:nsIn K N n=S (S v)):mg n=S v:=by
 obtain⟨o,es,ep,ho,hd,_,hf⟩:=G;unfold nsIn at e
 split at e
 ·rename_i c d es' n' sl q;have:=X _ _ q;rw[ho]at this
  cases this
  cases hd
  split at e
  ·rename_i en he
   cases e
   rw[<-hf];unfold nsFind findBy;rw[<-Rt,he];rfl
  ·split at e<;>cases e
 ·cases e
noncomputable def jF(K:Frag)(C:Uq)(bmB:List h6)(newId:String)(fI:Uq):Bool:=match K.lookup C with
 | some ⟨.type "type",_,.cls cd,sl⟩=>(match cd.mro,sl.toList with
   |.ref C'::bm,[_,_,_,_,S (.builtin n),_]=>C'==C&&n==newId && !cd.hasDel&&tailIn K bmB bm&&nsOkIn K cd.ns&&nsIn K cd.ns "__init__"==S (S (.ref fI))
   |_,_=>Up)
 |_=>Up
theorem pM{K:Frag}{h:Heap}{C fI:Uq}{bmB:List h6}{newId:String}(X:K.In h)(q:jF K C bmB newId fI=Uo):∃bm N nm qn bs hd sn sub ab col dd k0 k1 k2 k3 k5 mN,
 h.get? C=S (MR nm qn C N bs bm hd sn sub ab col dd k0 k1 k2 k3 k5 newId)/\h.Ns N mN/\mN "__init__"=S (.ref fI)/\S1 h bmB bm:=by
 unfold jF at q
 split at q
 ·next dd cd sl ho=>
  split at q
  ·next C' bm k0 k1 k2 k3 n k5 hm hs=>
   simp only[i5,beq_iff_eq,Km]at q;obtain⟨⟨⟨⟨⟨rfl,rfl⟩,j⟩,F⟩,hok⟩,z⟩:=q
   cases cd
   cases sl
   dsimp only at hm j hok z hs;subst hm j hs;exact⟨bm,_,_,_,_,_,_,_,_,_,dd,k0,k1,k2,k3,k5,_,X _ _ ho,.of_isNs (Pa X hok),tO X (.of_isNs (Pa X hok)) z,Rx X F⟩
  ·cases q
 ·cases q
section
variable{prog:JR}{w:K8}{A:K2}{E:h6->i4->Prop}{h:Heap}{g:Array PZ}{d:Drawn}{t:Nat}{os:Tp}
variable{nm q:Str}{C N:Uq}{bs bm:List h6}{hdct:Bool}{sn:List Str}{sub:List h6}{ab:Bool}{col:Option Bool}{dd:Option Uq}{k0 k1 k2 k3 k5:Option h6}
theorem w5{e t0:Uq}{rest:List h6}{Q:h6->i4->Prop}(z:h.get? C=S (MR nm q C N bs bm hdct sn sub ab col dd k0 k1 k2 k3 k5 "ValueError.__new__"))(T:S1 h vbm bm)(he:h.get? e=S (exO C t0 Z))(J:∀h',h.objs.size<=h'.objs.size->(∀b o,b≠e->h.get? b=S o->h'.get? b=S o)->exAt C e h'->Q .none ⟨h',g,d,t,os⟩)(j:rest.length<=D2):JK (model prog w) A (call (.builtin "ValueError.__init__") (.ref e::rest)) Q E ⟨h,g,d,t,os⟩:=by
 refine Om (Mu F.excBase_ValueError.init.plain F.excBase_ValueError.initEntry (wpAny_check_init_subT QW T z he rfl ?_))
 wp_walk
 have hs:e≠h.objs.size:=K6 (JJ he);refine J _ ?_ (λb o L ho=>?_) ⟨h.objs.size,?_⟩
 ·rw[NA,LN];exact Py _
 ·rw[Ko _ _ (Ne.symm L)];exact n6 _ ho
 ·rw[Kr _ (n6 _ he) rfl];rfl
end
end L2

namespace L2
open PySem PySem.Spec PyProof.Rows
open PySem.W
structure kx(K:Frag)(C D fI:Uq)(fld:Str):Prop where
 ex:jF K C vbm "ValueError.__new__" fI=Uo
 sa:findIn K (.ref C) "__setattr__"=S (S (.builtin "object.__setattr__"))
 ov:pL K C=Uo
 na:findIn K (.ref C) fld=S Z
 dg:specialIn K (.ref D) "__getattribute__"=S (S (.builtin "type.__getattribute__"))
 dr:readsIn K D (.type "type")=Uo
 df:findCls K (.ref D) (.type "type") "__init__"=S (.val (.builtin "ValueError.__init__"))
 fo:((K.lookup fI).any λo=>o.cls==.type "function")=Uo
theorem exAt.ext{P:JR}{w:K8}{H:Hp}{h:Heap}{C e:Uq}(x:exAt C e h):ObjOk P w H h e (.ext (exAt C e)):=⟨x,⟨_,x.choose_spec⟩,λh1 h2 q k=>⟨q.choose,k _ q.choose_spec⟩⟩
theorem exAd.ext{P:JR}{w:K8}{H:Hp}{h:Heap}{C e dx:Uq}(x:exAd C e dx h):ObjOk P w H h e (.ext (exAd C e dx)):=⟨x,⟨_,x.choose_spec⟩,λh1 h2 q k=>⟨q.choose,k _ q.choose_spec⟩⟩
section
variable{X:Cx}{C D fI:Uq}{fld:Str}
theorem yD {xD:Str}{a1 J:Expr}{t:TA}{j apos cpos epos:Pos}(Um:kx X.K C D fI fld)(hg:Gl X xD)(hm:X.mg xD=S (.ref D))(ha:PA X [a1,J] t)(F:(xD==("__debug__":Str))=Up)(he:JU [a1,J] X.env=(Up,eval a1 X.env)::JU [J] X.env)(L:(LA cpos (JU [J] X.env)).any (·.1)=Up)(O:LD (.Call (.Attribute (.Name xD j) "__init__" apos) [a1,J] [] cpos) Z epos.line X.env=pure Up){pl:Sem Bool}(ht:eval (.Call (.Attribute (.Name xD j) "__init__" apos) [a1,J] [] cpos) X.env=(do
   let ov <-eval (.Name xD j) X.env
   O6 apos.atName
   let(f,first) <-holding [ov] (getMethod ov "__init__" pl)
   callWith cpos f first (LA cpos (JU [a1,J] X.env)) (Q4 cpos (O3 [] X.env)))):
 PS X (.Expr (.Call (.Attribute (.Name xD j) "__init__" apos) [a1,J] [] cpos) epos)
  (λDD σ H=>t σ H λvs H1=>∃e y,vs=[.ref e,.str y]/\H1 e=S (.ext (exAt C e))/\DD.nx σ H1):=by
 intro pins s σ H DD I h;refine QJ ?_ I.quiet O;refine PySem.W.methodCall_KW (pl:=pl) (cO I hg hm ?_ F) ht
 ·refine method_cls I.kIn Um.dg (cls_value I.kIn Um.dr Um.df (by decide +kernel) ?_)
  refine Oo (thn (ha cpos pins _ σ H _ (I.tok _) h) λus s1 g9=>?_) he L;obtain⟨vs,H1,U,r,e,y,hv,Y,q⟩:=g9;subst hv
  cases r with
  |cons r1 r=>
  cases r with
  |cons r2 r=>
  cases r
  cases r1
  obtain⟨t',rfl⟩:=r2;obtain⟨bm,N,nm,qn,bs,hd,sn,sub,ab,col,dd,k0,k1,k2,k3,k5,mN,hC,hN,Hg,hT⟩:=pM U.kIn Um.ex;obtain⟨⟨t0,Hf⟩,_,_⟩:=(show ObjOk X.prog X.w H1 s1.heap e (.ext (exAt C e))from U.hok e _ Y);obtain⟨hh,g,d,tk,os⟩:=s1;refine w5 hC hT Hf (λh' sz kp ex=>?_) (show 1<=D2 by decide)
  have I2:=U.write (x:=e) (e:=e) (o:=.ext (exAt C e)) (h':=h') (t':=tk) (by rw[Y];trivial) (.inl rfl) kp ⟨_,ex.choose_spec⟩ ex.ext
  have eH:upd H1 e (.ext (exAt C e))=H1:=by
   funext b
   unfold upd
   by_cases z:b=e
   ·rw[if_pos z,z,Y]
   ·rw[if_neg z]
  rw[eH]at I2;exact⟨σ,H1,I2,q⟩
theorem yE{o value:Expr}{ta tv:TE}{pos pos':Pos}(Um:kx X.K C D fI fld)(L:PE X o ta)(O:PE X value tv)(hs:LD value (S (.Attribute o fld pos')) pos.line X.env=pure Up):
 PS X (.Assign [.Attribute o fld pos'] value pos) (λDD σ H=>tv σ H λy H1=>ta σ H1 λx H2=>∃e,x=.ref e/\H2 e=S (.ext (exAt C e)) /\
  ∀dx,H2 dx=Z->dx≠e->DD.nx σ (upd (upd H2 e (.ext (exAd C e dx))) dx (.xd [(fld,y)]))):=by
 intro pins s σ H D I h;refine plainObj_wpAny_Assign_Attribute (thn (O pins s σ H _ I h) λu s1 ⟨y,H1,U,ry,q⟩=>thn (L pins s1 σ H1 _ U q) λov s2 g9=>?_) hs;obtain⟨x,H2,F,rx,e,ex,J,Y⟩:=g9;subst ex;obtain rfl:ov=K3 e:=rx;obtain⟨⟨t0,j⟩,_,_⟩:=(show ObjOk X.prog X.w H2 s2.heap e (.ext (exAt C e))from F.hok e _ J);refine AY F.kIn j Um.sa Um.ov Um.na λh' tk' hx hn kp=>?_;have lt:e<s2.heap.objs.size:=JJ j;have ne:s2.heap.objs.size≠e:=Mr lt;have I3:=F.write (x:=e) (e:=e) (o:=.ext (exAd C e s2.heap.objs.size)) (h':=s2.heap.update e λob=>{ob with dict:=S s2.heap.objs.size}) (t':=tk') (by rw[J];trivial) (.inl rfl)
  (λb u z q=>(Ko _ _ (Ne.symm z)).trans q) ⟨_,Kr _ j rfl⟩ (exAd.ext ⟨t0,Kr _ j rfl⟩)
 have I4:=I3.laid (a:=s2.heap.objs.size) (o:=.xd [(fld,y)]) (h':=h') (t':=tk') (λb u q=>?_) (by rw[NA];exact JL _) ⟨_,hn,λf=>?_⟩
 ·exact⟨σ,_,I4,Y _ (F.hok.fresh (JL _)) ne⟩
 ·by_cases z:b=e
  ·subst z;have q':(s2.heap.update b λob=>{ob with dict:=S s2.heap.objs.size}).get? b=S u:=q
   rw[Kr _ j rfl]at q'
   cases q'
   exact hx
  ·exact kp b u z ((Ko _ _ (Ne.symm z)).symm.trans q)
 ·rw[Lr]
  by_cases z:f=fld
  ·subst z;rw[beq_self_eq_true,if_pos rfl];exact ry
  ·rw[beq_false_of_ne z,if_neg z];trivial
end
noncomputable def spI(C:Uq)(fld a b:Str):Sp:=λvs H Q E=>∃e n,vs=[.ref e,.int n]/\H e=S (.ext (exAt C e))/\0<=n/\n<=1000/\a.length+b.length<=100 /\
 ∀dx,H dx=Z->dx≠e->Q .non (upd (upd H e (.ext (exAd C e dx))) dx (.xd [(fld,.int n)]))
theorem w6{n:Int}(h0:0<=n)(h1:n<=1000):(i3 (toString n)).length<=4/\n.natAbs.log2<1920:=by
 have z:∀m:Fin 1001,(i3 (toString ((m.val:Nat):Int))).length<=4:=by decide +kernel
 obtain⟨m,rfl⟩:=Int.eq_ofNat_of_zero_le h0;refine⟨z ⟨m,by omega⟩,?_⟩
 have:m<2^10:=by omega
 have hm:((m:Int)).natAbs=m:=Int.natAbs_natCast m;rw[hm]
 by_cases h:m=0
 ·subst h;decide
 ·exact RY ((Nat.log2_lt h).mpr this) (by decide)
section
variable{P:JR}{w:K8}{K:Frag}{mg:Str->Option h6}{base:Heap}{C D fI:Uq}{fld:Str}
theorem AZ {qual slf row a b xD:Str}{st:Stmt}{fd:LB}{k kc kd:Nat}{z J apos cpos epos qa qb qc qd qe r0 r1 pos' pos:Pos}(F:Fun K "__init__" qual st fI fd)(F3:cQ [slf,row] [slf,row] (al st))(Um:kx K C D fI fld)(j:bE st=[.Expr (.Call (.Attribute (.Name xD z) "__init__" apos) [.Name slf J,.JoinedStr [.Constant (.str a) kc qa,.FormattedValue (.Name row qb) (-1) Z qc,.Constant (.str b) kd qd] qe] [] cpos) epos,.Assign [.Attribute (.Name slf r0) fld pos'] (.Name row r1) pos])(hg:(al st).names.lookup xD=S .globalImplicit)(hm:mg xD=S (.ref D))(L:(xD==("__debug__":Str))=Up)(d1:(slf==("__debug__":Str))=Up)(d2:(row==("__debug__":Str))=Up)(c1:(slf==("__classdict__":Str))=Up)(c2:(row==("__classdict__":Str))=Up)(v1:(al st).names.lookup slf=S .local)(v2:(al st).names.lookup row=S .local){pl:Env->Sem Bool}(O:∀env,LD (.Call (.Attribute (.Name xD z) "__init__" apos) [.Name slf J,.JoinedStr [.Constant (.str a) kc qa,.FormattedValue (.Name row qb) (-1) Z qc,.Constant (.str b) kd qd] qe] [] cpos) Z epos.line env=pure Up)(hs:∀env,LD (.Name row r1) (S (.Attribute (.Name slf r0) fld pos')) pos.line env=pure Up)(ht:∀env,eval (.Call (.Attribute (.Name xD z) "__init__" apos) [.Name slf J,.JoinedStr [.Constant (.str a) kc qa,.FormattedValue (.Name row qb) (-1) Z qc,.Constant (.str b) kd qd] qe] [] cpos) env=(do
   let ov <-eval (.Name xD z) env
   O6 apos.atName
   let(f,first) <-holding [ov] (getMethod ov "__init__" (pl env))
   callWith cpos f first (LA cpos (JU [.Name slf J,.JoinedStr [.Constant (.str a) kc qa,.FormattedValue (.Name row qb) (-1) Z qc,.Constant (.str b) kd qd] qe] env)) (Q4 cpos (O3 [] env)))):
 bF P w K mg base CX0 (k+1) fI fd [slf,row] (spI C fld a b):=by
 refine F.ok F3 (λvs H Q E h=>?_) λcdv A outer s H vs Q E hr h=>?_
 ·obtain⟨e,n,rfl,_⟩:=h;rfl
 ·obtain⟨e,n,rfl,he,h0,h1,hl,q⟩:=h;rw[j];have n1:∀pos,PE (cu CX0 P w K mg base [slf,row] qual (al st) fI cdv A outer s H E).nox (.Name slf pos) (sf 0):=λpos=>gp (i:=0) rfl (.inl v1) d1 c1;have n2:∀pos,PE (cu CX0 P w K mg base [slf,row] qual (al st) fI cdv A outer s H E).nox (.Name row pos) (sf 1):=λpos=>gp (i:=1) rfl (.inl v2) d2 c2;refine⟨_,cr (yD (C:=C) (D:=D) (fI:=fI) (fld:=fld) Um hg hm (bn (n1 _) (bn (AX (kr jb (kr (CA (n2 _)) (kr jb Cz)))) dh rfl) rfl) L rfl rfl (O _) (ht _)) (cP (yE Um (n1 _) (n2 _) (hs _))),?_⟩;obtain⟨z1,z2⟩:=w6 h0 h1;have hE:(TK:Str).length=0:=rfl;have sl:200<=D2:=by decide
  refine⟨.ref e,rfl,a,rfl,?_,.int n,rfl,.inr ⟨n,rfl,z2,_,rfl,?_,b,rfl,?_,?_,e,_,rfl,he,.int n,rfl,.ref e,rfl,e,rfl,he,λdx U Y=>q dx U Y⟩⟩
  all_goals (simp only[Str.length_append,hE];omega)
end
end L2

namespace L2
open PySem PySem.Spec PyProof.Rows
open PySem.W
noncomputable def CXF(P:JR)(w:K8)(base:Heap)(cls:h6):CXT:=λouter H s E u s'=>∃a T dx H',u=.ref a/\s'.os=s.os/\OZ s'.gens/\Un (frs outer) [] H H' s.heap s'.heap/\HOk P w H' s'.heap/\s'.heap.FunFrames base outer/\Exc s'.heap a cls (S T) (S dx) /\
 H' a=Z/\H' T=Z/\s.heap.get? a=Z/\s.heap.get? T=Z/\E cls (S dx) H'
section
variable{P:JR}{w:K8}{K:Frag}{mg:Str->Option h6}{base:Heap}{N:List Str}{qual:Str}{scope:Scope}{f:Uq}{cd:h6}{A:K2}{outer:List Env}{s s1:i4}{H H1:Hp}{E:XK}{pins:List (Uq×Obj)}{σ:St}{C:Uq}
theorem ky{e dx:Uq}(hE:E (.ref C) (S dx) H1)(I:Inv (cu (CXF P w base (.ref C)) P w K mg base N qual scope f cd A outer s H E) pins σ H1 s1)(he:exAd C e dx s1.heap)(hH:H1 e=Z)(n0:s.heap.get? e=Z):
 (cu (CXF P w base (.ref C)) P w K mg base N qual scope f cd A outer s H E).xe (.ref e) s1:=by
 obtain⟨t,ee⟩:=he;have J:s1.heap.FunFrames base (NX qual scope s.heap.objs.size f cd::outer):=I.stack;show JK _ _ (leaving _ _) _ _ _;refine xo (base:=base) (L:=s.heap.objs.size) (cls:=.ref C) (hd:=Z) (dd:=S dx) I.ok.frames J rfl ⟨⟨_,_,ee,rfl,rfl,rfl,rfl⟩,λT hT=>by cases hT⟩ λh2 T l x nT=>?_
 have Y:∀b∈frs (NX qual scope s.heap.objs.size f cd::outer),H1 b=Z:=I.stkFree;have ltS:∀b o,s.heap.get? b=S o->b≠e:=λb o j z=>by rw[z,n0]at j;cases j
 have bs:=I.base;have sz:∀b o,s.heap.get? b=S o->b∈frs (NX qual scope s.heap.objs.size f cd::outer)->b∈frs outer:=λb o j hm=>by
  unfold frs at hm;rw[NG]at hm
  rcases JS.mp hm with z|z
  ·have:=JJ j;rw[z]at this;exact absurd this (Lc _)
  ·exact z
 refine⟨e,T,dx,H1,rfl,I.os,I.bare,⟨λb o j hn hf hx=>?_,λb o j hn hf hx=>?_,bs.free,λb o j hx=>?_,bs.tups,bs.frzs,bs.tbls⟩,λa o ha=>?_,?_,x,hH,?_,n0,?_,hE⟩
 ·have h1:=bs.keep b o j hn hf hx;exact l.keep b o (ltS b o j) (by simp) (λz=>hf (sz b o j z)) h1
 ·obtain⟨sl,h1⟩:=bs.slot b o j hn hf hx;obtain⟨O,F⟩:=l.slot b _ (ltS b o j) (by simp) h1
  exact⟨O,F⟩
 ·obtain⟨o',h1⟩:=bs.there b o j hx;obtain⟨O,F⟩:=l.slot b _ (ltS b o j) (by simp) h1
  exact⟨_,F⟩
 ·refine(I.hok a o ha).stay (fun b u j hu=>?_) (fun b z=>z) (fun b xs z=>z);have U:H1 b≠Z:=by
   rcases j with z|z
   ·rw[z,ha];simp
   ·rw[z];simp
  exact l.keep b u (λz=>U (by rw[z];exact hH)) (by simp) (λz=>U (Y b z)) hu
 ·exact(J.of_keeps fun b o j hn=>(by
   have Um:b≠e:=λz=>by
    rw[z,ee]at j
    cases j
    exact hn _ rfl
   obtain⟨sl,h3⟩:=l.slot b o Um (by simp) j
   exact⟨_,h3,rfl⟩)).2.2
 ·exact I.hok.no nT
 ·cases hz:s.heap.get? T with
  |none=>rfl
  |some o=>obtain⟨o',h1⟩:=bs.there T o hz (by intro z;cases z);rw[nT]at h1;cases h1
end
section
variable{X:Cx}{pins:List (Uq×Obj)}{σ:St}{H:Hp}{s:i4}{a:Uq}{φ:Heap->Prop}
theorem Inv.untrackG(I:Inv X pins σ (upd H a (.ext φ)) s)(F:X.s₀.heap.get? a=Z)(hn:H a=Z):Inv X pins σ H s:=by
 have ne:∀b o,X.s₀.heap.get? b=S o->b≠a:=λb o e z=>by rw[z,F]at e;cases e
 have nt:∀b o,H b=S o->b≠a:=λb o e z=>by rw[z,hn]at e;cases e
 have back:∀b,upd H a (.ext φ) b=Z->H b=Z:=λb e=>by
  by_cases z:b=a
  ·rw[z];exact hn
  ·rw[aj z]at e;exact e
 refine⟨I.ok,I.os,I.bare,⟨I.base.keep,I.base.slot,λb o e n hx=>back b (I.base.free b o e n hx),I.base.there,λb xs e=>?_,λb o u e=>?_,λb ps e=>?_⟩,I.loc,I.cell,back _ I.free,λy c e=>back _ (I.freeC y c e),λp j=>?_,λb o e=>?_,I.len⟩
 ·have h1:=I.base.tups b xs e
  by_cases z:b=a
  ·rw[z,ar]at h1;cases h1
  ·rw[aj z]at h1;exact h1
 ·have h1:=I.base.frzs b o u e
  by_cases z:b=a
  ·rw[z,ar]at h1;cases h1
  ·rw[aj z]at h1;exact h1
 ·obtain⟨more,h1⟩:=I.base.tbls b ps e
  by_cases z:b=a
  ·rw[z,ar]at h1;cases h1
  ·rw[aj z]at h1;exact⟨more,h1⟩
 ·obtain⟨e,n,r⟩:=I.pin p j;exact⟨e,back _ n,r⟩
 ·have h1:=I.hok b o (by rw[aj (nt b o e)];exact e)
  exact h1.stay (λc u _ q=>q) (λc q=>(by
   by_cases z:c=a
   ·rw[z,ar]at q;cases q
   ·rw[aj z]at q;exact q)) λc xs q=>(by
   by_cases z:c=a
   ·rw[z,ar]at q;cases q
   ·rw[aj z]at q;exact q)
theorem w8{x ta tb:Str}{np cpos pos:Pos}{U:Expr}{t:TA}{C D fI:Uq}{fld:Str}{fd:LB}{ps:List Str}{k:Nat}{Q:Flow->i4->Prop}(I:Inv X pins σ H s)(hc:X.calm=Uo)(hg:Gl X x)(hm:X.mg x=S (.ref C))(Um:kx X.K C D fI fld)(FI:bF X.prog X.w X.K X.mg X.base CX0 k fI fd ps (spI C fld ta tb))(hr:Room (k+1) X.A)(hb:Binds X.K fd ps [])(Hg:ta.length+tb.length<=100)(ha:PA X [U] t)(h:t σ H λvs H1=>∃n:Int,vs=[.int n]/\0<=n/\n<=1000/\∀s2 e dx,Inv X pins σ (upd H1 dx (.xd [(fld,.int n)])) s2->exAd C e dx s2.heap->H1 dx=Z->dx≠e->H1 e=Z->X.s₀.heap.get? e=Z->X.xe (.ref e) s2)(Hh:(x==("__debug__":Str))=Up:=by decide)(he:JU [U] X.env=[(Up,eval U X.env)]:=by rfl)(Hi:(LA cpos (JU [U] X.env)).any (·.1)=Up:=by rfl):
 JK (model X.prog X.w) X.A (exec (.Raise (S (.Call (.Name x np) [U] [] cpos)) Z pos) X.env) Q X.xe s:=by
 obtain⟨bm,N,nm,qn,bs,hd,sn,sub,ab,col,dd,k0,k1,k2,k3,k5,mN,hC,hN,Hj,hT⟩:=pM I.ok.mod.kin Um.ex;refine ku (C:=C) (nm:=nm) (q:=qn) (N:=N) (bs:=bs) (bm:=bm) (hdct:=hd) (sn:=sn) (sub:=sub) (ab:=ab) (col:=col) (dd:=dd) (k0:=k0) (k1:=k1) (k2:=k2) (k3:=k3) (k5:=k5) (mN:=mN) (fI:=fI) QW (hT.hasType (by decide)) (I.ok.hd hc) Hi Hj ?_
 refine cO I hg hm ⟨rfl,?_⟩ Hh;have hp:=ha cpos pins s σ H _ I h;rw[he]at hp⊢;refine Nr (thn hp λus s1 ⟨vs,H1,L,r,n,hv,h0,h1,q⟩=>⟨rfl,?_,L.bk _ _ hC,hN.keeps L.bk,hT.keeps L.bk,?_,?_⟩)
 ·subst hv;rw[<-r.length];exact(show 1<=D2 by decide)
 ·obtain⟨oI,ho,Hk⟩:=any_some Um.fo;exact⟨oI,L.kIn _ _ ho,beq_iff_eq.mp Hk⟩
 ·subst hv
  cases r with
  |cons r1 r=>
  cases r
  obtain⟨tn,rfl⟩:=r1;obtain⟨j,g,d,tk,os⟩:=s1;have Hm:j.objs.size+1≠j.objs.size:=Nat.succ_ne_self _;have I2:Inv X pins σ (upd H1 (j.objs.size+1) (.ext (exAt C (j.objs.size+1)))) ⟨(j.push (tuO [.int n tn])).push (exO C j.objs.size Z),g,d,tk,os⟩:=L.laid (s:=⟨j,g,d,tk,os⟩) (t':=tk) (λb u q=>n6 _ (n6 _ q)) (Py _) (exAt.ext (Qv j.objs.size (by heap_get)))
  have e0:H1 (j.objs.size+1)=Z:=L.hok.fresh (Py _);have n0:X.s₀.heap.get? (j.objs.size+1)=Z:=OH (Ka L.sz (Py _));have r2:Vals [V.ref (j.objs.size+1),V.int n] [K3 (j.objs.size+1),N9 n tn]:=.cons rfl (.cons ⟨tn,rfl⟩ .nil);have hq:spI C fld ta tb [V.ref (j.objs.size+1),V.int n] (upd H1 (j.objs.size+1) (.ext (exAt C (j.objs.size+1)))) (λv H'=>v=.non/\∃dx,H1 dx=Z/\dx≠j.objs.size+1/\H'=upd (upd H1 dx (.xd [(fld,.int n)])) (j.objs.size+1) (.ext (exAd C (j.objs.size+1) dx))) E0:=by
   refine⟨_,n,rfl,ar,h0,h1,Hg,λdx Y O=>⟨rfl,dx,?_,O,?_⟩⟩
   ·rw[aj O]at Y;exact Y
   ·funext b
    unfold upd
    by_cases z1:b=dx
    ·rw[if_pos z1,if_neg (by rw[z1];exact O),if_pos z1]
    ·rw[if_neg z1]
     by_cases z2:b=j.objs.size+1
     ·rw[if_pos z2,if_pos z2]
     ·rw[if_neg z2,if_neg z2,if_neg z2,if_neg z1]
  have hl:([K3 (j.objs.size+1),N9 n tn]:List h6).length=ps.length:=by have e:=r2.length;rw[FI.len _ _ _ _ hq]at e;exact e.symm
  refine Om (MU (FI.run _ X.stack _ _ ⟨[K3 (j.objs.size+1),N9 n tn],[]⟩ [K3 (j.objs.size+1),N9 n tn] _ _ E0 (hr.make C _ []) (I2.env0.make C _ []) (by have:=hb _ [K3 (j.objs.size+1),N9 n tn] I2.kIn hl;rwa[Kw]at this) r2 hq) λr s' J=>?_)
  cases r with
  |error e=>exact(show False from J).elim
  |ok fl=>
   cases fl with
   |next=>exact(show False from J).elim
   |brk=>exact(show False from J).elim
   |cont=>exact(show False from J).elim
   |ret u=>
    obtain⟨v,H',I3,rv,hv,dx,Hl,Hf,rfl⟩:=I2.after J;subst hv;obtain⟨ad,_,_⟩:=(show ObjOk X.prog X.w _ s'.heap (j.objs.size+1) (.ext (exAd C (j.objs.size+1) dx))from I3.hok _ _ ar);have hd2:j.objs.size+1≠dx:=λz=>Hf z.symm;have I4:=I3.untrackG n0 (by rw[aj hd2];exact e0)
    exact⟨rv,I3.bk _ _ hC,⟨_,_,ad.choose_spec⟩,q s' _ dx I4 ad Hl Hf e0 n0⟩
end
end L2

namespace L2
open PySem PySem.Spec PyProof.Rows
open PySem.W
def clsF(a C dx:Uq)(h:Heap):Prop:=∃o,h.get? a=S o/\o.cls=.ref C/\notCls o=Uo/\o.dict=S dx
theorem clsF.ext{P:JR}{w:K8}{H:Hp}{h:Heap}{a C dx:Uq}(x:clsF a C dx h):ObjOk P w H h a (.ext (clsF a C dx)):=⟨x,⟨_,x.choose_spec.1⟩,λh1 h2 q k=>⟨q.choose,k _ q.choose_spec.1,q.choose_spec.2⟩⟩
def IsF(H:Hp)(a C dx:Uq)(fld:Str)(n:Int):Prop:=H a=S (.ext (clsF a C dx))/\H dx=S (.xd [(fld,.int n)])
section
variable{prog:JR}{w:K8}{A:K2}{E:h6->i4->Prop}{h:Heap}{g:Array PZ}{d:Drawn}{t:Nat}{os:Tp}{a C:Uq}{o:Obj}{od:Option Obj}{K:Frag}{name:Str}{v:h6}
theorem w9{tk:Tok}{Q:Fin->i4->Prop}(X:K.In h)(I:Mf h a o C od)(hf:NT K C od name=S (.value v))(j:Q (.done (.ret v)) ⟨h,g,d,t,os⟩):JK (model prog w) A (MB.«object.__getattribute__» ⟨[.ref a,.str name tk],[]⟩) Q E ⟨h,g,d,t,os⟩:=by have L0:=I.type (M:=model prog w);have L1:=Ry (M:=model prog w) X I hf;refine gV (B1 (gV (B1 (gV (L0.at (gV (L1.at ?_)))))));exact gV (B1 (B1 j))
theorem CD{tk:Tok}{fill expr:Bool}{Q:h6->i4->Prop}(X:K.In h)(I:Mf h a o C od)(j:KY K (.ref C) "__getattribute__"=S (S (.builtin "BaseException.__getattribute__")))(z:KY K (.ref C) "__getattr__"=S Z)(hf:NT K C od name=S (.value v))(L:handedIn v=Uo)(J:∀(M:MP) (A:K2) (E:h6->i4->Prop) (nameV:h6) (R:Unit->i4->Prop),R () ⟨h,g,d,t,os⟩->JK M A (NB "BaseException.__getattribute__" ⟨[.ref a,nameV],[]⟩) R E ⟨h,g,d,t,os⟩)(O:Q v ⟨h,g,d,t,os⟩):JK (model prog w) A (Sv (.ref a) (.str name tk) fill expr) Q E ⟨h,g,d,t,os⟩:=by
 have L0:=I.type (M:=model prog w);have L1:=Nv (M:=model prog w) X j;have L2:=Nv (M:=model prog w) X z;unfold Sv;refine KO (gV (L0.at (gV (L1.at ?_))));show JK _ _ (OP _ _ _ _ _ _) _ _ _;unfold OP;have Y:=F.attrBase_ValueError.ga.bind (.ref a);have U:(expr&&onTheHeap (Value.builtin "BaseException.__getattribute__"))=Up:=by cases expr<;>rfl
 repeat (any_goals (first|assumption|with_reducible refine L2.at ?_|wp_step))
 refine Mu F.attrBase_ValueError.ga.plain Tc (J _ _ _ _ _ (w9 X I hf ?_))
 repeat (any_goals (first|assumption|wp_step))
 exact handed_on L O
end
section
variable{X:Cx}{pins:List (Uq×Obj)}{σ:St}{H:Hp}{s:i4}{a C dx:Uq}{fld:Str}{n:Int}
theorem IsF.inst(x:IsF H a C dx fld n)(I:Inv X pins σ H s):∃o od u,Mf s.heap a o C (S od)/\lookIn fld od=S (S u)/\RelV (.int n) u:=by obtain⟨⟨o,e,c,nc,dd⟩,_,_⟩:=(show ObjOk X.prog X.w H s.heap a (.ext (clsF a C dx))from I.hok a _ x.1);obtain⟨mA,hn,r⟩:=(show ObjOk X.prog X.w H s.heap dx (.xd [(fld,.int n)])from I.hok dx _ x.2);obtain⟨od,ho,j⟩:=kQ hn;have rf:=r fld;rw[Lr,beq_self_eq_true]at rf;obtain⟨u,z,ru⟩:=U6 (v:=.int n) (o:=mA fld) rf;exact⟨o,od,u,⟨e,c,nc,by rw[dd];exact ho⟩,by rw[j,z],ru⟩
theorem CF{e:Expr}{te:TE}{pos:Pos}(he:PE X e te)(F:Nb e fld X.env (eval e X.env)=eval e X.env)(Um:jU X.K C)(hd:hasDictIn X.K C=Uo)(L:findIn X.K (.ref C) fld=S Z):
 PE X (.Attribute e fld pos) (λσ H Q=>te σ H λx H1=>∃a dx n,x=.ref a/\IsF H1 a C dx fld n/\Q (.int n) H1):=by
 intro pins s σ H Q I h;refine zT F (thn (he pins s σ H _ I h) λu s1 O=>?_);obtain⟨x,H1,j,rx,a,dx,n,ex,U,q⟩:=O;subst ex;obtain rfl:u=K3 a:=rx;obtain⟨o,od,u,J,Y,ru⟩:=U.inst j;obtain⟨hh,g,d,tk,os⟩:=s1;have z:findObj X.K C (S od) fld=S (.value u):=findObj_own hd L rfl Y;have hv:handedIn u=Uo:=uu ru;refine gV (wpAny_mkText ?_);exact CD j.kIn J Um.ga Um.gn z hv (nZ j.kIn J Um.sb) ⟨.int n,H1,j.tok _,ru,q⟩
theorem pN:CallR X (.builtin "isinstance") (λvs H Q=>∃a C dx fld n c b,vs=[.ref a,c]/\isC c=Uo/\IsF H a C dx fld n/\jU X.K C/\Nq X.K (.ref C) (cV c)=S b/\Q (.bl b) H):=by
 intro pins s σ H xs us Q I r h;obtain⟨a,C,dx,fld,n,c,b,rfl,F,L,Um,hk,q⟩:=h
 cases r with
 |cons O r=>
 cases r with
 |cons j r=>
 cases r
 cases O
 have e:cV c=_:=(by
  cases c<;>first|cases F|skip
  ·exact(show _=K3 _ from j).symm
  ·exact(show _=KU _ from j).symm)
 rw[e]at hk;obtain⟨o,od,u,J,_,_⟩:=L.inst I;exact KZ (og Um) I.kIn ⟨o,_,J⟩ hk (λz=>nomatch z) λtk=>⟨.bl b,H,I.tok tk,rfl,q⟩
theorem wa:CallR X (.builtin "isinstance") (λvs H Q=>∃a C dx fld n p j F b,vs=[.ref a,.ref p]/\IsF H a C dx fld n/\jU X.K C/\H p=S (.tup [.ref j,.ref F])/\QX X.K (.ref C) [.ref j,.ref F]=S b/\Q (.bl b) H):=by
 intro pins s σ H xs us Q I r h;obtain⟨a,C,dx,fld,n,p,j,F,b,rfl,Y,Um,hp,hk,q⟩:=h
 cases r with
 |cons L r=>
 cases r with
 |cons O r=>
 cases r
 cases L
 cases O
 obtain⟨o,od,u,J,_,_⟩:=Y.inst I;obtain⟨_,its,rv,⟨cls,dd,dat,sl⟩,h1,h2,n,U⟩:=(show ObjOk X.prog X.w H s.heap p (.tup [.ref j,.ref F])from I.hok p _ hp);dsimp only at h2 U;subst h2 U
 cases rv with
 |cons L rv=>
 cases rv with
 |cons O rv=>
 cases rv
 cases L
 cases O
 exact PySem.W.kia_tup (og Um) I.kIn ⟨o,_,J⟩ h1 hk (λz=>nomatch z) λtk=>⟨.bl b,H,I.tok tk,rfl,q⟩
end
end L2

namespace L2
open PySem PySem.Spec PyProof.Rows
open PySem.W
section
variable{X:Cx}{pins:List (Uq×Obj)}{σ:St}{H:Hp}{s:i4}{a C:Uq}{φ:Heap->Prop}
theorem Uj(I:Inv X pins σ H s)(F:X.s₀.heap.get? a=Z)(hn:H a=Z)(x:∀H',ObjOk X.prog X.w H' s.heap a (.ext φ))(J:a≠X.env.locals)(L:∀y c,X.env.cells.lookup y=S c->c≠a)(O:∀p∈X.pn++pins,p.1≠a):Inv X pins σ (upd H a (.ext φ)) s:=by
 have ne:∀b o,X.s₀.heap.get? b=S o->b≠a:=λb o e z=>by rw[z,F]at e;cases e
 have nt:∀b o,H b=S o->b≠a:=λb o e z=>by rw[z,hn]at e;cases e
 refine⟨I.ok,I.os,I.bare,⟨I.base.keep,I.base.slot,λb o e n hx=>by rw[aj (ne b o e)];exact I.base.free b o e n hx,I.base.there,λb xs e=>?_,λb o u e=>?_,λb ps e=>?_⟩,I.loc,I.cell,by rw[aj (Ne.symm J)];exact I.free,λy c e=>by rw[aj (L y c e)];exact I.freeC y c e,λp j=>?_,λb o e=>?_,I.len⟩
 ·have h1:=I.base.tups b xs e;rw[aj (nt b _ h1)];exact h1
 ·have h1:=I.base.frzs b o u e;rw[aj (nt b _ h1)];exact h1
 ·obtain⟨more,h1⟩:=I.base.tbls b ps e;exact⟨more,by rw[aj (nt b _ h1)];exact h1⟩
 ·obtain⟨e,n,r⟩:=I.pin p j;exact⟨e,by rw[aj (O p j)];exact n,r⟩
 ·by_cases z:b=a
  ·subst z;rw[ar]at e;cases e;exact x _
  ·rw[aj z]at e;exact(I.hok b o e).stay (λc u _ q=>q) (λc q=>by rw[aj (nt c _ q)];exact q) λc xs q=>by rw[aj (nt c _ q)];exact q
end
structure wb(X:Cx)(xD:Str)(C D:Uq):Prop where
 g5:Gl X xD
 m5:X.mg xD=S (.ref D)
 d5:(xD==("__debug__":Str))=Up
 eD:PQ X.K D vbm "ValueError.__new__"=Uo
 sD:OD X.K (.ref C) (.ref D)=S Uo
section
variable{X:Cx}
theorem B0{n xD x fx:Str}{C D:Uq}{ie i k:Nat}{f:Uq}{fd:LB}{ps:List Str}{sp:Sp}{U:Expr}{es:List Expr}{tA:TA}{fp cpos epos np Hk xp apos Hj tpos:Pos}(hex:X.ex=[])(Hl:X.stack=X.env::X.outer)(Ht:X.env.frame=S X.env.locals)(Um:∀a,wb (X.hld a) xD C D)(hN:X.N.Nodup)(hi:X.N[i]?=S x)(hx:X.env.scope.names.lookup x=S .local)(Hh:X.N[ie]?=S n)(hn:X.env.scope.names.lookup n=S .local)(Hu:ie≠i)(hd:(n==("__debug__":Str))=Up)(Hv:(n==("__classdict__":Str))=Up)(F:bF X.prog X.w X.K X.mg X.base (CXF X.prog X.w X.base (.ref C)) k f fd ps sp)(hr:Room k X.A)(hg:Gl X fx)(hm:X.mg fx=S (.ref f))(hk:Lw X.K (.ref f)=Uo)(hb:Binds X.K fd ps [])(ha:PA X.nox (U::es) tA)(Hw:(fx==("__debug__":Str))=Up)(he:JU (U::es) X.env=(Up,eval U X.env)::JU es X.env)(Hx:(LA cpos (JU es X.env)).any (·.1)=Up)(Hy:LD (.Call (.Name fx fp) (U::es) [] cpos) Z epos.line X.env=pure Up):
 PS X (.Try [.Expr (.Call (.Name fx fp) (U::es) [] cpos) epos] [.ExceptHandler (S (.Name xD np)) (S n) [.Assign [.Name x xp] (.Name n Hk) apos] Hj] [] [] tpos)
  (λDD σ H=>tA σ H λvs H1=>sp vs H1 (λ_ H2=>DD.nx σ H2) λcls dd H'=>∃dx,dd=S dx/\∀a,H' a=Z->DD.nx ((σ.set i (S (.ref a))).set ie Z) (upd H' a (.ext (clsF a C dx)))):=by
 intro pins s σ H DD I h;refine wpAny_Try_except (Q0 (QJ ?_ I.quiet Hy));refine MV (cO I hg hm ?_ Hw);have hA:=PA.nox (X:=X.wish λe s₁=>JK (model X.prog X.w) X.A (R7 e X.env) (λ_ s₂=>JK (model X.prog X.w) X.A (Q8 e Z) (λ_ s₃=>JK (model X.prog X.w) X.A (handleBy e X.env [.ExceptHandler (S (.Name xD np)) (S n) [.Assign [.Name x xp] (.Name n Hk) apos] Hj]) (SP X pins DD) X.xe s₃) X.xe s₂) X.xe s₁) ha;refine Ru (h₀:=X.base) I.ok.mod.kin hk (thn (hA cpos pins s σ H _ (I.wish _) h) λus s1 ⟨vs,H1,O,r,q⟩=>⟨O.unwish.kIn,?_⟩) he Hx;have O:=O.unwish;have hl:(us++[]).length=ps.length:=by rw[Kw,<-r.length];exact F.len _ _ _ _ q
 refine Om (MU (F.run X.A X.stack s1 H1 ⟨us,[]⟩ us vs _ _ hr O.env0 (by have:=hb s1 us O.kIn hl;rwa[Kw]at this) r q) λr s' hq=>?_)
 cases r with
 |ok fl=>
  cases fl with
  |ret u=>obtain⟨v,H',I2,_,z⟩:=O.after hq;exact N6 (N6 ⟨σ,H',I2,z⟩)
  |next=>exact False.elim hq
  |brk=>exact False.elim hq
  |cont=>exact False.elim hq
 |error u=>
 obtain⟨a,T,dx,H',rfl,os,bare,un,hok,ff,ex,Hm,Hz,na,nT,hE⟩:=hq;rw[Hl]at ff;have frn:∀b∈frs X.stack,H' b=Z:=λb hb=>by have h1:=O.stkFree b hb;obtain⟨_,o,ho,_⟩:=O.stack.mem hb;exact un.free b o ho h1 (by intro z;cases z)
 refine rh (base:=X.base) (L:=X.env.locals) (by rw[I.ok.frames,Hl]) ff Ht ex λh2 T2 l ex2 Ho=>?_
 rw[<-Hl]at l;have ne1:∀b o,s1.heap.get? b=S o->b≠a/\S b≠S T/\b≠T2:=λb o e=>by
  refine⟨λz=>?_,λz=>?_,λz=>?_⟩
  ·rw[z,na]at e;cases e
  ·cases z;rw[nT]at e;cases e
  ·obtain⟨o',e'⟩:=un.there b o e (by intro z;cases z)
   rw[z,Ho]at e';cases e'
 have HA:H' T2=Z:=hok.no Ho;have mkU:∀Y,(∀b o,b≠a->S b≠S T->b≠T2->b∉frs X.stack->s'.heap.get? b=S o->Y.get? b=S o)->(∀b o,b≠a->S b≠S T->b≠T2->s'.heap.get? b=S o->∃sl,Y.get? b=S {o with slots:=sl})->Un (frs X.stack) [] H1 H' s1.heap Y/\HOk X.prog X.w H' Y:=λY k1 k2=>by
  refine⟨⟨λb o e n hf hx=>?_,λb o e n hf hx=>?_,un.free,λb o e hx=>?_,un.tups,un.frzs,un.tbls⟩,λb o e=>?_⟩
  ·obtain⟨j,J,z3⟩:=ne1 b o e;exact k1 b o j J z3 hf (un.keep b o e n hf hx)
  ·obtain⟨j,J,z3⟩:=ne1 b o e;obtain⟨sl,U⟩:=un.slot b o e n hf hx;obtain⟨Hq,e2⟩:=k2 b _ j J z3 U;exact⟨Hq,e2⟩
  ·obtain⟨j,J,z3⟩:=ne1 b o e;obtain⟨o',U⟩:=un.there b o e hx;obtain⟨Hq,e2⟩:=k2 b _ j J z3 U;exact⟨_,e2⟩
  ·refine(hok b o e).stay (fun c u hc q=>?_) (fun c q=>q) fun c xs q=>q;have hH:H' c≠Z:=by
    rcases hc with z|z
    ·rw[z,e];simp
    ·rw[z];simp
   exact k1 c u (λz=>hH (by rw[z];exact Hm)) (λz=>hH (by cases z;exact Hz)) (λz=>hH (by rw[z];exact HA)) (λz=>hH (frn c z)) q
 obtain⟨HB,Hr⟩:=mkU h2 (λb o j J _ hf e=>l.keep b o j J hf e) (λb o j J _ e=>l.slot b o j J e);have I2:Inv X pins σ H' {s' with heap:=h2}:=O.call' (s':={s' with heap:=h2}) os HB Hr bare λb z=>by cases z
 obtain⟨bm,N,nm,qn,bs,HH,sn,sub,ab,col,dd,k0,k1,k2,k3,k5,mN,hD,_,_,hT⟩:=A1 I.ok.mod.kin (Um a).eD;obtain⟨oe,vs',ee,ec,_,_,_⟩:=id ex2.obj;refine wpAny_handleBy_cons (codeAny_handlers_test ?_) (by intro q;cases q)
 refine cO (X:=X.hld a) (I2.hld a) (Um a).g5 (Um a).m5 ?_ (Um a).d5;refine qJ (R9 I2.kIn (Um a).sD) (I2.bk _ _ hD) ee ec (hT.hasType (by decide)) ?_
 refine codeAny_handlers_suite_as ?_;refine uL (s:={s' with heap:=h2}) ex2 λY sb HC=>?_
 obtain⟨HD,Hs⟩:=mkU Y (λb o j J z3 hf e=>(sb.2 b z3).trans (l.keep b o j J hf e)) (λb o j J z3 e=>by obtain⟨sl,U⟩:=l.slot b o j J e;exact⟨sl,(sb.2 b z3).trans U⟩)
 have I3:Inv X pins σ H' {s' with heap:=Y}:=O.call' (s':={s' with heap:=Y}) os HD Hs bare λb z=>by cases z
 refine kP (X:=X.hld a) (v:=.ref a) (I3.hld a) hN Hh (.inl hn) rfl (λs4 J4 g9=>?_) (.inr hn);obtain⟨b4,HE,HF⟩:=g9;obtain⟨o3,HI,e3,c3,HG,Hn,_⟩:=id HC.obj;have aL:a≠X.env.locals:=λz=>by obtain⟨m,⟨o,es',ep,ho,Hf,_⟩,_⟩:=I3.loc;rw[<-z]at ho;have Hg:Y.get? a=S o:=ho;rw[e3]at Hg;cases Hg;rw[Hn]at Hf;cases Hf
 have aC:∀y c,X.env.cells.lookup y=S c->c≠a:=λy c e z=>by obtain⟨v,o,ho,Hf⟩:=I3.cell y c e;rw[z]at ho;have Hg:Y.get? a=S o:=ho;rw[e3]at Hg;cases Hg;rw[Hn]at Hf;cases Hf
 have a4:a≠b4:=by
  rcases HF with z|z
  ·rw[z];exact aL
  ·exactλy=>aC n b4 z y.symm
 have n0:X.s₀.heap.get? a=Z:=by
  cases hz:X.s₀.heap.get? a with
  |none=>rfl
  |some o=>
   obtain⟨o',e'⟩:=O.base.there a o hz (by rw[hex];intro z;cases z)
   rw[na]at e';cases e'
 have cF:clsF a C dx s4.heap:=⟨o3,(HE.2 a a4).trans e3,c3,by unfold PySem.W.notCls;rw[Hn],HG⟩
 have J5:=Uj (X:=X.hld a) (φ:=clsF a C dx) J4 n0 Hm (λH'=>cF.ext) aL aC λp hp z=>by obtain⟨e,_⟩:=O.pin p hp;rw[z,na]at e;cases e
 have hlen:ie<σ.length:=by rw[I.len];exact(JO.mp Hh).1
 have step:=cP (uh (X:=X.hld a) (pos:=apos) (pos':=xp) hN hi (.inl hx) (gp (X:=X.hld a) (pos:=Hk) Hh (.inl hn) hd Hv) rfl (.inr hx)) pins s4 _ _
  {nx:=λσ' H''=>σ'=(σ.set ie (S (.ref a))).set i (S (.ref a))/\H''=upd H' a (.ext (clsF a C dx)),rt:=λ_ _=>False} J5 ⟨.ref a,by rw[Ku hlen],rfl,rfl⟩
 refine Kh step (λfl s5 Hi=>?_) λ_ _ z=>z.elim
 cases fl with
 |brk=>obtain⟨_,_,_,z⟩:=Hi;exact z.elim
 |cont=>obtain⟨_,_,_,z⟩:=Hi;exact z.elim
 |ret u=>obtain⟨_,_,_,_,_,z⟩:=Hi;exact z.elim
 |next=>
  obtain⟨σ',H'',J6,rfl,rfl⟩:=Hi;have J7:=J6.unhld I.ok;refine A2 J7 hN Hh hn λs6 J8=>⟨_,_,J8,?_⟩;have es':(((σ.set ie (S (.ref a))).set i (S (.ref a))).set ie Z)=(σ.set i (S (.ref a))).set ie Z:=by rw[OB _ _ Hu,List.set_set]
  rw[es'];obtain⟨dx',e',q'⟩:=hE
  cases e'
  exact q' a Hm
end
end L2

namespace L2
open PySem PySem.Spec PyProof.Rows
namespace Mi
section
inductive BOp where|add|sub|mul|fdiv|mod|pow
inductive COp where|eq|ne|lt|le|gt|ge|is|isn|neE|inS|inD|ninD|inT|ninS
inductive BF where|len|abs|max2|min2|int|list|sum|all|sorts|lenK
inductive MF where|append
set_option genCtorIdx false
set_option genInjectivity false
mutual
inductive MG where
 |name (i:Nat)
 |tup (gs:MGs)
inductive MGs where
 |nil
 |cons (g:MG) (r:MGs)
end
mutual
inductive ME where
 |var (i:Nat)
 |int (i:Int)
 |bl (b:Bool)
 |non
 |str (x:Str)
 |bin (op:BOp) (a b:ME)
 |neg (a:ME)
 |cmp (op:COp) (a b:ME)
 |and (es:MEs)
 |or (es:MEs)
 |not (a:ME)
 |ite (c:MT) (a b:ME)
 |tup (es:MEs)
 |lst (es:MEs)
 |ix (a b:ME)
 |call (f:Nat) (es:MEs)
 |blt (f:BF) (es:MEs)
 |isin (a:ME) (T:String)
 |chain (op op':COp) (a b c:ME)
 |dnew (t:Bool)
 |disp (es:MEs)
 |popk (o k:ME)
 |dget (o k x:ME)
 |meth (m:MF) (o a:ME)
 |ins (o i a:ME)
 |comp (fr:List (Option Nat)) (N:List Str) (c:MC)
inductive MEs where
 |nil
 |cons (e:ME) (r:MEs)
inductive MO where
 |none
 |some (e:ME)
inductive MT where
 |tru (e:ME)
 |cmp (op:COp) (a b:ME)
 |chain (op op':COp) (a b c:ME)
 |and (ts:MTs)
 |or (ts:MTs)
 |not (t:MT)
inductive MTs where
 |nil
 |cons (t:MT) (r:MTs)
inductive MI where
 |seq (e:ME)
 |rng1 (a:ME)
 |enum (a:ME)
inductive MC where
 |last (src:MI) (g:MG) (ifs:MTs) (elt:ME)
 |more (src:MI) (g:MG) (ifs:MTs) (rest:MC)
end
mutual
inductive MS where
 |asg (g:MG) (e:ME)
 |par (i j:Nat) (a b:ME)
 |par3 (i j l:Nat) (a b c:ME)
 |put (o i e:ME)
 |drop (e:ME)
 |ret (e:ME)
 |ite (c:MT) (a b:MSs)
 |for (g:MG) (src:MI) (b:MSs)
 |while (c:MT) (b:MSs)
 |delk (o k:ME)
 |bot
 |pass|brk|cnt
inductive MSs where
 |nil
 |cons (s:MS) (r:MSs)
end
set_option genCtorIdx true
set_option genInjectivity true
noncomputable def opB:BOp->R2d
 |.add=>eh|.sub=>oz|.mul=>iL|.fdiv=>jq|.mod=>oB|.pow=>oC
noncomputable def opC:COp->R2d
 |.eq=>wEq|.ne=>wNe|.lt=>wLt|.le=>wLe|.gt=>wGt|.ge=>wGe|.is=>wIs|.isn=>tE| .neE=>tN|.inS=>tM|.inD=>iT Up|.ninD=>iT Uo|.inT=>pI|.ninS=>nF
noncomputable def opF:BF->RAd
 |.len=>fg| .lenK=>nE| .abs=>ke|.max2=>jr|.min2=>jt|.int=>kf|.list=>mQ| .sum=>oO|.all=>oV| .sorts=>gK
noncomputable def opM:MF->D->List D->Mem->QD->Prop
 |.append=>hW
theorem pO:∀o,az (opB o)
 |.add=>xv|.sub=>xw|.mul=>xz|.fdiv=>uU|.mod=>xA|.pow=>xB
theorem bB:∀o,az (opC o)
 |.eq=>A9|.ne=>Ab|.lt=>Ae|.le=>Af|.gt=>Ag|.ge=>Ah|.is=>AB|.isn=>yd| .neE=>yA|.inS=>yr|.inD=>pH|.ninD=>pH|.inT=>yx|.ninS=>vW
theorem yF:∀o,b8 (opF o)
 |.len=>oJ| .lenK=>mn| .abs=>oK|.max2=>lu|.min2=>lw|.int=>oM|.list=>lB| .sum=>oP|.all=>oW| .sorts=>jE
theorem yG:∀o,ju (opM o)
 |.append=>iE
noncomputable abbrev Phi:=Nat->RAd
mutual
noncomputable def bG:MG->BT
 |.name i=>be i
 |.tup gs=>xP (bGs gs)
noncomputable def bGs:MGs->BTs
 |.nil=>eA
 |.cons g r=>bf (bG g) (bGs r)
end
mutual
noncomputable def wE(Φ:Phi):ME->TEd
 |.var i=>iJ i
 |.int i=>wC (.int i)
 |.bl b=>wC (.bl b)
 |.non=>wC .non
 |.str x=>wC (.str x)
 |.bin op a b=>wOp (opB op) (wE Φ a) (wE Φ b)
 |.neg a=>wUn oE (wE Φ a)
 |.cmp op a b=>wOp (opC op) (wE Φ a) (wE Φ b)
 |.and es=>wAnds Φ es
 |.or es=>wOrs Φ es
 |.not a=>mW (wE Φ a)
 |.ite c a b=>wIf (wT Φ c) (wE Φ a) (wE Φ b)
 |.tup es=>wAr ou (wA Φ es)
 |.lst es=>wAr sR (wA Φ es)
 |.ix a b=>wOp wIx (wE Φ a) (wE Φ b)
 |.call f es=>wAr (Φ f) (wA Φ es)
 |.blt f es=>wAr (opF f) (wA Φ es)
 |.isin a T=>mX T (wE Φ a)
 |.chain op op' a b c=>cj (opC op) (opC op') (wE Φ a) (wE Φ b) (wE Φ c)
 |.dnew t=>nv t
 |.disp es=>nD (wA Φ es)
 |.popk o k=>nG (wE Φ o) (wE Φ k)
 |.dget o k x=>nC (wE Φ o) (wE Φ k) (wE Φ x)
 |.meth m o a=>wBM (opM m) (wE Φ o) (aO (wE Φ a) bN)
 |.ins o i a=>wBM im (wE Φ o) (aO (wE Φ i) (aO (wE Φ a) bN))
 |.comp fr _ c=>wCmp Φ fr c
noncomputable def wA(Φ:Phi):MEs->TAd
 |.nil=>bN
 |.cons e r=>aO (wE Φ e) (wA Φ r)
noncomputable def wAnds(Φ:Phi):MEs->TEd
 |.nil=>λ_ _ _=>False
 |.cons e .nil=>wE Φ e
 |.cons e (.cons f r)=>mV (wE Φ e) (wAnds Φ (.cons f r))
noncomputable def wOrs(Φ:Phi):MEs->TEd
 |.nil=>λ_ _ _=>False
 |.cons e .nil=>wE Φ e
 |.cons e (.cons f r)=>t7 (wE Φ e) (wOrs Φ (.cons f r))
noncomputable def wO(Φ:Phi):MO->TOd
 |.none=>kh
 |.some e=>t9 (wE Φ e)
noncomputable def wT(Φ:Phi):MT->TTd
 |.tru e=>sZ (wE Φ e)
 |.cmp op a b=>dz (wOp (opC op) (wE Φ a) (wE Φ b))
 |.chain op op' a b c=>dz (cj (opC op) (opC op') (wE Φ a) (wE Φ b) (wE Φ c))
 |.and ts=>wAndTs Φ ts
 |.or ts=>wOrTs Φ ts
 |.not t=>mR (wT Φ t)
noncomputable def wAndTs(Φ:Phi):MTs->TTd
 |.nil=>λ_ _ _=>False
 |.cons e .nil=>wT Φ e
 |.cons e (.cons f r)=>mU (wT Φ e) (wAndTs Φ (.cons f r))
noncomputable def wOrTs(Φ:Phi):MTs->TTd
 |.nil=>λ_ _ _=>False
 |.cons e .nil=>wT Φ e
 |.cons e (.cons f r)=>t6 (wT Φ e) (wOrTs Φ (.cons f r))
noncomputable def wTl(Φ:Phi):MTs->List TTd
 |.nil=>[]
 |.cons t r=>wT Φ t::wTl Φ r
noncomputable def wI(Φ:Phi):MI->TId
 |.seq e=>tj (wE Φ e)
 |.rng1 a=>mY (aO (wE Φ a) bN)
 |.enum a=>mZ (wE Φ a)
noncomputable def wCl(Φ:Phi):MC->TCd
 |.last src g ifs elt=>dQ (wI Φ src) (bG g) (bC (wTl Φ ifs) (eR (wE Φ elt)))
 |.more src g ifs rest=>dQ (wI Φ src) (bG g) (bC (wTl Φ ifs) (wCl Φ rest))
noncomputable def wCmp(Φ:Phi)(fr:List (Option Nat)):MC->TEd
 |.last src g ifs elt=>i6 fr (wI Φ src) (bG g) (bC (wTl Φ ifs) (eR (wE Φ elt)))
 |.more src g ifs rest=>i6 fr (wI Φ src) (bG g) (bC (wTl Φ ifs) (wCl Φ rest))
end
mutual
noncomputable def wS(Φ:Phi):MS->TSd
 |.asg g e=>gF (wE Φ e) (bG g)
 |.par i j a b=>iO (aO (wE Φ a) (aO (wE Φ b) bN)) (bf (be i) (bf (be j) eA))
 |.par3 i j l a b c=>iO (aO (wE Φ a) (aO (wE Φ b) (aO (wE Φ c) bN))) (bf (be i) (bf (be j) (bf (be l) eA)))
 |.put o i e=>tD (wE Φ e) (wE Φ o) (wE Φ i)
 |.drop e=>nj (wE Φ e)
 |.ret e=>iN (wE Φ e)
 |.ite c a b=>sIf (wT Φ c) (wSs Φ a) (wSs Φ b)
 |.for g src b=>kj (wI Φ src) (bG g) (wSs Φ b)
 |.while c b=>jx (wT Φ c) (wSs Φ b)
 |.delk o k=>nH (wE Φ o) (wE Φ k)
 |.bot=>λ_ _ _=>False
 |.pass=>fW
 |.brk=>jw
 |.cnt=>ni
noncomputable def wSs(Φ:Phi):MSs->TSd
 |.nil=>fW
 |.cons s r=>gE (wS Φ s) (wSs Φ r)
end
section
variable{Φ:Phi}(hΦ:∀f,b8 (Φ f))
include hΦ
mutual
theorem mE:∀m,af (wE Φ m)
 |.var _=>xu
 |.int _=>jo
 |.bl _=>jo
 |.non=>jo
 |.str _=>jo
 |.bin op a b=>fB (pO op) (mE a) (mE b)
 |.neg a=>A6 oF (mE a)
 |.cmp op a b=>fB (bB op) (mE a) (mE b)
 |.and es=>mAnds es
 |.or es=>mOrs es
 |.not a=>v5 (mE a)
 |.ite c a b=>Ao (mT c) (mE a) (mE b)
 |.tup es=>gZ uR (mA es)
 |.lst es=>gZ uS (mA es)
 |.ix a b=>fB rq (mE a) (mE b)
 |.call f es=>gZ (hΦ f) (mA es)
 |.blt f es=>gZ (yF f) (mA es)
 |.isin a T=>v8 (mE a)
 |.chain op op' a b c=>fX (bB op) (bB op') (mE a) (mE b) (mE c)
 |.dnew _=>vx
 |.disp es=>vT (mA es)
 |.popk o k=>vY (mE o) (mE k)
 |.dget o k x=>vM (mE o) (mE k) (mE x)
 |.meth m o a=>rB (yG m) (mE o) (av (mE a) aE)
 |.ins o i a=>rB iH (mE o) (av (mE i) (av (mE a) aE))
 |.comp fr _ c=>mCmp fr c
theorem mA:∀m,bb (wA Φ m)
 |.nil=>aE
 |.cons e r=>av (mE e) (mA r)
theorem mAnds:∀m,af (wAnds Φ m)
 |.nil=>λ_ _ _ _ _ q=>q.elim
 |.cons e .nil=>mE e
 |.cons e (.cons f r)=>uZ (mE e) (mAnds (.cons f r))
theorem mOrs:∀m,af (wOrs Φ m)
 |.nil=>λ_ _ _ _ _ q=>q.elim
 |.cons e .nil=>mE e
 |.cons e (.cons f r)=>xN (mE e) (mOrs (.cons f r))
theorem mO:∀m,t8 (wO Φ m)
 |.none=>qN
 |.some e=>v7 (mE e)
theorem mT:∀m,aN (wT Φ m)
 |.tru e=>xL (mE e)
 |.cmp op a b=>om (fB (bB op) (mE a) (mE b))
 |.chain op op' a b c=>om (fX (bB op) (bB op') (mE a) (mE b) (mE c))
 |.and ts=>mAndTs ts
 |.or ts=>mOrTs ts
 |.not t=>uX (mT t)
theorem mAndTs:∀m,aN (wAndTs Φ m)
 |.nil=>λ_ _ _ _ _ q=>q.elim
 |.cons e .nil=>mT e
 |.cons e (.cons f r)=>uY (mT e) (mAndTs (.cons f r))
theorem mOrTs:∀m,aN (wOrTs Φ m)
 |.nil=>λ_ _ _ _ _ q=>q.elim
 |.cons e .nil=>mT e
 |.cons e (.cons f r)=>xM (mT e) (mOrTs (.cons f r))
theorem mTl:∀m,∀t∈wTl Φ m,aN t
 |.nil=>by rw[wTl];intro t j;simp at j
 |.cons t r=>by
  rw[wTl];intro t' j
  rcases JS.mp j with e|e
  ·rw[e];exact mT t
  ·exact mTl r t' e
theorem mI:∀m,cm (wI Φ m)
 |.seq e=>xR (mE e)
 |.rng1 a=>vc (av (mE a) aE)
 |.enum a=>ve (mE a)
theorem mCl:∀m,bY (wCl Φ m)
 |.last src g ifs elt=>iF (mI src) (aX (bQ (mE elt)) (mTl ifs))
 |.more src g ifs rest=>iF (mI src) (aX (mCl rest) (mTl ifs))
theorem mCmp(fr:List (Option Nat)):∀m,af (wCmp Φ fr m)
 |.last src g ifs elt=>lD (mI src) (aX (bQ (mE elt)) (mTl ifs))
 |.more src g ifs rest=>lD (mI src) (aX (mCl rest) (mTl ifs))
end
mutual
theorem mS:∀m,aP (wS Φ m)
 |.asg g e=>xV (mE hΦ e)
 |.par i j a b=>oS (av (mE hΦ a) (av (mE hΦ b) aE))
 |.par3 i j l a b c=>oS (av (mE hΦ a) (av (mE hΦ b) (av (mE hΦ c) aE)))
 |.put o i e=>ya (mE hΦ e) (mE hΦ o) (mE hΦ i)
 |.drop e=>vh (mE hΦ e)
 |.ret e=>xT (mE hΦ e)
 |.ite c a b=>xU (mT hΦ c) (mSs a) (mSs b)
 |.for g src b=>xW (mI hΦ src) (mSs b)
 |.while c b=>tq (mT hΦ c) (mSs b)
 |.delk o k=>vZ (mE hΦ o) (mE hΦ k)
 |.bot=>λ_ _ _ _ _ q=>q
 |.pass=>lH
 |.brk=>tm
 |.cnt=>vf
theorem mSs:∀m,aP (wSs Φ m)
 |.nil=>lH
 |.cons s r=>vg (mS s) (mSs r)
end
end
end
variable{f:Pos->Bool}{b:Bool}{e:Expr}{es:List Expr}{env:Env}{l:Nat}
section
structure Ctx where
 Γ:List Str
 N:List Str
 sc:Scope
 fn:List Str
 cs:List (Str×D)
 lm:Nat
 nm:Str
noncomputable def glB(sc:Scope)(x:Str):Bool:=sc.names.lookup x==S .globalImplicit
noncomputable def yH(sc:Scope)(x:Str):Bool:=sc.names.lookup x==S .local || sc.names.lookup x==S .cell || sc.names.lookup x==S .free
noncomputable def yI(sc:Scope)(x:Str):Bool:=sc.names.lookup x==S .local || sc.names.lookup x==S .cell
noncomputable def aQ:Expr->Bool
 |.Starred ..=>Up
 |_=>Uo
noncomputable def wc:Expr->Bool
 |.Name ..|.Call ..|.Subscript ..|.Constant ..|.BinOp ..|.Attribute ..=>Uo
 |_=>Up
noncomputable def kz:Expr->Bool
 |.Slice ..=>Up
 |_=>Uo
noncomputable def jG:Expr->Bool
 |.ListComp ..|.SetComp ..|.DictComp ..=>Up
 |_=>Uo
noncomputable def nI:Expr->Bool
 |.Set ..=>Up
 |_=>Uo
noncomputable def fL:Expr->Bool
 |.Call _ (_::_) _ _=>Uo
 |.Call ..=>Up
 |_=>Uo
noncomputable def opO:BOp->RN
 |.add=>.Add|.sub=>.Sub|.mul=>.Mult|.fdiv=>.FloorDiv|.mod=>.Mod|.pow=>.Pow
noncomputable def iU:COp->QL
 |.eq=>.Eq|.ne=>.NotEq|.lt=>.Lt|.le=>.LtE|.gt=>.Gt|.ge=>.GtE|.is=>.Is|.isn=>.IsNot| .neE=>.NotEq|.inS=>.In|.inD=>.In|.ninD=>.NotIn|.inT=>.In|.ninS=>.NotIn
noncomputable def pP:BF->Str
 |.len=>"len"| .lenK=>"len"| .abs=>"abs"|.max2=>"max"|.min2=>"min"|.int=>"int"|.list=>"list"| .sum=>"sum"|.all=>"all"| .sorts=>"sorted"
noncomputable def CG:MF->Str
 |.append=>"append"
noncomputable def bltNames:List Str:=["len","abs","max","min","int","list","tuple","sum","isinstance","range","bool","str","dict","zip","enumerate","reversed","sorted","all","any","set"]
noncomputable def iV(sc osc:Scope):Scope:={sc with names:=sc.names.map λ(n,k)=>if(k==.free&&osc.kind==.function&&osc.names.lookup n==S .cell)then(n,.cell)else(n,k)}
theorem qV(sc:Scope)(env:Env):relabel sc env=iV sc env.scope:=rfl
noncomputable def yJ(sc osc:Scope)(oN N':List Str)(fr:List (Option Nat)):Bool:=
 decide (sc.kind=.function)&&decide ((sc.names.map (·.1)).Nodup)&&decide (N'.Nodup)
  && sc.names.all (λx=>!(x.2==.free) || osc.names.lookup x.1==S .cell || osc.names.lookup x.1==S .free)
  && decide (fr.length=N'.length)
  && (L4 N'.length).all λi=>match fr[i]?,N'[i]? with
   |some (S j),S x=>decide (oN[j]?=S x)&&sc.names.any (λy=>decide (y=(x,Ki)))
   |_,_=>Uo
theorem pk{p:Prop}[d:Decidable p]{t:p->Bool}(h:dite p t (λ_=>Up)=Uo):∃c,t c=Uo:=by
 cases d with
 |isTrue c=>exact⟨c,h⟩
 |isFalse c=>cases h
noncomputable def cZ(e:Expr)(f:Str->Pos->Bool):Bool:=if h:e.ctorIdx=23 then @TL.elim (λ_=>Bool) e h f else Up
@[elab_as_elim]
theorem dM{P:Expr->Prop}(e:Expr){f:Str->Pos->Bool}(h:cZ e f=Uo)(k:∀a b,f a b=Uo->P (.Name a b)):P e:=(pk h).elim λc=>@TL.elim (λe=>∀c,@TL.elim (λ_=>Bool) e c f=Uo->P e) e c (λa b _=>k a b) c
noncomputable def dq(e:Expr)(f:Const->Nat->Pos->Bool):Bool:=if h:e.ctorIdx=19 then @Ri.elim (λ_=>Bool) e h f else Up
@[elab_as_elim]
theorem eX{P:Expr->Prop}(e:Expr){f:Const->Nat->Pos->Bool}(h:dq e f=Uo)(k:∀a b c,f a b c=Uo->P (.Constant a b c)):P e:=(pk h).elim λc=>@Ri.elim (λe=>∀c,@Ri.elim (λ_=>Bool) e c f=Uo->P e) e c (λa b c _=>k a b c) c
noncomputable def we(e:Expr)(f:Expr->RN->Expr->Pos->Bool):Bool:=if h:e.ctorIdx=2 then @Tx.elim (λ_=>Bool) e h f else Up
@[elab_as_elim]
theorem CH{P:Expr->Prop}(e:Expr){f:Expr->RN->Expr->Pos->Bool}(h:we e f=Uo)(k:∀a b c d,f a b c d=Uo->P (.BinOp a b c d)):P e:=(pk h).elim λc=>@Tx.elim (λe=>∀c,@Tx.elim (λ_=>Bool) e c f=Uo->P e) e c (λa b c d _=>k a b c d) c
noncomputable def g8(e:Expr)(f:UnaryOp->Expr->Pos->Bool):Bool:=if h:e.ctorIdx=3 then @Sk.elim (λ_=>Bool) e h f else Up
@[elab_as_elim]
theorem iW{P:Expr->Prop}(e:Expr){f:UnaryOp->Expr->Pos->Bool}(h:g8 e f=Uo)(k:∀a b c,f a b c=Uo->P (.UnaryOp a b c)):P e:=(pk h).elim λc=>@Sk.elim (λe=>∀c,@Sk.elim (λ_=>Bool) e c f=Uo->P e) e c (λa b c _=>k a b c) c
noncomputable def eF(e:Expr)(f:Expr->List QL->List Expr->Pos->Bool):Bool:=if h:e.ctorIdx=15 then @Sl.elim (λ_=>Bool) e h f else Up
@[elab_as_elim]
theorem gb{P:Expr->Prop}(e:Expr){f:Expr->List QL->List Expr->Pos->Bool}(h:eF e f=Uo)(k:∀a b c d,f a b c d=Uo->P (.Compare a b c d)):P e:=(pk h).elim λc=>@Sl.elim (λe=>∀c,@Sl.elim (λ_=>Bool) e c f=Uo->P e) e c (λa b c d _=>k a b c d) c
noncomputable def fM(e:Expr)(f:BoolOp->List Expr->Pos->Bool):Bool:=if h:e.ctorIdx=0 then @T3.elim (λ_=>Bool) e h f else Up
@[elab_as_elim]
theorem iq{P:Expr->Prop}(e:Expr){f:BoolOp->List Expr->Pos->Bool}(h:fM e f=Uo)(k:∀a b c,f a b c=Uo->P (.BoolOp a b c)):P e:=(pk h).elim λc=>@T3.elim (λe=>∀c,@T3.elim (λ_=>Bool) e c f=Uo->P e) e c (λa b c _=>k a b c) c
noncomputable def wf(e:Expr)(f:Expr->Expr->Expr->Pos->Bool):Bool:=if h:e.ctorIdx=5 then @Tz.elim (λ_=>Bool) e h f else Up
@[elab_as_elim]
theorem CI{P:Expr->Prop}(e:Expr){f:Expr->Expr->Expr->Pos->Bool}(h:wf e f=Uo)(k:∀a b c d,f a b c d=Uo->P (.IfExp a b c d)):P e:=(pk h).elim λc=>@Tz.elim (λe=>∀c,@Tz.elim (λ_=>Bool) e c f=Uo->P e) e c (λa b c d _=>k a b c d) c
noncomputable def du(e:Expr)(f:List Expr->Nat->Pos->Bool):Bool:=if h:e.ctorIdx=25 then @TB.elim (λ_=>Bool) e h f else Up
@[elab_as_elim]
theorem eG{P:Expr->Prop}(e:Expr){f:List Expr->Nat->Pos->Bool}(h:du e f=Uo)(k:∀a b c,f a b c=Uo->P (.Tuple a b c)):P e:=(pk h).elim λc=>@TB.elim (λe=>∀c,@TB.elim (λ_=>Bool) e c f=Uo->P e) e c (λa b c _=>k a b c) c
noncomputable def zA(e:Expr)(f:List Expr->Pos->Bool):Bool:=if h:e.ctorIdx=24 then @TM.elim (λ_=>Bool) e h f else Up
@[elab_as_elim]
theorem E2{P:Expr->Prop}(e:Expr){f:List Expr->Pos->Bool}(h:zA e f=Uo)(k:∀a b,f a b=Uo->P (.List a b)):P e:=(pk h).elim λc=>@TM.elim (λe=>∀c,@TM.elim (λ_=>Bool) e c f=Uo->P e) e c (λa b _=>k a b) c
noncomputable def dN(e:Expr)(f:Expr->Expr->Pos->Bool):Bool:=if h:e.ctorIdx=21 then @QY.elim (λ_=>Bool) e h f else Up
@[elab_as_elim]
theorem gc{P:Expr->Prop}(e:Expr){f:Expr->Expr->Pos->Bool}(h:dN e f=Uo)(k:∀a b c,f a b c=Uo->P (.Subscript a b c)):P e:=(pk h).elim λc=>@QY.elim (λe=>∀c,@QY.elim (λ_=>Bool) e c f=Uo->P e) e c (λa b c _=>k a b c) c
noncomputable def tP(e:Expr)(f:Expr->List Expr->List Oa->Pos->Bool):Bool:=if h:e.ctorIdx=16 then @TN.elim (λ_=>Bool) e h f else Up
@[elab_as_elim]
theorem zB{P:Expr->Prop}(e:Expr){f:Expr->List Expr->List Oa->Pos->Bool}(h:tP e f=Uo)(k:∀a b c d,f a b c d=Uo->P (.Call a b c d)):P e:=(pk h).elim λc=>@TN.elim (λe=>∀c,@TN.elim (λ_=>Bool) e c f=Uo->P e) e c (λa b c d _=>k a b c d) c
noncomputable def jH(e:Expr)(f:Expr->Str->Pos->Bool):Bool:=if h:e.ctorIdx=20 then @QZ.elim (λ_=>Bool) e h f else Up
@[elab_as_elim]
theorem tQ{P:Expr->Prop}(e:Expr){f:Expr->Str->Pos->Bool}(h:jH e f=Uo)(k:∀a b c,f a b c=Uo->P (.Attribute a b c)):P e:=(pk h).elim λc=>@QZ.elim (λe=>∀c,@QZ.elim (λ_=>Bool) e c f=Uo->P e) e c (λa b c _=>k a b c) c
noncomputable def mz(e:Expr)(f:Expr->List Kz->Scope->Pos->Bool):Bool:=if h:e.ctorIdx=8 then @Rj.elim (λ_=>Bool) e h f else Up
@[elab_as_elim]
theorem wg{P:Expr->Prop}(e:Expr){f:Expr->List Kz->Scope->Pos->Bool}(h:mz e f=Uo)(k:∀a b c d,f a b c d=Uo->P (.ListComp a b c d)):P e:=(pk h).elim λc=>@Rj.elim (λe=>∀c,@Rj.elim (λ_=>Bool) e c f=Uo->P e) e c (λa b c d _=>k a b c d) c
noncomputable def tR(e:Expr)(f:List (Option Expr)->List Expr->Pos->Bool):Bool:=if h:e.ctorIdx=6 then @TQ.elim (λ_=>Bool) e h f else Up
@[elab_as_elim]
theorem zC{P:Expr->Prop}(e:Expr){f:List (Option Expr)->List Expr->Pos->Bool}(h:tR e f=Uo)(k:∀a b c,f a b c=Uo->P (.Dict a b c)):P e:=(pk h).elim λc=>@TQ.elim (λe=>∀c,@TQ.elim (λ_=>Bool) e c f=Uo->P e) e c (λa b c _=>k a b c) c
noncomputable def eI(e:Stmt)(f:List Expr->Expr->Pos->Bool):Bool:=if h:e.ctorIdx=5 then @T5.elim (λ_=>Bool) e h f else Up
@[elab_as_elim]
theorem gd{P:Stmt->Prop}(e:Stmt){f:List Expr->Expr->Pos->Bool}(h:eI e f=Uo)(k:∀a b c,f a b c=Uo->P (.Assign a b c)):P e:=(pk h).elim λc=>@T5.elim (λe=>∀c,@T5.elim (λ_=>Bool) e c f=Uo->P e) e c (λa b c _=>k a b c) c
noncomputable def pQ(e:Stmt)(f:List Expr->Pos->Bool):Bool:=if h:e.ctorIdx=4 then @T6.elim (λ_=>Bool) e h f else Up
@[elab_as_elim]
theorem yK{P:Stmt->Prop}(e:Stmt){f:List Expr->Pos->Bool}(h:pQ e f=Uo)(k:∀a b,f a b=Uo->P (.Delete a b)):P e:=(pk h).elim λc=>@T6.elim (λe=>∀c,@T6.elim (λ_=>Bool) e c f=Uo->P e) e c (λa b _=>k a b) c
noncomputable def wj(e:Stmt)(f:Expr->Pos->Bool):Bool:=if h:e.ctorIdx=24 then @TR.elim (λ_=>Bool) e h f else Up
@[elab_as_elim]
theorem CJ{P:Stmt->Prop}(e:Stmt){f:Expr->Pos->Bool}(h:wj e f=Uo)(k:∀a b,f a b=Uo->P (.Expr a b)):P e:=(pk h).elim λc=>@TR.elim (λe=>∀c,@TR.elim (λ_=>Bool) e c f=Uo->P e) e c (λa b _=>k a b) c
noncomputable def pR(e:Stmt)(f:Option Expr->Pos->Bool):Bool:=if h:e.ctorIdx=3 then @T7.elim (λ_=>Bool) e h f else Up
@[elab_as_elim]
theorem yL{P:Stmt->Prop}(e:Stmt){f:Option Expr->Pos->Bool}(h:pR e f=Uo)(k:∀a b,f a b=Uo->P (.Return a b)):P e:=(pk h).elim λc=>@T7.elim (λe=>∀c,@T7.elim (λ_=>Bool) e c f=Uo->P e) e c (λa b _=>k a b) c
noncomputable def CK(e:Stmt)(f:Expr->List Stmt->List Stmt->Pos->Bool):Bool:=if h:e.ctorIdx=12 then @Stmt.If.elim (λ_=>Bool) e h f else Up
@[elab_as_elim]
theorem EZ{P:Stmt->Prop}(e:Stmt){f:Expr->List Stmt->List Stmt->Pos->Bool}(h:CK e f=Uo)(k:∀a b c d,f a b c d=Uo->P (.If a b c d)):P e:=(pk h).elim λc=>@Stmt.If.elim (λe=>∀c,@Stmt.If.elim (λ_=>Bool) e c f=Uo->P e) e c (λa b c d _=>k a b c d) c
noncomputable def zD(e:Stmt)(f:Expr->Expr->List Stmt->List Stmt->Pos->Bool):Bool:=if h:e.ctorIdx=9 then @Stmt.For.elim (λ_=>Bool) e h f else Up
@[elab_as_elim]
theorem E3{P:Stmt->Prop}(e:Stmt){f:Expr->Expr->List Stmt->List Stmt->Pos->Bool}(h:zD e f=Uo)(k:∀a b c d e,f a b c d e=Uo->P (.For a b c d e)):P e:=(pk h).elim λc=>@Stmt.For.elim (λe=>∀c,@Stmt.For.elim (λ_=>Bool) e c f=Uo->P e) e c (λa b c d e _=>k a b c d e) c
noncomputable def rQ(e:Stmt)(f:Expr->List Stmt->List Stmt->Pos->Bool):Bool:=if h:e.ctorIdx=11 then @TF.elim (λ_=>Bool) e h f else Up
@[elab_as_elim]
theorem B3{P:Stmt->Prop}(e:Stmt){f:Expr->List Stmt->List Stmt->Pos->Bool}(h:rQ e f=Uo)(k:∀a b c d,f a b c d=Uo->P (.While a b c d)):P e:=(pk h).elim λc=>@TF.elim (λe=>∀c,@TF.elim (λ_=>Bool) e c f=Uo->P e) e c (λa b c d _=>k a b c d) c
noncomputable def wk(e:Stmt)(f:Pos->Bool):Bool:=if h:e.ctorIdx=25 then @TU.elim (λ_=>Bool) e h f else Up
@[elab_as_elim]
theorem CL{P:Stmt->Prop}(e:Stmt)(h:wk e f=Uo)(k:∀a,f a=Uo->P (.Pass a)):P e:=(pk h).elim λc=>@TU.elim (λe=>∀c,@TU.elim (λ_=>Bool) e c f=Uo->P e) e c (λa _=>k a) c
noncomputable def rR(e:Stmt)(f:Pos->Bool):Bool:=if h:e.ctorIdx=26 then @TH.elim (λ_=>Bool) e h f else Up
@[elab_as_elim]
theorem B4{P:Stmt->Prop}(e:Stmt)(h:rR e f=Uo)(k:∀a,f a=Uo->P (.Break a)):P e:=(pk h).elim λc=>@TH.elim (λe=>∀c,@TH.elim (λ_=>Bool) e c f=Uo->P e) e c (λa _=>k a) c
noncomputable def jI(e:Stmt)(f:Pos->Bool):Bool:=if h:e.ctorIdx=27 then @Rk.elim (λ_=>Bool) e h f else Up
@[elab_as_elim]
theorem tS{P:Stmt->Prop}(e:Stmt)(h:jI e f=Uo)(k:∀a,f a=Uo->P (.Continue a)):P e:=(pk h).elim λc=>@Rk.elim (λe=>∀c,@Rk.elim (λ_=>Bool) e c f=Uo->P e) e c (λa _=>k a) c
noncomputable def lv0{α:Type}(xs:List α)(b:Bool):Bool:=xs.isEmpty&&b
noncomputable def lvc{α:Type}(xs:List α)(f:α->List α->Bool):Bool:=match xs with
 |y::r=>f y r
 |[]=>Up
noncomputable def lv1{α:Type}(xs:List α)(f:α->Bool):Bool:=lvc xs λy r=>lv0 r (f y)
noncomputable def lv2{α:Type}(xs:List α)(f:α->α->Bool):Bool:=lvc xs λy r=>lv1 r (f y)
noncomputable def lv3{α:Type}(xs:List α)(f:α->α->α->Bool):Bool:=lvc xs λy r=>lv2 r (f y)
noncomputable def os{α:Type}(o:Option α)(f:α->Bool):Bool:=match o with
 |some x=>f x
 |none=>Up
@[elab_as_elim]
theorem iX{α:Type}{P:List α->Prop}(xs:List α)(h:lv0 xs b=Uo)(k:b=Uo->P []):P xs:=by
 cases xs with
 |nil=>exact k h
 |cons _ _=>cases h
@[elab_as_elim]
theorem yM{α:Type}{P:List α->Prop}(xs:List α){f:α->List α->Bool}(h:lvc xs f=Uo)(k:∀y r,f y r=Uo->P (y::r)):P xs:=by
 cases xs with
 |nil=>cases h
 |cons y r=>exact k y r h
@[elab_as_elim]
theorem cJ{α:Type}{P:List α->Prop}(xs:List α){f:α->Bool}(h:lv1 xs f=Uo)(k:∀y,f y=Uo->P [y]):P xs:=yM xs h λy r h=>iX r h λh=>k y h
@[elab_as_elim]
theorem fi{α:Type}{P:List α->Prop}(xs:List α){f:α->α->Bool}(h:lv2 xs f=Uo)(k:∀y z,f y z=Uo->P [y,z]):P xs:=yM xs h λy r h=>cJ r h λz h=>k y z h
@[elab_as_elim]
theorem CM{α:Type}{P:List α->Prop}(xs:List α){f:α->α->α->Bool}(h:lv3 xs f=Uo)(k:∀y z u,f y z u=Uo->P [y,z,u]):P xs:=yM xs h λy r h=>fi r h λz u h=>k y z u h
@[elab_as_elim]
theorem jos{α:Type}{P:Option α->Prop}(o:Option α){f:α->Bool}(h:os o f=Uo)(k:∀x,f x=Uo->P (S x)):P o:=by
 cases o with
 |none=>cases h
 |some x=>exact k x h
theorem bS{a:Bool}(h:(a&&b)=Uo):a=Uo/\b=Uo:=by rwa[i5]at h
noncomputable def fN(e:Expr)(g:Str->List Expr->Bool):Bool:=tP e λf xs ks _=>lv0 ks (cZ f λx _=>g x xs)
@[elab_as_elim]
theorem gL{P:Expr->Prop}(e:Expr){g:Str->List Expr->Bool}(h:fN e g=Uo)(k:∀x xs p pos,g x xs=Uo->P (.Call (.Name x p) xs [] pos)):P e:=zB e h λf xs ks pos h=>iX ks h λh=>dM f h λx p h=>k x xs p pos h
noncomputable def jJ(e:Expr)(g:Expr->Str->List Expr->Pos->Pos->Bool):Bool:=tP e λf xs ks p=>lv0 ks (jH f λo n q=>g o n xs q p)
@[elab_as_elim]
theorem nJ{P:Expr->Prop}(e:Expr){g:Expr->Str->List Expr->Pos->Pos->Bool}(h:jJ e g=Uo)(k:∀o n xs q p,g o n xs q p=Uo->P (.Call (.Attribute o n q) xs [] p)):P e:=zB e h λf xs ks pos h=>iX ks h λh=>tQ f h λo n q h=>k o n xs q pos h
mutual
noncomputable def okG:MG->Ctx->Expr->Bool
 |.name i,C,e=>cZ e λx _=>decide (C.N[i]?=S x)&&yI C.sc x&&(C.sc.names.lookup x==S .local || C.fn.contains x)
 |.tup gs,C,e=>du e λes _ _=>okGs gs C es
noncomputable def okGs:MGs->Ctx->List Expr->Bool
 |.nil,_,es=>es.isEmpty
 |.cons g r,C,es=>match es with
  |e::es=>aQ e&&okG g C e&&okGs r C es
  |[]=>Up
end
mutual
noncomputable def okE:ME->Ctx->Expr->Bool
 |.var i,C,e=>cZ e λx _=>decide (C.N[i]?=S x)&&yH C.sc x && !(x==("__debug__":Str)) && !(x==("__classdict__":Str))
 |.int i,_,e=>dq e λc _ _=>decide (c=.int i)
 |.bl i,_,e=>dq e λc _ _=>decide (c=.bool i)
 |.non,_,e=>dq e λc _ _=>decide (c=.none)
 |.str i,_,e=>dq e λc _ _=>decide (c=.str i)
 |.bin op a b,C,e=>we e λl o r _=>decide (o=opO op)&&okE a C l&&okE b C r
 |.neg a,C,e=>g8 e λo x _=>decide (o=.USub)&&okE a C x
 |.cmp op a b,C,e=>eF e λl os rs _=>lv1 os λo=>lv1 rs λr=>decide (o=iU op)&&okE a C l&&okE b C r && !(Mx o r)
 |.and es,C,e=>fM e λo xs _=>decide (o=.And) && !xs.isEmpty&&okEs es C xs
 |.or es,C,e=>fM e λo xs _=>decide (o=.Or) && !xs.isEmpty&&okEs es C xs
 |.not a,C,e=>g8 e λo x _=>decide (o=.Not)&&okE a C x
 |.ite c a b,C,e=>wf e λt x y _=>okT c C t&&okE a C x&&okE b C y
 |.tup es,C,e=>du e λxs _ _=>okEs es C xs
 |.lst es,C,e=>zA e λxs _=>okEs es C xs
 |.ix a b,C,e=>dN e λx y _=>kz y&&okE a C x&&okE b C y
 |.call f es,C,e=>fN e λx xs=>decide (C.Γ[f]?=S x)&&glB C.sc x && !(x==("__debug__":Str))&&okEs es C xs
 |.blt f es,C,e=>fN e λx xs=>decide (x=pP f)&&glB C.sc x && !xs.isEmpty&&okEs es C xs
 |.isin a T,C,e=>fN e λx xs=>lv2 xs λy w=>cZ w λz _=>decide (x="isinstance")&&glB C.sc x&&glB C.sc z&&decide (z=i3 T)&&decide (T∈["bool","int","str","tuple","list","dict"])&&aQ y&&okE a C y
 |.chain op op' a b c,C,e=>eF e λl os rs _=>lv2 os λo o'=>lv2 rs λr q=>decide (o=iU op)&&decide (o'=iU op')&&okE a C l&&okE b C r&&okE c C q && !(Q1 [o,o'] [r,q])
 |.disp es,C,e=>tR e λks vs _=>!ks.isEmpty&&decide (ks.length<=15)&&okPs es C ks vs
 |.dnew _,_,e=>tR e λks vs _=>lv0 ks (lv0 vs Uo)
 |.popk o k,C,e=>jJ e λy n xs ap cp=>lv1 xs λe1=>decide (n="pop")&&fL y&&(ap.endLine==cp.line)&&aQ e1&&okE o C y&&okE k C e1
 |.dget o k x,C,e=>jJ e λy n xs ap cp=>lv2 xs λe1 e2=>decide (n="get")&&fL y&&(ap.endLine==cp.line)&&aQ e1&&aQ e2&&okE o C y&&okE k C e1&&okE x C e2
 |.meth m o a,C,e=>jJ e λx n xs ap cp=>lv1 xs λy=>decide (n=CG m)&&fL x&&(ap.endLine==cp.line)&&aQ y&&okE o C x&&okE a C y
 |.ins o i a,C,e=>jJ e λx n xs ap cp=>lv2 xs λy z=>decide (n="insert")&&fL x&&(ap.endLine==cp.line)&&aQ y&&aQ z&&okE o C x&&okE i C y&&okE a C z
 |.comp fr N' c,C,e=>mz e λelt gens sc _=>yJ sc C.sc C.N N' fr&&okC c C ⟨C.Γ,N',iV sc C.sc,(sc.names.filter (·.2==.cell)).map (·.1),C.cs,0,C.nm⟩ gens elt
noncomputable def okPs:MEs->Ctx->List (Option Expr)->List Expr->Bool
 |.nil,_,ks,vs=>ks.isEmpty&&vs.isEmpty
 |.cons m .nil,_,_,_=>Up
 |.cons m (.cons m2 r),C,ks,vs=>match ks,vs with
  |some e::ks,f::vs=>okE m C e&&okE m2 C f&&okPs r C ks vs
  |_,_=>Up
noncomputable def okEs:MEs->Ctx->List Expr->Bool
 |.nil,_,es=>es.isEmpty
 |.cons m r,C,es=>match es with
  |e::es=>aQ e&&okE m C e&&okEs r C es
  |[]=>Up
noncomputable def okO:MO->Ctx->Option Expr->Bool
 |.none,_,e=>e.isNone
 |.some m,C,e=>match e with
  |some e=>okE m C e
  |none=>Up
noncomputable def okT:MT->Ctx->Expr->Bool
 |.tru m,C,e=>wc e&&okE m C e
 |.cmp op a b,C,e=>eF e λl os rs _=>lv1 os λo=>lv1 rs λr=>decide (o=iU op)&&okE a C l&&okE b C r && !(Mx o r)
 |.chain op op' a b c,C,e=>eF e λl os rs _=>lv2 os λo o'=>lv2 rs λr q=>decide (o=iU op)&&decide (o'=iU op')&&okE a C l&&okE b C r&&okE c C q && !(Q1 [o,o'] [r,q])
 |.and ts,C,e=>fM e λo xs _=>decide (o=.And) && !xs.isEmpty&&okTs ts C xs
 |.or ts,C,e=>fM e λo xs _=>decide (o=.Or) && !xs.isEmpty&&okTs ts C xs
 |.not t,C,e=>g8 e λo x _=>decide (o=.Not)&&okT t C x
noncomputable def okTs:MTs->Ctx->List Expr->Bool
 |.nil,_,es=>es.isEmpty
 |.cons m r,C,es=>match es with
  |e::es=>okT m C e&&okTs r C es
  |[]=>Up
noncomputable def okI:MI->Ctx->Expr->Expr->Bool
 |.seq m,C,_,e=>nI e&&okE m C e
 |.rng1 a,C,_,e=>fN e λx xs=>lv1 xs λy=>decide (x="range")&&glB C.sc x&&aQ y&&okE a C y
 |.enum a,C,t,e=>fN e λx xs=>lv1 xs λy=>du t λ_ _ _=>decide (x="enumerate")&&glB C.sc x&&aQ y&&okE a C y
noncomputable def okC:MC->Ctx->Ctx->List Kz->Expr->Bool
 |.last src g ifs m,Cs,C,gens,elt=>match gens with
  |[⟨t,it,fs,a⟩]=>decide (a=0)&&okI src Cs t it&&okG g C t&&okTs ifs C fs&&okE m C elt
  |_=>Up
 |.more src g ifs rest,Cs,C,gens,elt=>match gens with
  |⟨t,it,fs,a⟩::g2::gs=>decide (a=0)&&okI src Cs t it&&okG g C t&&okTs ifs C fs&&okC rest C C (g2::gs) elt
  |_=>Up
end
noncomputable def bo(sc:Scope)(ts:List Expr):List Str:=ts.filterMap fun
 |.Name id pos=>if sc.names.lookup id==S .local&&pos.line==(ts.head?.map (·.pos.line)).getD 0 then S id else Z
 |_=>Z
noncomputable def tT(sc:Scope)(ts vs:List Expr):Bool:=!(ts.length==2 || ts.length==3) || vs.length != ts.length || (bo sc ts).length != ts.length || (bo sc ts).eraseDups.length != (bo sc ts).length || vs.all (Rl 8)
noncomputable def iY(C:Ctx)(i:Nat)(x:Str):Bool:=decide (C.N[i]?=S x)&&decide (C.sc.names.lookup x=S .local)
noncomputable def nK(sc:Scope)(ts vs:List Expr)(ns:List Str):Bool:=!(!(ts.length==2 || ts.length==3) || vs.length != ts.length) && !(vs.any λ| .Starred ..=>Uo|_=>Up)&&decide (bo sc ts=ns) && !((bo sc ts).length != ts.length || (bo sc ts).eraseDups.length != (bo sc ts).length) && !(vs.all (Rl 8)) && !(vs.all (constantsAlone 8))
noncomputable def zE(sc:Scope)(tg e:Expr):Bool:=match tg,e with
 |.Tuple ts _ _,.Tuple vs _ _=>tT sc ts vs
 |.Tuple ..,_=>Uo
 |.Name ..,_=>Uo
 |_,_=>Up
noncomputable def CN(sc:Scope)(x:Str)(px:Pos)(e:Expr):Bool:=match e with
 |.DictComp _ _ _ s _=>!(sc.names.lookup x==S .local&&px.line==e.pos.line && !(s.names.any λ(n,k)=>n==x&&(k==.local || k==.cell)))
 |_=>Uo
noncomputable def tU(sc:Scope)(x:Str)(px:Pos)(e:Expr):Bool:=match e with
 |.ListComp _ _ s _=>sc.names.lookup x==S .local&&px.line==e.pos.line && !(s.names.any λ(n,k)=>n==x&&(k==.local || k==.cell))
 |_=>Up
mutual
noncomputable def okS:MS->Ctx->Stmt->Bool
 |.asg g m,C,s=>eI s λts e _=>lv1 ts λtg=>okG g C tg&&okE m C e&&zE C.sc tg e&&(match tg with|.Name x px=>CN C.sc x px e|_=>jG e)
 |.par i j a b,C,s=>eI s λts e _=>lv1 ts λtg=>du tg λts _ _=>du e λes _ _=>lv2 ts λt u=>lv2 es λe f=>cZ t λx px=>cZ u λy py=>iY C i x&&iY C j y&&decide (i≠j)&&aQ e&&aQ f&&okE a C e&&okE b C f&&nK C.sc [.Name x px,.Name y py] [e,f] [x,y]
 |.par3 i j l a b c,C,s=>eI s λts e _=>lv1 ts λtg=>du tg λts _ _=>du e λes _ _=>lv3 ts λt u v=>lv3 es λe f g=>cZ t λx px=>cZ u λy py=>cZ v λz pz=>iY C i x&&iY C j y&&iY C l z&&decide (i≠j)&&decide (i≠l)&&decide (j≠l)&&aQ e&&aQ f&&aQ g&&okE a C e&&okE b C f&&okE c C g&&nK C.sc [.Name x px,.Name y py,.Name z pz] [e,f,g] [x,y,z]
 |.put o i m,C,s=>eI s λts e _=>lv1 ts λtg=>dN tg λx y _=>kz y&&jG e&&okE o C x&&okE i C y&&okE m C e
 |.drop m,C,s=>wj s λe _=>jG e&&okE m C e
 |.ret m,C,s=>pR s λo _=>os o λe=>okE m C e
 |.ite c a b,C,s=>CK s λt x y _=>okT c C t&&okSs a C x&&okSs b C y
 |.for g src b,C,s=>zD s λtg it body els _=>lv0 els (nI it&&okG g C tg&&okI src C tg it&&okSs b C body)
 |.while c b,C,s=>rQ s λt body els _=>lv0 els (okT c C t&&okSs b C body)
 |.delk o k,C,s=>pQ s λts _=>lv1 ts λt=>dN t λx y _=>okE o C x&&okE k C y
 |.bot,_,_=>Uo
 |.pass,_,s=>wk s λ_=>Uo
 |.brk,_,s=>rR s λ_=>Uo
 |.cnt,_,s=>jI s λ_=>Uo
noncomputable def okSs:MSs->Ctx->List Stmt->Bool
 |.nil,_,ss=>ss.isEmpty
 |.cons m r,C,ss=>match ss with
  |s::ss=>okS m C s&&okSs r C ss
  |[]=>Up
end
theorem aq(h:aQ e=Uo):JU (e::es) env=(Up,eval e env)::JU es env:=by cases e<;>first|rfl|(cases h;done)
theorem mC(h:aQ e=Uo):LF (e::es) env=(Up,assign e env)::LF es env:=by cases e<;>first|rfl|(cases h;done)
theorem tV(h:wc e=Uo):∀whole,isTrue e env whole=(do let v <-whole;O6 e.pos;holding [v] (truthy v)):=by
 intro w
 cases e<;>first|rfl|(cases h;done)
theorem yN(h:kz e=Uo):jS e:=by
 intro o i
 cases e<;>first|rfl|(cases h;done)
theorem pS(h:nI e=Uo):∀x,Lv e env x=pure x:=by
 intro x
 cases e<;>first|rfl|(cases h;done)
theorem gf{n:Str}(h:fL e=Uo):Nb e n env (eval e env)=eval e env:=by
 cases e<;>first
  |rfl
  | (rename_i f xs _ _;cases xs with
     |nil=>cases h
     |cons _ _=>cases f<;>rfl)
theorem kA{t:Option Expr}(h:jG e=Uo):LD e t l env=pure Up:=by cases e<;>first|rfl|(cases h;done)
end
variable{x:Str}{p pos:Pos}{sc:Scope}
section
noncomputable def lSp(K:Frag)(r:RAd):Sp:=λvs H Q _=>lR K r vs H Q
noncomputable def E4(Φ:Phi)(j:Nat)(gs:List D)(js:List Nat):RAd:=λargs M Q=>args.length=2/\Φ (4000+j) (js.map λi=>(gs++args).getD i .non) M Q
noncomputable def spC(P:JR)(w:K8)(K:Frag)(mg:Str->Option h6)(base:Heap)(k:Nat)(Φ:Phi)(i:Nat):List Env->i4->Sp:=λouter s vs H Q _=>∃(ds:List D) (a:Uq) (j:Nat) (gs:List D) (js:List Nat) (M:Mem),RM K M H/\RDs K H (ds++[.ref a]) vs/\DE P w K mg base (k-1) (frs outer) a (lSp K (E4 Φ j gs js)) H s.heap/\Φ (1000+i) (ds++[.ref a,.int j,.tup gs,.tup (js.map λi:Nat=>.int i)]) M (KE' K M H Q)
def CO(X:Cx)(a:Uq)(r:RAd):Prop:=∀(pins:List (Uq×Obj)) (s:i4) (σ:St) (H:Hp) (vs:List V) (us:List h6) (Q:VK),Inv X pins σ H s->Vals vs us->lR X.K r vs H Q->
 PySem.W.FnAt a s.heap/\JK (model X.prog X.w) X.A (call (.ref a) us) (EP X pins σ Q) X.xe s
structure CP(C:Ctx)(Φ:Phi)(k:Nat)(X:Cx)(P:Uq):Prop where
 cd:∃c,X.env.code=.ref c/\PySem.W.CodeHd X.base c P
 bm:EU X.mg X.base
 qu:X.env.qual=C.nm++(".<locals>.":Str)
 spc:∀(i:Nat) (x:Str),C.Γ[i]?=S x->∃f fd ps,X.mg x=S (.ref f)/\Lw X.K (.ref f)=Uo/\Binds X.K fd ps []/\DG X.prog X.w X.K X.mg X.base k f fd ps (spC X.prog X.w X.K X.mg X.base k Φ i)
 low:∀(j:Nat) (x:Str),C.Γ[j]?=S x->∃f fd ps,X.mg x=S (.ref f)/\Lw X.K (.ref f)=Uo/\Binds X.K fd ps []/\bF X.prog X.w X.K X.mg X.base CX0 (k-2) f fd ps (lSp X.K (Φ (4000+j)))
 big:(∃k0,k=k0+2)∨∀(j:Nat) (x:Str),C.Γ[j]?=S x->∀ds M Q,¬Φ (4000+j) ds M Q
structure Good(C:Ctx)(Φ:Phi)(k:Nat)(X:Cx):Prop where
 hx:∀e s,X.xe e s->False
 calm:X.calm=Uo
 N:X.N=C.N
 sc:X.env.scope=C.sc
 nd:X.N.Nodup
 fn:∀x∈C.fn,X.fn x=Uo
 room:Room k X.A
 mgB:∀x∈bltNames,X.mg x=Z
 fns:∀(i:Nat) (x:Str),C.Γ[i]?=S x->∃f fd ps,X.mg x=S (.ref f)/\ND X.K KR x=S (S (.ref f))/\Lw X.K (.ref f)=Uo/\Binds X.K fd ps []/\bF X.prog X.w X.K X.mg X.base CX0 k f fd ps (lSp X.K (Φ i))
 mono:∀f,b8 (Φ f)
 cs:∀x d,(x,d)∈C.cs->∃u,X.mg x=S u/\GV X.K d u
 clo:C.lm=1->∀a,CO X a (Φ (5000+a))
 lam:∀P,C.lm=P+2->CP C Φ k X P
section
variable{C:Ctx}{Φ:Phi}{k:Nat}{X:Cx}
theorem Good.units(G:Good C Φ k X):X.A.units+64<Mj:=G.room.units
theorem Good.gl(G:Good C Φ k X)(h:glB C.sc x=Uo):Gl X x:=by show X.env.scope.names.lookup x=_;rw[G.sc];simpa[glB]using h
theorem Good.vis(G:Good C Φ k X)(h:yH C.sc x=Uo):Vis X.env.scope x:=by
 unfold Vis;rw[G.sc];simp[yH]at h
 rcases h with(h|h)|h
 ·exact .inl h
 ·exact .inr (.inl h)
 ·exact .inr (.inr h)
theorem Good.loc(G:Good C Φ k X)(h:yI C.sc x=Uo):Loc X.env.scope x:=by unfold Loc;rw[G.sc];simpa[yI]using h
theorem Good.own(G:Good C Φ k X)(h:(C.sc.names.lookup x==S .local || C.fn.contains x)=Uo):X.fn x=Uo∨X.env.scope.names.lookup x=S .local:=by
 rw[G.sc];simp at h
 rcases h with h|h
 ·exact .inr h
 ·exact .inl (G.fn x h)
theorem CQ(G:Good C Φ k X):∀o:BOp,OpR X (Lj (opO o)) (l2 X.K (opB o))
 |.add=>xC|.sub=>xE|.mul=>xF|.fdiv=>uW|.mod=>xH|.pow=>xI
theorem dU(G:Good C Φ k X):∀o:COp,OpR X (Kb (iU o)) (l2 X.K (opC o))
 |.eq=>Ac (by have:=G.units;lia)|.ne=>Ad (by have:=G.units;lia)|.lt=>Ai|.le=>Aj|.gt=>Ak|.ge=>Al|.is=>AD|.isn=>yf| .neE=>yB (by have:=G.units;lia)|.inS=>yt|.inD=>yu (by have:=G.units;lia)|.ninD=>vS (by have:=G.units;lia)|.inT=>yz|.ninS=>vX
theorem CS(G:Good C Φ k X){f:BF}{t:TAd}(mt:bb t)(z:Gl X (pP f))(F:PA X (e::es) (lA X.K t))(he:JU (e::es) X.env=(Up,eval e X.env)::JU es X.env)(j:(LA pos (JU es X.env)).any (·.1)=Up):PE X (.Call (.Name (pP f) p) (e::es) [] pos) (lE X.K (wAr (opF f) t)):=by
 cases f with
 |lenK=>exact PE.imp (bp qT z (G.mgB _ (by decide)) PySem.boot_len F (by decide) (by decide) he j) (bP mn mt)
 |len=>exact PE.imp (bp sU z (G.mgB _ (by decide)) PySem.boot_len F (by decide) (by decide) he j) (bP oJ mt)
 |abs=>exact PE.imp (bp sV z (G.mgB _ (by decide)) (by decide +kernel) F (by decide) (by decide) he j) (bP oK mt)
 |max2=>exact PE.imp (bp (qK G.calm) z (G.mgB _ (by decide)) (by decide +kernel) F (by decide) (by decide) he j) (bP lu mt)
 |min2=>exact PE.imp (bp (qL G.calm) z (G.mgB _ (by decide)) (by decide +kernel) F (by decide) (by decide) he j) (bP lw mt)
 |int=>exact PE.imp (kX sW z (G.mgB _ (by decide)) (by decide +kernel) F (by decide) (by decide) he j) (bP oM mt)
 |list=>exact PE.imp (kX qM z (G.mgB _ (by decide)) (by decide +kernel) F (by decide) (by decide) he j) (bP lB mt)
 |sum=>exact PE.imp (bp (sY G.calm) z (G.mgB _ (by decide)) (by decide +kernel) F (by decide) (by decide) he j) (bP oP mt)
 |all=>exact PE.imp (bp (tG G.calm) z (G.mgB _ (by decide)) (by decide +kernel) F (by decide) (by decide) he j) (bP oW mt)
 |sorts=>exact PE.imp (bp (pG (by have:=G.units;lia) G.calm) z (G.mgB _ (by decide)) (by decide +kernel) F (by decide) (by decide) he j) (bP jE mt)
theorem B5(G:Good C Φ k X){f:Nat}{t:TAd}(mt:bb t)(hf:C.Γ[f]?=S x)(J:Gl X x)(j:(x==("__debug__":Str))=Up)(L:PA X (e::es) (lA X.K t))(he:JU (e::es) X.env=(Up,eval e X.env)::JU es X.env)(z:(LA pos (JU es X.env)).any (·.1)=Up):PE X (.Call (.Name x p) (e::es) [] pos) (lE X.K (wAr (Φ f) t)):=by
 obtain⟨a,fd,ps,hm,_,hk,O,F⟩:=G.fns f x hf;refine PE.imp (zU F G.room J hm hk O .nil zm L j he z) λσ H Q h=>?_;have h2:=bP (G.mono f) mt σ H Q h;have:(λvs H1=>lSp X.K (Φ f) (vs++[]) H1 Q E0)=λvs H1=>lR X.K (Φ f) vs H1 Q:=by funext vs H1;rw[Kw];rfl
 show(lA X.K t) σ H _;rw[this];exact h2
theorem yO(G:Good C Φ k X){f:Nat}(hf:C.Γ[f]?=S x)(z:Gl X x)(j:(x==("__debug__":Str))=Up):PE X (.Call (.Name x p) [] [] pos) (lE X.K (wAr (Φ f) bN)):=by obtain⟨a,fd,ps,hm,_,hk,J,F⟩:=G.fns f x hf;refine PE.imp (xb F G.room z hm hk J .nil zm j) λσ H Q h=>?_;obtain⟨ρ,M,rs,rm,q⟩:=h;exact⟨[],M,rm,RDs.nil,q⟩
theorem iZ{env:Env}{pos:Pos}:∀{es:List Expr},es.all aQ=Uo->(LA pos (JU es env)).any (·.1)=Up
 |[],_=>rfl
 |e::es,h=>by
  simp only[My,i5]at h;rw[aq h.1];show(Up || (LA pos (JU es env)).any (·.1))=Up
  rw[iZ h.2];rfl
theorem gN:∀{ms:MEs} {es:List Expr},okEs ms C es=Uo->es.all aQ=Uo
 |.nil,[],_=>rfl
 |.nil,_::_,h=>by simp[okEs]at h
 |.cons m r,[],h=>by simp[okEs]at h
 |.cons m r,e::es,h=>by simp only[okEs,i5]at h;simp only[My,i5];exact⟨h.1.1,gN h.2⟩
theorem rS:∀{gs:MGs} {es:List Expr},okGs gs C es=Uo->∀ds ρ ρ',bGs gs ds ρ=S ρ'->ds.length=es.length
 |.nil,es,h,ds,ρ,ρ',e=>by
  simp[okGs]at h;subst h;rw[bGs]at e
  cases ds with
  |nil=>rfl
  |cons _ _=>cases e
 |.cons g r,[],h,_,_,_,_=>by simp[okGs]at h
 |.cons g r,x::es,h,ds,ρ,ρ',e=>by
  simp only[okGs,i5]at h;rw[bGs]at e
  cases ds with
  |nil=>cases e
  |cons d ds=>
   simp only[bf]at e
   cases e1:bG g d ρ with
   |none=>rw[e1]at e;cases e
   |some ρ1=>rw[e1]at e;simp[rS h.2 ds ρ1 ρ' e]
theorem pT{env:Env}:∀{gs:MGs} {es:List Expr},okGs gs C es=Uo->(LF es env).length=es.length/\(LF es env).findIdx? (·.1)=Z
 |.nil,es,h=>by simp[okGs]at h;subst h;exact⟨rfl,rfl⟩
 |.cons g r,[],h=>by simp[okGs]at h
 |.cons g r,x::es,h=>by
  simp only[okGs,i5]at h;obtain⟨a,b⟩:=pT (env:=env) h.2;rw[mC h.1.1];refine⟨by simp[a],?_⟩
  rw[List.findIdx?_cons];simp[b]
mutual
theorem sG(G:Good C Φ k X):∀(m:MG) (e:Expr),okG m C e=Uo->PG X e (lG X.K (bG m))
 |.name i,e,h=>by refine dM e h λx _ h=>?_;simp only[i5]at h;exact Av G.nd (by rw[G.N];exact of_decide_eq_true h.1.1) (G.loc h.1.2) (G.own h.2)
 |.tup gs,e,h=>by refine eG e h λes _ _ h=>?_;rw[bG];obtain⟨a,b⟩:=pT (env:=X.env) h;exact Ck G.calm (rS h) (sGs G gs _ h) a b
theorem sGs(G:Good C Φ k X):∀(m:MGs) (es:List Expr),okGs m C es=Uo->PGs X es (lGs X.K (bGs m))
 |.nil,es,h=>by simp[okGs]at h;subst h;exact Aw
 |.cons g r,[],h=>by simp[okGs]at h
 |.cons g r,e::es,h=>by simp only[okGs,i5]at h;exact xQ (sG G g e h.1.2) (sGs G r es h.2) (by rw[mC h.1.1];rfl)
end
theorem PB.imp{F:Sem Fin->Sem Fin}{t t':TC}(h:PB X F t)(i:∀σ H N,t' σ H N->t σ H N):PB X F t':=λpins s σ H N k Q E I q hk=>h pins s σ H N k Q E I (i _ _ _ q) hk
theorem jK{osc:Scope}{oN N':List Str}{fr:List (Option Nat)}(h:yJ sc osc oN N' fr=Uo):br sc osc oN N' fr:=by
 simp only[yJ,i5,decide_eq_true_eq]at h;obtain⟨⟨⟨⟨⟨h1,h2⟩,L⟩,O⟩,U⟩,Y⟩:=h;refine⟨h1,h2,L,λx hx e=>?_,U,λi j x hi hf=>?_⟩
 ·have F:=Lu.mp O x hx;rw[e]at F;simpa using F
 ·have J:i<N'.length:=(JO.mp hi).1;have z:=Lu.mp Y i (Nm.mpr J);rw[hf,hi]at z;simp only[i5,decide_eq_true_eq,SK]at z;obtain⟨a,y,Um,e⟩:=z;exact⟨a,by rw[<-e];exact Um⟩
theorem Good.blk(G:Good C Φ k X){N':List Str}{fr:List (Option Nat)}(B:br sc C.sc C.N N' fr)(s:i4)(H:Hp)(fp:List Uq):
 Good ⟨C.Γ,N',iV sc C.sc,(sc.names.filter (·.2==.cell)).map (·.1),C.cs,0,C.nm⟩ Φ k (aR X sc N' s H fp):=by
 refine⟨λ_ _ h=>h,G.calm,rfl,?_,B.ndN,λx hx=>?_,G.room,G.mgB,G.fns,G.mono,G.cs,λz=>(by cases z),λ_ z=>(by cases z)⟩
 ·show relabel sc X.env=_;rw[qV,G.sc]
 ·obtain⟨y,F,e⟩:=KD.mp hx;obtain⟨h1,h2⟩:=OM.mp F;obtain⟨n,kd⟩:=y;have j:kd=.cell:=by simpa using h2
  subst j;have e':n=x:=e;subst e';show(sc.names.lookup n==S .cell)=Uo;rw[b9 B.nd h1];rfl
end
end
variable{C:Ctx}
section
section
variable{Φ:Phi}{k:Nat}
theorem dW{X:Cx}(G:Good C Φ k X){F:Sem Fin->Sem Fin}{p:Uq}{tb:TCd}{ifs:List Expr}{ts:List TTd}(mb:bY tb)(mt:∀t∈ts,aN t)(j:PB X F (lC X.K p tb))(z:Kv (λc t=>PT X c t) ifs (ts.map (lT X.K))):
 PB X (λk=>bI ifs X.env>>=λok=>if ok=Uo then F k else k) (lC X.K p (bC ts tb)):=
 PB.imp (xq G.hx j z) (jv mb mt)
theorem gO{m:MC}{Cs:Ctx}{g2:Kz}{gs:List Kz}{elt:Expr}(h:okC m Cs C (g2::gs) elt=Uo):g2.is_async=0:=by
 obtain⟨t,i,f,a⟩:=g2
 cases m with
 |last src g ifs m=>
  cases gs with
  |nil=>simp only[okC,i5,decide_eq_true_eq]at h;exact h.1.1.1.1
  |cons _ _=>simp[okC]at h
 |more src g ifs rest=>
  cases gs with
  |nil=>simp[okC]at h
  |cons _ _=>simp only[okC,i5,decide_eq_true_eq]at h;exact h.1.1.1.1
theorem pU:∀(m:MEs) {C:Ctx} {ks:List (Option Expr)} {vs:List Expr},okPs m C ks vs=Uo->ks.all (·.isSome)=Uo/\ks.length=vs.length
 |.nil,C,ks,vs,h=>by simp[okPs]at h;obtain⟨rfl,rfl⟩:=h;exact⟨rfl,rfl⟩
 |.cons m .nil,C,ks,vs,h=>by simp[okPs]at h
 |.cons m (.cons m2 r),C,ks,vs,h=>by
  match ks,vs with
  |some e::ks,f::vs=>simp only[okPs,i5]at h;obtain⟨a,b⟩:=pU r h.2;exact⟨by rw[My,a];rfl,by rw[Kq,Kq,b]⟩
  |[],_=>simp[okPs]at h
  |none::_,_=>simp[okPs]at h
  |some _::_,[]=>simp[okPs]at h
theorem yP{X:Cx}(G:Good C Φ k X):∀T∈["bool","int","str","tuple","list","dict"],X.mg (i3 T)=Z/\Mp (i3 T)=S (.type T)/\i3 T≠"__name__"/\(i3 T==("__debug__":Str))=Up:=by
 intro T j;simp only[JS,KL,or_false]at j
 rcases j with rfl|rfl|rfl|rfl|rfl|rfl
 all_goals exact⟨G.mgB _ (by decide),by decide +kernel,by decide,by decide⟩
mutual
theorem sE:∀(m:ME) {C:Ctx} {X:Cx} (G:Good C Φ k X) (e:Expr),okE m C e=Uo->PE X e (lE X.K (wE Φ m))
 |.var i,C,X,G,e,h=>by refine dM e h λx _ h=>?_;simp only[i5,Km,decide_eq_true_eq]at h;exact C5 (by rw[G.N];exact h.1.1.1) (G.vis h.1.1.2) h.1.2 h.2
 |.int i,C,X,G,e,h=>by refine eX e h λc _ _ h=>?_;rw[of_decide_eq_true h];exact le_int
 |.bl i,C,X,G,e,h=>by refine eX e h λc _ _ h=>?_;rw[of_decide_eq_true h];exact DL
 |.non,C,X,G,e,h=>by refine eX e h λc _ _ h=>?_;rw[of_decide_eq_true h];exact C6
 |.str i,C,X,G,e,h=>by refine eX e h λc _ _ h=>?_;rw[of_decide_eq_true h];exact C7
 |.bin op a b,C,X,G,e,h=>by refine CH e h λl o r _ h=>?_;simp only[i5,decide_eq_true_eq]at h;rw[h.1.1];exact DM (CQ G op) (pO op) (mE G.mono a) (mE G.mono b) (sE a G _ h.1.2) (sE b G _ h.2)
 |.neg a,C,X,G,e,h=>by
  refine iW e h λo x _ h=>?_;replace h:=bS h;obtain⟨ho,h⟩:=h
  cases of_decide_eq_true ho
  exact DN xJ oF (mE G.mono a) (sE a G _ h)
 |.cmp op a b,C,X,G,e,h=>by refine gb e h λl os rs pos h=>?_;refine cJ os h λo h=>?_;refine cJ rs h λr h=>?_;simp only[i5,decide_eq_true_eq]at h;obtain⟨⟨⟨ho,U⟩,hb⟩,hm⟩:=h;rw[Km]at hm;subst ho;exact C8 (dU G op) (bB op) (mE G.mono a) (mE G.mono b) (sE a G _ U) (sE b G _ hb) hm
 |.and es,C,X,G,e,h=>by
  refine iq e h λo xs _ h=>?_;replace h:=bS h;obtain⟨ho,h⟩:=h;obtain⟨ho,j⟩:=bS ho
  cases of_decide_eq_true ho
  exact sAnds es G _ _ h (by intro z;rw[z]at j;cases j)
 |.or es,C,X,G,e,h=>by
  refine iq e h λo xs _ h=>?_;replace h:=bS h;obtain⟨ho,h⟩:=h;obtain⟨ho,j⟩:=bS ho
  cases of_decide_eq_true ho
  exact sOrs es G _ _ h (by intro z;rw[z]at j;cases j)
 |.not a,C,X,G,e,h=>by
  refine iW e h λo x _ h=>?_;replace h:=bS h;obtain⟨ho,h⟩:=h
  cases of_decide_eq_true ho
  exact Cj (mE G.mono a) (sE a G _ h)
 |.ite c a b,C,X,G,e,h=>by refine CI e h λt x y _ h=>?_;simp only[i5]at h;exact DT (mT G.mono c) (mE G.mono a) (mE G.mono b) (sT c G _ h.1.1) (sE a G _ h.1.2) (sE b G _ h.2)
 |.tup es,C,X,G,e,h=>by refine eG e h λxs _ _ h=>?_;exact Ca (mA G.mono es) (sA es G _ h)
 |.lst es,C,X,G,e,h=>by refine E2 e h λxs _ h=>?_;exact Cb (mA G.mono es) (sA es G _ h)
 |.ix a b,C,X,G,e,h=>by refine gc e h λx y _ h=>?_;simp only[i5]at h;exact DO (EV (by have:=G.units;lia)) rq (mE G.mono a) (mE G.mono b) (sE a G _ h.1.2) (sE b G _ h.2) (yN h.1.1)
 |.call f es,C,X,G,e,h=>by
  refine gL e h λx xs p pos h=>?_;simp only[i5,decide_eq_true_eq,Km]at h;have hA:=sA es G _ h.2;have J:=gN h.2
  cases xs with
  |nil=>
   cases es with
   |nil=>exact yO G h.1.1.1 (G.gl h.1.1.2) h.1.2
   |cons _ _=>simp[okEs]at h
  |cons y ys=>simp only[My,i5]at J;exact B5 G (mA G.mono es) h.1.1.1 (G.gl h.1.1.2) h.1.2 hA (aq J.1) (iZ J.2)
 |.blt f es,C,X,G,e,h=>by
  refine gL e h λx xs p pos h=>?_;simp only[i5,decide_eq_true_eq,Km]at h;have hA:=sA es G _ h.2;have J:=gN h.2;obtain⟨⟨⟨rfl,Y⟩,j⟩,_⟩:=h
  cases xs with
  |nil=>simp at j
  |cons y ys=>simp only[My,i5]at J;exact CS G (mA G.mono es) (G.gl Y) hA (aq J.1) (iZ J.2)
 |.chain op op' a b c,C,X,G,e,h=>by refine gb e h λl os rs pos h=>?_;refine fi os h λo o' h=>?_;refine fi rs h λr q h=>?_;simp only[i5,decide_eq_true_eq,Km]at h;obtain⟨⟨⟨⟨⟨rfl,rfl⟩,U⟩,hb⟩,hc⟩,hm⟩:=h;exact yh (dU G op) (dU G op') (bB op) (bB op') (mE G.mono a) (mE G.mono b) (mE G.mono c) (sE a G _ U) (sE b G _ hb) (sE c G _ hc) hm
 |.disp es,C,X,G,e,h=>by refine zC e h λks vs _ h=>?_;simp only[i5,Km,decide_eq_true_eq]at h;obtain⟨⟨h1,h2⟩,h3⟩:=h;obtain⟨a,b⟩:=pU es h3;exact AU (mA G.mono es) (sPs es G _ _ _ h3) a b (λz=>by rw[z]at h1;cases h1) h2
 |.dnew t,C,X,G,e,h=>by refine zC e h λks vs _ h=>?_;refine iX ks h fun  h=>?_;refine iX vs h fun  h=>?_;exact AF
 |.popk o k',C,X,G,e,h=>by
  refine nJ e h λy n xs ap cp h=>?_;refine cJ xs h λe1 h=>?_;simp only[i5,decide_eq_true_eq]at h;obtain⟨⟨⟨⟨⟨rfl,L⟩,Um⟩,Hf⟩,ho⟩,hk⟩:=h;have st:JU [e1] X.env=[(Up,eval e1 X.env)]:=by rw[aq Hf];rfl
  refine AV (mE G.mono o) (mE G.mono k') (sE o G _ ho) (sE k' G _ hk) ⟨gf L,?_,Um,?_⟩
  ·rw[st];rfl
  ·rw[st];rfl
 |.dget o k' x,C,X,G,e,h=>by
  refine nJ e h λy n xs ap cp h=>?_;refine fi xs h λe1 e2 h=>?_;simp only[i5,decide_eq_true_eq]at h;obtain⟨⟨⟨⟨⟨⟨⟨rfl,L⟩,Um⟩,Hf⟩,O⟩,ho⟩,hk⟩,hx⟩:=h;have st:JU [e1,e2] X.env=[(Up,eval e1 X.env),(Up,eval e2 X.env)]:=by rw[aq Hf,aq O];rfl
  refine AQ (by have:=G.units;lia) (mE G.mono o) (mE G.mono k') (mE G.mono x) (sE o G _ ho) (sE k' G _ hk) (sE x G _ hx) ⟨gf L,?_,Um,?_⟩
  ·rw[st];rfl
  ·rw[st];rfl
 |.isin a T,C,X,G,e,h=>by refine gL e h λx xs p pos h=>?_;refine fi xs h λy w h=>?_;refine dM w h λz p2 h=>?_;simp only[i5,decide_eq_true_eq]at h;obtain⟨⟨⟨⟨⟨⟨rfl,Y⟩,Hg⟩,hz⟩,hT⟩,hs⟩,U⟩:=h;obtain⟨n1,n2,n3,n4⟩:=yP G T hT;subst hz;exact Au hT (mE G.mono a) (sE a G _ U) (G.gl Y) (G.mgB _ (by decide)) (G.gl Hg) n1 n2 n3 n4 (aq hs) rfl
 |.meth m o a,C,X,G,e,h=>by
  refine nJ e h λx n xs ap cp h=>?_;refine cJ xs h λy h=>?_;simp only[i5,decide_eq_true_eq]at h;obtain⟨⟨⟨⟨⟨hn,L⟩,Um⟩,hs⟩,ho⟩,U⟩:=h;subst hn;have pa:PA X [y] (lA X.K (aO (wE Φ a) bN)):=bO (mE G.mono a) aE (sE a G _ U) eg (aq hs);have few:((LA cp (JU [y] X.env)).all (λx=>!x.1)&&(Q4 cp (O3 [] X.env)).all (λx=>x.1.isSome)&&decide (([y]:List Expr).length+([]:List Oa).length+(if([]:List Oa).isEmpty then 0 else 1)<30))=Uo:=by rw[aq hs];rfl
  cases m with
  |append=>exact PE.imp (zk Qe PySem.F.slot_list_append PySem.F.type_list_append kZ (sE o G _ ho) pa (gf L) few Um (aq hs) rfl) (rC iE (mE G.mono o) (av (mE G.mono a) aE) xO)
 |.ins o i a,C,X,G,e,h=>by
  refine nJ e h λx n xs ap cp h=>?_;refine fi xs h λy z h=>?_;simp only[i5,decide_eq_true_eq]at h;obtain⟨⟨⟨⟨⟨⟨⟨hn,L⟩,Um⟩,hs⟩,O⟩,ho⟩,hi⟩,U⟩:=h;subst hn;have pa:PA X [y,z] (lA X.K (aO (wE Φ i) (aO (wE Φ a) bN))):=bO (mE G.mono i) (av (mE G.mono a) aE) (sE i G _ hi) (bO (mE G.mono a) aE (sE a G _ U) eg (aq O)) (aq hs);have few:((LA cp (JU [y,z] X.env)).all (λx=>!x.1)&&(Q4 cp (O3 [] X.env)).all (λx=>x.1.isSome)&&decide (([y,z]:List Expr).length+([]:List Oa).length+(if([]:List Oa).isEmpty then 0 else 1)<30))=Uo:=by rw[aq hs,aq O];rfl
  exact PE.imp (zk Qe PV PySem.F.type_list_insert vQ (sE o G _ ho) pa (gf L) few Um (aq hs) (by rw[aq O];rfl)) (rC iH (mE G.mono o) (av (mE G.mono i) (av (mE G.mono a) aE)) yq)
 |.comp fr N' c,C,X,G,e,h=>by
  refine wg e h λelt gens sc pos h=>?_;simp only[i5]at h;have B:br sc X.env.scope X.N N' fr:=by rw[G.sc,G.N];exact jK h.1
  have B':br sc C.sc C.N N' fr:=jK h.1
  cases c with
  |last src g ifs m=>
   have h2:=h.2;simp only[okC]at h2
   split at h2
   ·rename_i t it fs a;simp only[i5,decide_eq_true_eq]at h2;obtain⟨⟨⟨⟨rfl,hi⟩,Y⟩,ht⟩,he⟩:=h2;refine PE.imp (iD G.calm G.hx B (λg' z=>by simp at z) (sI src G _ t hi).1 (λs H fp=>sG (G.blk B' s H fp) g t Y) (tb:=λp=>lC X.K p (bC (wTl Φ ifs) (eR (wE Φ m)))) (λs H fp p=>?_) (sI src G _ t hi).2) (eS (mI G.mono src) (aX (bQ (mE G.mono m)) (mTl G.mono ifs)))
    have G':=G.blk B' s H fp;exact dW (p:=p) G' (bQ (mE G.mono m)) (mTl G.mono ifs) (PB.imp (jW G'.hx (sE m G' elt he) rfl) (gD (mE G.mono m))) (sTl ifs G' fs ht)
   ·cases h2
  |more src g ifs rest=>
   have h2:=h.2;simp only[okC]at h2
   split at h2
   ·rename_i t it fs a g2 gs;simp only[i5,decide_eq_true_eq]at h2;obtain⟨⟨⟨⟨rfl,hi⟩,Y⟩,ht⟩,he⟩:=h2;have Hh:∀g',(g2::gs)[0]?=S g'->g'.is_async=0:=fun g' z=>by
     have z':g2=g':=by simpa using z
     subst z';exact gO he
    refine PE.imp (iD G.calm G.hx B Hh (sI src G _ t hi).1 (λs H fp=>sG (G.blk B' s H fp) g t Y) (tb:=λp=>lC X.K p (bC (wTl Φ ifs) (wCl Φ rest))) (λs H fp p=>?_) (sI src G _ t hi).2) (eS (mI G.mono src) (aX (mCl G.mono rest) (mTl G.mono ifs)));have G':=G.blk B' s H fp;exact dW (p:=p) G' (mCl G.mono rest) (mTl G.mono ifs) (sCl rest G' elt (⟨t,it,fs,0⟩::g2::gs) sc pos 0 (.inl rfl) p he) (sTl ifs G' fs ht)
   ·cases h2
theorem sPs:∀(m:MEs) {C:Ctx} {X:Cx} (G:Good C Φ k X) (pos:Pos) (ks:List (Option Expr)) (vs:List Expr),okPs m C ks vs=Uo->ko X pos ks vs (lP X.K (wA Φ m))
 |.nil,C,X,G,pos,ks,vs,h=>by simp[okPs]at h;obtain⟨rfl,rfl⟩:=h;exact Cy
 |.cons m .nil,C,X,G,pos,ks,vs,h=>by simp[okPs]at h
 |.cons m (.cons j r),C,X,G,pos,ks,vs,h=>by
  match ks,vs with
  |some e::ks,f::vs=>simp only[okPs,i5]at h;exact AT (mE G.mono m) (mE G.mono j) (mA G.mono r) (sE m G e h.1.1) (sE j G f h.1.2) (sPs r G pos ks vs h.2)
  |[],_=>simp[okPs]at h
  |none::_,_=>simp[okPs]at h
  |some _::_,[]=>simp[okPs]at h
theorem sA:∀(m:MEs) {C:Ctx} {X:Cx} (G:Good C Φ k X) (es:List Expr),okEs m C es=Uo->PA X es (lA X.K (wA Φ m))
 |.nil,C,X,G,es,h=>by simp[okEs]at h;subst h;exact eg
 |.cons m r,C,X,G,[],h=>by simp[okEs]at h
 |.cons m r,C,X,G,e::es,h=>by simp only[okEs,i5]at h;exact bO (mE G.mono m) (mA G.mono r) (sE m G e h.1.2) (sA r G es h.2) (aq h.1.1)
theorem sAnds:∀(m:MEs) {C:Ctx} {X:Cx} (G:Good C Φ k X) (es:List Expr) (pos:Pos),okEs m C es=Uo->es≠[]->PE X (.BoolOp .And es pos) (lE X.K (wAnds Φ m))
 |.nil,C,X,G,es,pos,h,j=>by simp[okEs]at h;exact absurd h j
 |.cons m r,C,X,G,[],pos,h,j=>absurd rfl j
 |.cons m .nil,C,X,G,e::es,pos,h,_=>by simp only[okEs,i5]at h;obtain⟨h1,h2⟩:=h;simp at h2;subst h2;exact v6 (sE m G e h1.2)
 |.cons m (.cons m2 r),C,X,G,e::es,pos,h,_=>by
  simp only[okEs,i5]at h;obtain⟨h1,h2⟩:=h
  cases es with
  |nil=>simp at h2
  |cons f fs=>exact Ci (mE G.mono m) (mAnds G.mono _) (sE m G e h1.2) (sAnds (.cons m2 r) G (f::fs) pos (by simpa only[okEs,i5]using h2) (by simp))
theorem sOrs:∀(m:MEs) {C:Ctx} {X:Cx} (G:Good C Φ k X) (es:List Expr) (pos:Pos),okEs m C es=Uo->es≠[]->PE X (.BoolOp .Or es pos) (lE X.K (wOrs Φ m))
 |.nil,C,X,G,es,pos,h,j=>by simp[okEs]at h;exact absurd h j
 |.cons m r,C,X,G,[],pos,h,j=>absurd rfl j
 |.cons m .nil,C,X,G,e::es,pos,h,_=>by simp only[okEs,i5]at h;obtain⟨h1,h2⟩:=h;simp at h2;subst h2;exact v6 (sE m G e h1.2)
 |.cons m (.cons m2 r),C,X,G,e::es,pos,h,_=>by
  simp only[okEs,i5]at h;obtain⟨h1,h2⟩:=h
  cases es with
  |nil=>simp at h2
  |cons f fs=>exact DS (mE G.mono m) (mOrs G.mono _) (sE m G e h1.2) (sOrs (.cons m2 r) G (f::fs) pos (by simpa only[okEs,i5]using h2) (by simp))
theorem sO:∀(m:MO) {C:Ctx} {X:Cx} (G:Good C Φ k X) (e:Option Expr),okO m C e=Uo->PO X e (lO X.K (wO Φ m))
 |.none,C,X,G,e,h=>by simp[okO]at h;subst h;exact Ap
 |.some m,C,X,G,Z,h=>by simp[okO]at h
 |.some m,C,X,G,S e,h=>by simp only[okO]at h;exact Aq (mE G.mono m) (sE m G e h)
theorem sT:∀(m:MT) {C:Ctx} {X:Cx} (G:Good C Φ k X) (e:Expr),okT m C e=Uo->PT X e (lT X.K (wT Φ m))
 |.tru m,C,X,G,e,h=>by simp only[okT,i5]at h;exact Ce (mE G.mono m) (sE m G e h.2) (tV h.1)
 |.cmp op a b,C,X,G,e,h=>by refine gb e h λl os rs pos h=>?_;refine cJ os h λo h=>?_;refine cJ rs h λr h=>?_;simp only[i5,decide_eq_true_eq]at h;obtain⟨⟨⟨ho,F⟩,J⟩,hm⟩:=h;rw[Km]at hm;subst ho;exact C9 (dU G op) (bB op) (mE G.mono a) (mE G.mono b) (sE a G _ F) (sE b G _ J) hm
 |.chain op op' a b c,C,X,G,e,h=>by refine gb e h λl os rs pos h=>?_;refine fi os h λo o' h=>?_;refine fi rs h λr q h=>?_;simp only[i5,decide_eq_true_eq,Km]at h;obtain⟨⟨⟨⟨⟨rfl,rfl⟩,F⟩,J⟩,L⟩,hm⟩:=h;exact yi (dU G op) (dU G op') (bB op) (bB op') (mE G.mono a) (mE G.mono b) (mE G.mono c) (sE a G _ F) (sE b G _ J) (sE c G _ L) hm
 |.and ts,C,X,G,e,h=>by
  refine iq e h λo xs _ h=>?_;replace h:=bS h;obtain⟨ho,h⟩:=h;obtain⟨ho,j⟩:=bS ho
  cases of_decide_eq_true ho
  exact(sAndTs ts G _ _ h (by intro z;rw[z]at j;cases j)).pt
 |.or ts,C,X,G,e,h=>by
  refine iq e h λo xs _ h=>?_;replace h:=bS h;obtain⟨ho,h⟩:=h;obtain⟨ho,j⟩:=bS ho
  cases of_decide_eq_true ho
  exact(sOrTs ts G _ _ h (by intro z;rw[z]at j;cases j)).pt
 |.not t,C,X,G,e,h=>by
  refine iW e h λo x _ h=>?_;replace h:=bS h;obtain⟨ho,h⟩:=h
  cases of_decide_eq_true ho
  exact Cf (mT G.mono t) (sT t G _ h)
theorem sAndTs:∀(m:MTs) {C:Ctx} {X:Cx} (G:Good C Φ k X) (es:List Expr) (pos:Pos),okTs m C es=Uo->es≠[]->PW X (.BoolOp .And es pos) (lT X.K (wAndTs Φ m))
 |.nil,C,X,G,es,pos,h,j=>by simp[okTs]at h;exact absurd h j
 |.cons m r,C,X,G,[],pos,h,j=>absurd rfl j
 |.cons m .nil,C,X,G,e::es,pos,h,_=>by simp only[okTs,i5]at h;obtain⟨h1,h2⟩:=h;simp at h2;subst h2;exact An (sT m G e h1)
 |.cons m (.cons m2 r),C,X,G,e::es,pos,h,_=>by
  simp only[okTs,i5]at h;obtain⟨h1,h2⟩:=h
  cases es with
  |nil=>simp at h2
  |cons f fs=>exact Ch (mT G.mono m) (mAndTs G.mono _) (sT m G e h1) (sAndTs (.cons m2 r) G (f::fs) pos (by simpa only[okTs,i5]using h2) (by simp))
theorem sOrTs:∀(m:MTs) {C:Ctx} {X:Cx} (G:Good C Φ k X) (es:List Expr) (pos:Pos),okTs m C es=Uo->es≠[]->PW X (.BoolOp .Or es pos) (lT X.K (wOrTs Φ m))
 |.nil,C,X,G,es,pos,h,j=>by simp[okTs]at h;exact absurd h j
 |.cons m r,C,X,G,[],pos,h,j=>absurd rfl j
 |.cons m .nil,C,X,G,e::es,pos,h,_=>by simp only[okTs,i5]at h;obtain⟨h1,h2⟩:=h;simp at h2;subst h2;exact Cg (sT m G e h1)
 |.cons m (.cons m2 r),C,X,G,e::es,pos,h,_=>by
  simp only[okTs,i5]at h;obtain⟨h1,h2⟩:=h
  cases es with
  |nil=>simp at h2
  |cons f fs=>exact DR (mT G.mono m) (mOrTs G.mono _) (sT m G e h1) (sOrTs (.cons m2 r) G (f::fs) pos (by simpa only[okTs,i5]using h2) (by simp))
theorem sTl:∀(m:MTs) {C:Ctx} {X:Cx} (G:Good C Φ k X) (es:List Expr),okTs m C es=Uo->Kv (λc t=>PT X c t) es ((wTl Φ m).map (lT X.K))
 |.nil,C,X,G,es,h=>by simp[okTs]at h;subst h;exact .nil
 |.cons m r,C,X,G,[],h=>by simp[okTs]at h
 |.cons m r,C,X,G,e::es,h=>by simp only[okTs,i5]at h;exact .cons (sT m G e h.1) (sTl r G es h.2)
theorem sI:∀(m:MI) {C:Ctx} {X:Cx} (G:Good C Φ k X) (e tg:Expr),okI m C tg e=Uo->PI X tg e (lI X.K (wI Φ m))/\∀x,Lv e X.env x=pure x
 |.seq m,C,X,G,e,tg,h=>by simp only[okI,i5]at h;exact⟨Co (mE G.mono m) (sE m G e h.2),pS h.1⟩
 |.rng1 a,C,X,G,e,tg,h=>by refine gL e h λx xs p pos h=>?_;refine cJ xs h λy h=>?_;simp only[i5,decide_eq_true_eq]at h;obtain⟨⟨⟨rfl,j⟩,hs⟩,z⟩:=h;exact⟨Ax (av (mE G.mono a) aE) (G.gl j) (G.mgB _ (by decide)) (bO (mE G.mono a) aE (sE a G _ z) eg (aq hs)) (aq hs),λx=>rfl⟩
 |.enum a,C,X,G,e,tg,h=>by refine gL e h λx xs p pos h=>?_;refine cJ xs h λy h=>?_;refine eG tg h λts kt pt h=>?_;simp only[i5,decide_eq_true_eq]at h;obtain⟨⟨⟨rfl,j⟩,hs⟩,z⟩:=h;exact⟨Ay (mE G.mono a) (G.gl j) (G.mgB _ (by decide)) (bO (mE G.mono a) aE (sE a G _ z) eg (aq hs)) (aq hs),λx=>rfl⟩
theorem sCl:∀(m:MC) {C:Ctx} {X:Cx} (G:Good C Φ k X) (elt:Expr) (gens:List Kz) (sc:Scope) (pos:Pos) (d:Nat) (_:d=0∨d=d) (p:Uq),okC m C C (gens.drop (d+1)) elt=Uo->
 PB X (bq elt gens sc pos d (.ref p) X.env) (lC X.K p (wCl Φ m))
 |.last src g ifs m,C,X,G,elt,gens,sc,pos,d,_,p,h=>by
  simp only[okC]at h
  split at h
  ·rename_i t it fs a hd;simp only[i5,decide_eq_true_eq]at h;obtain⟨⟨⟨⟨rfl,hi⟩,F⟩,J⟩,he⟩:=h;have L:gens[d+1]?=S ⟨t,it,fs,0⟩:=by
    have z:(gens.drop (d+1))[0]?=S ⟨t,it,fs,0⟩:=by rw[hd];rfl
    rw[O0]at z;simpa using z
   have j:gens[d+1+1]?=Z:=by
    have z:(gens.drop (d+1))[1]?=Z:=by rw[hd];rfl
    rw[O0]at z;simpa using z
   refine PB.imp (lj G.hx G.calm L (λg' z=>by rw[j]at z;cases z) (sI src G _ t hi).1 (sG G g t F) (dW (p:=p) G (bQ (mE G.mono m)) (mTl G.mono ifs) (PB.imp (jW G.hx (sE m G elt he) j) (gD (mE G.mono m))) (sTl ifs G fs J)) (sI src G _ t hi).2) (iG (mI G.mono src) (aX (bQ (mE G.mono m)) (mTl G.mono ifs)))
  ·cases h
 |.more src g ifs rest,C,X,G,elt,gens,sc,pos,d,_,p,h=>by
  simp only[okC]at h
  split at h
  ·rename_i t it fs a g2 gs hd;simp only[i5,decide_eq_true_eq]at h;obtain⟨⟨⟨⟨rfl,hi⟩,F⟩,J⟩,he⟩:=h;have L:gens[d+1]?=S ⟨t,it,fs,0⟩:=by
    have z:(gens.drop (d+1))[0]?=S ⟨t,it,fs,0⟩:=by rw[hd];rfl
    rw[O0]at z;simpa using z
   have j:gens[d+1+1]?=S g2:=by
    have z:(gens.drop (d+1))[1]?=S g2:=by rw[hd];rfl
    rw[O0]at z;simpa using z
   have U:gens.drop (d+1+1)=g2::gs:=by
    have z:(gens.drop (d+1)).drop 1=g2::gs:=by rw[hd];rfl
    rw[Pg]at z;simpa using z
   have O:∀g',gens[d+1+1]?=S g'->g'.is_async=0:=λg' z=>by rw[j]at z;cases z;exact gO he
   refine PB.imp (lj G.hx G.calm L O (sI src G _ t hi).1 (sG G g t F) (dW (p:=p) G (mCl G.mono rest) (mTl G.mono ifs) (sCl rest G elt gens sc pos (d+1) (.inr rfl) p (by rw[U];exact he)) (sTl ifs G fs J)) (sI src G _ t hi).2) (iG (mI G.mono src) (aX (mCl G.mono rest) (mTl G.mono ifs)))
  ·cases h
end
end
end
section
section
variable{Φ:Phi}{k:Nat}{C:Ctx}{X:Cx}
theorem yQ{ts vs:List Expr}{kk k2:Nat}{pp p2:Pos}(hs:env.scope=sc)(hk:sc.kind=.function)(h:tT sc ts vs=Uo):Mc [.Tuple ts kk pp] (.Tuple vs k2 p2) env=pure Z:=by
 have j:env.blockKind=.function:=by unfold PX;rw[hs,hk];rfl
 have h':tT sc ts vs=Uo:=h;unfold Mc;dsimp only;rw[j]
 by_cases c1:(!(ts.length==2 || ts.length==3) || vs.length != ts.length)=Uo
 ·simp only[c1,Bool.true_or,if_true]
 ·simp only[Ou]at c1;rw[c1];simp only[NP,bne_self_eq_false,KH,if_false]
  split
  ·rfl
  ·
    generalize z:List.filterMap _ ts=L;obtain rfl:L=bo sc ts:=by
     rw[<-z];unfold bo;congr 1
     funext x
     cases x<;>first|rfl|(unfold RB;rw[hs])
    unfold tT at h';rw[c1]at h';simp only[NP,OS]at h'
    by_cases c3:((bo sc ts).length != ts.length || (bo sc ts).eraseDups.length != (bo sc ts).length)=Uo
    ·rw[if_pos c3]
    ·rw[if_neg c3];have F:vs.all (Rl 8)=Uo:=by
      rcases h' with h'|h'
      ·exact absurd (OS _ _ |>.mpr h') c3
      ·exact h'
     rw[if_pos F]
theorem rT{ts vs:List Expr}{ns:List Str}{kk k2:Nat}{pp p2:Pos}(hs:env.scope=sc)(hk:sc.kind=.function)(h:nK sc ts vs ns=Uo):Mc [.Tuple ts kk pp] (.Tuple vs k2 p2) env=pure (S ns):=by
 have j:env.blockKind=.function:=by unfold PX;rw[hs,hk];rfl
 simp only[nK,i5,Km,decide_eq_true_eq]at h;obtain⟨⟨⟨⟨⟨F,J⟩,O⟩,U⟩,Y⟩,Um⟩:=h;unfold Mc;dsimp only;rw[j,F];simp only[NP,bne_self_eq_false,KH,if_false]
 split
 ·next z=>exact absurd z (by rw[Ou];exact J)
 ·generalize hL:List.filterMap _ ts=L;obtain rfl:L=bo sc ts:=by
   rw[<-hL];unfold bo;congr 1
   funext x
   cases x<;>first|rfl|(unfold RB;rw[hs])
  rw[U,Y,Um,O];rfl
theorem fO{i:Nat}(h:iY C i x=Uo):C.N[i]?=S x/\C.sc.names.lookup x=S .local:=by simpa[iY]using h
theorem cU{tg:Expr}(h:LD e (S tg) l env=pure b):Na [tg] e l env=pure b:=by unfold Na;exact h
theorem B6{tg:Expr}(hs:env.scope=sc)(hk:sc.kind=.function)(h:zE sc tg e=Uo):Mc [tg] e env=pure Z:=by
 cases tg with
 |Tuple ts kk pp=>
  cases e with
  |Tuple vs k2 p2=>exact yQ hs hk h
  |_=>rfl
 |_=>first|rfl|(cases h;done)
theorem pV{elt:Expr}{gens:List Kz}{s:Scope}{px:Pos}(hs:env.scope=sc)(hk:sc.kind=.function):
 LD (.ListComp elt gens s pos) (S (.Name x px)) l env=pure (tU sc x px (.ListComp elt gens s pos)):=by
 have j:env.blockKind=.function:=by unfold PX;rw[hs,hk];rfl
 unfold LD;dsimp only;rw[j];unfold tU RB;rw[hs];rfl
theorem wl{ek ev:Expr}{gens:List Kz}{s:Scope}{px:Pos}(hs:env.scope=sc)(hk:sc.kind=.function):
 LD (.DictComp ek ev gens s pos) (S (.Name x px)) l env=pure (sc.names.lookup x==S .local&&px.line==(Expr.DictComp ek ev gens s pos).pos.line && !(s.names.any λ(n,k)=>n==x&&(k==.local || k==.cell))):=by
 have j:env.blockKind=.function:=by unfold PX;rw[hs,hk];rfl
 unfold LD;dsimp only;rw[j];unfold RB;rw[hs];rfl
mutual
theorem sS:∀(m:MS) (G:Good C Φ k X) (hk:C.sc.kind=.function) (s:Stmt),okS m C s=Uo->PS X s (lS X.K (wS Φ m))
 |.asg g m,G,hk,s,h=>by
  refine gd s h λts e pos h1=>?_;clear h;refine cJ ts h1 λtg h=>?_;clear h1;simp only[i5]at h;obtain⟨⟨⟨F,he⟩,O⟩,L⟩:=h;have hw:=B6 G.sc hk O;have pg:=sG G g tg F;have plain:Na [tg] e pos.line X.env=pure Up->PS X (.Assign [tg] e pos) (lS X.K (gF (wE Φ m) (bG g))):=λhs=>PS.imp (ug (sE m G e he) pg hs hw (by cases tg<;>first|rfl|(cases O;done))) (xZ (mE G.mono m))
  cases tg with
  |Tuple ts a b=>exact plain (cU (kA L))
  |Name x px=>
   cases e with
   |ListComp elt gens sc cpos=>
    by_cases sw:tU C.sc x px (.ListComp elt gens sc cpos)=Uo
    ·cases g with
     |tup gs=>exact absurd F q7
     |name i=>
      cases m with
      |comp fr N' c=>
       replace he:=bS he;have B:br sc X.env.scope X.N N' fr:=by rw[G.sc,G.N];exact jK he.1
       have B':br sc C.sc C.N N' fr:=jK he.1;have Um:PG X (.Name x px) (gU i):=by have F:=bS F;have F:=Ot (bS F.1) F.2;exact qX G.nd (by rw[G.N];exact of_decide_eq_true F.1.1) (G.loc F.1.2) (G.own F.2)
       have Hf:∀l,LD (.ListComp elt gens sc cpos) (S (.Name x px)) l X.env=pure Uo:=λl=>by rw[pV G.sc hk,sw]
       have mc:=mCmp G.mono fr c
       cases c with
       |last src g ifs m=>
        have h2:=he.2;simp only[okC]at h2
        split at h2
        ·rename_i t it fs a;simp only[i5,decide_eq_true_eq]at h2;obtain⟨⟨⟨⟨rfl,hi⟩,U⟩,ht⟩,J⟩:=h2;refine PS.imp (jn (i:=i) (g:=lG X.K (bG g)) (wi:=lI X.K (wI Φ src)) G.calm G.hx B (λg' z=>by simp at z) (sI src G _ t hi).1 (λs H fp=>sG (G.blk B' s H fp) g t U) (tb:=λp=>lC X.K p (bC (wTl Φ ifs) (eR (wE Φ m)))) (λs H fp p=>?_) (sI src G _ t hi).2 Um (Hf _)) λD σ H h=>?_
         ·have G':=G.blk B' s H fp;exact dW (p:=p) G' (bQ (mE G.mono m)) (mTl G.mono ifs) (PB.imp (jW G'.hx (sE m G' elt J) rfl) (gD (mE G.mono m))) (sTl ifs G' fs ht)
         ·exact eS (mI G.mono src) (aX (bQ (mE G.mono m)) (mTl G.mono ifs)) σ H _ (lK mc D σ H h)
        ·cases h2
       |more src g ifs rest=>
        have h2:=he.2;simp only[okC]at h2
        split at h2
        ·rename_i t it fs a g2 gs;simp only[i5,decide_eq_true_eq]at h2;obtain⟨⟨⟨⟨rfl,hi⟩,U⟩,ht⟩,J⟩:=h2;have Hg:∀g',(g2::gs)[0]?=S g'->g'.is_async=0:=fun g' z=>by
          have z':g2=g':=by simpa using z
          subst z';exact gO J
         refine PS.imp (jn (i:=i) (g:=lG X.K (bG g)) (wi:=lI X.K (wI Φ src)) G.calm G.hx B Hg (sI src G _ t hi).1 (λs H fp=>sG (G.blk B' s H fp) g t U) (tb:=λp=>lC X.K p (bC (wTl Φ ifs) (wCl Φ rest))) (λs H fp p=>?_) (sI src G _ t hi).2 Um (Hf _)) λD σ H h=>?_
         ·have G':=G.blk B' s H fp;exact dW (p:=p) G' (mCl G.mono rest) (mTl G.mono ifs) (sCl rest G' elt (⟨t,it,fs,0⟩::g2::gs) sc cpos 0 (.inl rfl) p J) (sTl ifs G' fs ht)
         ·exact eS (mI G.mono src) (aX (mCl G.mono rest) (mTl G.mono ifs)) σ H _ (lK mc D σ H h)
        ·cases h2
      |_=>exact absurd he q7
    ·refine plain ?_;simp only[Ou]at sw;refine cU ?_;rw[pV G.sc hk,sw]
   |SetComp _ _ _ _=>cases m<;>exact absurd he q7
   |DictComp _ _ _ _ _=>refine plain (cU ?_);rw[wl G.sc hk];unfold CN at L;simp only[Km]at L;rw[L]
   |_=>exact plain (cU rfl)
  |_=>cases O
 |.par i j a b,G,hk,s,h=>by refine gd s h λts e pos h=>?_;refine cJ ts h λtg h=>?_;refine eG tg h λts k p h=>?_;refine eG e h λes k' p' h=>?_;refine fi ts h λt u h=>?_;refine fi es h λe f h=>?_;refine dM t h λx px h=>?_;refine dM u h λy py h=>?_;simp only[i5,decide_eq_true_eq]at h;obtain⟨⟨⟨⟨⟨⟨⟨hi,hj⟩,Y⟩,n1⟩,n2⟩,O⟩,hb⟩,hw⟩:=h;obtain⟨i1,i2⟩:=fO hi;obtain⟨j1,j2⟩:=fO hj;exact PS.imp (BH G.calm G.nd (by rw[G.N];exact i1) (by rw[G.N];exact j1) Y (by rw[G.sc];exact i2) (by rw[G.sc];exact j2) (bO (mE G.mono a) (av (mE G.mono b) aE) (sE a G _ O) (bO (mE G.mono b) aE (sE b G _ hb) eg (aq n2)) (aq n1)) (rT G.sc hk hw) (cU rfl)) (vq (av (mE G.mono a) (av (mE G.mono b) aE)))
 |.par3 i j l a b c,G,hk,s,h=>by refine gd s h λts e pos h=>?_;refine cJ ts h λtg h=>?_;refine eG tg h λts k p h=>?_;refine eG e h λes k' p' h=>?_;refine CM ts h λt u v h=>?_;refine CM es h λe f g h=>?_;refine dM t h λx px h=>?_;refine dM u h λy py h=>?_;refine dM v h λz pz h=>?_;simp only[i5,decide_eq_true_eq]at h;obtain⟨⟨⟨⟨⟨⟨⟨⟨⟨⟨⟨⟨hi,hj⟩,hl⟩,Y⟩,Hh⟩,Hi⟩,n1⟩,n2⟩,n3⟩,O⟩,hb⟩,L⟩,hw⟩:=h;obtain⟨i1,i2⟩:=fO hi;obtain⟨j1,j2⟩:=fO hj;obtain⟨l1,l2⟩:=fO hl;exact PS.imp (AA G.calm G.nd (by rw[G.N];exact i1) (by rw[G.N];exact j1) (by rw[G.N];exact l1) Y Hh Hi (by rw[G.sc];exact i2) (by rw[G.sc];exact j2) (by rw[G.sc];exact l2) (bO (mE G.mono a) (av (mE G.mono b) (av (mE G.mono c) aE)) (sE a G _ O) (bO (mE G.mono b) (av (mE G.mono c) aE) (sE b G _ hb) (bO (mE G.mono c) aE (sE c G _ L) eg (aq n3)) (aq n2)) (aq n1)) (rT G.sc hk hw) (cU rfl)) (vt (av (mE G.mono a) (av (mE G.mono b) (av (mE G.mono c) aE))))
 |.put o i m,G,hk,s,h=>by refine gd s h λts e pos h=>?_;refine cJ ts h λtg h=>?_;refine gc tg h λx y tp h=>?_;simp only[i5]at h;obtain⟨⟨⟨⟨Hj,L⟩,ho⟩,hi⟩,he⟩:=h;exact Cr (by have:=G.units;lia) (mE G.mono m) (mE G.mono o) (mE G.mono i) (sE m G e he) (sE o G x ho) (sE i G y hi) (cU (kA L)) rfl (λv=>by cases y<;>first|rfl|(cases Hj;done))
 |.drop m,G,hk,s,h=>by refine CJ s h λe _ h=>?_;simp only[i5]at h;exact PS.imp (zP (sE m G _ h.2) (kA h.1)) (vm (mE G.mono m))
 |.ret m,G,hk,s,h=>by refine yL s h λo _ h=>?_;refine jos o h λe h=>?_;exact PS.imp (gu (sE m G _ h)) (xY (mE G.mono m))
 |.ite c a b,G,hk,s,h=>by refine EZ s h λt x y _ h=>?_;simp only[i5]at h;exact PS.imp (mM (sT c G _ h.1.1) (sSs a G hk _ h.1.2) (sSs b G hk _ h.2)) (Az (mT G.mono c))
 |.for g src b,G,hk,s,h=>by refine E3 s h λtg it body els _ h=>?_;refine iX els h fun  h=>?_;simp only[i5]at h;obtain⟨⟨⟨hs,F⟩,hi⟩,hb⟩:=h;exact PS.imp (uo (λe s z=>(G.hx e s z).elim) G.calm (sI src G _ _ hi).1 (sG G g _ F) (sSs b G hk _ hb) (pS hs)) (y9 (mI G.mono src) (mSs G.mono b))
 |.while c b,G,hk,s,h=>by refine B3 s h λt body els _ h=>?_;refine iX els h fun  h=>?_;simp only[i5]at h;exact PS.imp (wN (λe s z=>(G.hx e s z).elim) (sT c G _ h.1) (sSs b G hk _ h.2)) (tw (mT G.mono c) (mSs G.mono b))
 |.delk o k,G,hk,s,h=>by refine yK s h λts pos h=>?_;refine cJ ts h λt h=>?_;refine gc t h λx y tp h=>?_;simp only[i5]at h;exact AW (mE G.mono o) (mE G.mono k) (sE o G x h.1) (sE k G y h.2)
 |.bot,G,hk,s,h=>λpins s0 σ H D I g9=>(by obtain⟨ρ,M,A,rs,rm,l,q⟩:=g9;exact q.elim)
 |.pass,G,hk,s,h=>by refine CL s h λ_ h=>?_;exact PS.imp zO lJ
 |.brk,G,hk,s,h=>by refine B4 s h λ_ h=>?_;exact PS.imp wL tu
 |.cnt,G,hk,s,h=>by refine tS s h λ_ h=>?_;exact PS.imp qI vj
theorem sSs:∀(m:MSs) (G:Good C Φ k X) (hk:C.sc.kind=.function) (s:List Stmt),okSs m C s=Uo->PSs X s (lS X.K (wSs Φ m))
 |.nil,G,hk,s,h=>by simp[okSs]at h;subst h;exact PSs.imp gT lJ
 |.cons m r,G,hk,[],h=>by simp[okSs]at h
 |.cons m r,G,hk,s::ss,h=>by simp only[okSs,i5]at h;exact PSs.imp (cr (sS m G hk s h.1) (sSs r G hk ss h.2)) (xX (mS G.mono m) (mSs G.mono r))
end
end
end
section
structure FD where
 name:Str
 st:Stmt
 N:List Str
 np:Nat
 body:MSs
noncomputable def cK(N:List Str)(ds:List D):au:=ds.map S++JZ (N.length-ds.length) Z
noncomputable def phi(T:List FD):Nat->Phi
 |0=>λ_ _ _ _=>False
 |k+1=>λf ds M Q=>∃d,T[f]?=S d/\ds.length=d.np/\wSs (phi T k) d.body {nx:=λ_ M'=>Q .non M',rt:=Q} (cK d.N ds) M
theorem cW(T:List FD):∀k f,b8 (phi T k f)
 |0,f=>λ_ _ _ _ _ q=>q.elim
 |k+1,f=>λds M Q Q' h j=>(by obtain⟨d,e,l,q⟩:=j;exact⟨d,e,l,mSs (cW T k) d.body {nx:=λ_ M'=>Q .non M',rt:=Q} {nx:=λ_ M'=>Q' .non M',rt:=Q'} _ _ ⟨λ_ M' q'=>h _ _ q',h,λ_ _ z=>z,λ_ _ z=>z⟩ q⟩)
noncomputable def kB(Γ:List Str)(cs:List (Str×D))(d:FD):Bool:=
 decide ((al d.st).kind=.function) && !(al d.st).isCoroutine && !(al d.st).isGenerator&&decide (d.N.Nodup)&&decide (d.np<=d.N.length)
  && (d.N.take d.np).all (λx=>(al d.st).names.lookup x==S .local || (al d.st).names.lookup x==S .cell)
  && (al d.st).names.all (λy=>!(y.2==.free))&&okSs d.body ⟨Γ,d.N,al d.st,d.N,cs,0,d.name⟩ (bE d.st)
theorem gh{Γ:List Str}{cs:List (Str×D)}{d:FD}(h:kB Γ cs d=Uo):cQ d.N (d.N.take d.np) (al d.st)/\(d.N.take d.np).length=d.np/\okSs d.body ⟨Γ,d.N,al d.st,d.N,cs,0,d.name⟩ (bE d.st)=Uo:=by
 simp only[kB,i5,decide_eq_true_eq,Km]at h;obtain⟨⟨⟨⟨⟨⟨⟨h1,h2⟩,F⟩,J⟩,Um⟩,L⟩,O⟩,U⟩:=h;have j:(d.N.take d.np).length=d.np:=by rw[Kf];lia
 refine⟨⟨h1,h2,F,J,by rw[j],λx hx=>?_,λy Y e=>?_⟩,j,U⟩
 ·have z:=Lu.mp L x hx;simpa using z
 ·have z:=Lu.mp O y Y;rw[e]at z;simp at z
section
variable{P:JR}{w:K8}{K:Frag}{mg:Str->Option h6}{base:Heap}
theorem CT{T:List FD}{k i:Nat}{H:Hp}{a:Uq}{ns:List Int}(F:sM H)(J:SqL K H a (ns.map V.int))(h:phi T k i [.con (ns.map D.int)] (λ_=>Z) λd _=>d=.bl Uo):
 lSp K (phi T k i) [.ref a] H (λv _=>v=.bl Uo) λ_ _ _=>False:=by
 have j:RM K (λ_=>Z) H:=λ_ _ z=>by cases z
 refine⟨[.con (ns.map D.int)],λ_=>Z,j,RDs.cons (U3.mpr ⟨a,ns.map V.int,rfl,?_,RDs.ints ns⟩) RDs.nil,cW T k i [.con (ns.map D.int)] (λ_=>Z) (λd _=>d=.bl Uo) (KE' K (λ_=>Z) H λv _=>v=.bl Uo) (λd M' e=>λv H' x rm rd=>?_) h⟩
 ·rcases J with(z|⟨o,z⟩)|z
  ·rcases F a with q|⟨o,xs,q⟩
   ·rw[z]at q;cases q
   ·rw[z]at q;cases q
  ·exact .inl ⟨o,z⟩
  ·exact .inr z
 ·subst e;exact TY.mp rd
end
theorem eY(us:List h6)(h:us.length=1):∃a,us=[a]:=List.length_eq_one_iff.mp h
theorem cq(us:List h6)(h:us.length=2):∃a b,us=[a,b]:=by
 cases us with
 |nil=>cases h
 |cons a us=>obtain⟨b,rfl⟩:=eY us (TJ.inj h);exact⟨a,b,rfl⟩
theorem nL(us:List h6)(h:us.length=3):∃a b c,us=[a,b,c]:=by
 cases us with
 |nil=>cases h
 |cons a us=>obtain⟨b,c,rfl⟩:=cq us (TJ.inj h);exact⟨a,b,c,rfl⟩
theorem jL(us:List h6)(h:us.length=4):∃a b c d,us=[a,b,c,d]:=by
 cases us with
 |nil=>cases h
 |cons a us=>obtain⟨b,c,d,rfl⟩:=nL us (TJ.inj h);exact⟨a,b,c,d,rfl⟩
end
end Mi
variable{X:Cx}
theorem PS.nox{st:PySem.Stmt}{t:TS}(h:PS X.nox st t):PS X st t:=λpins s σ H D I hw=>PySem.wpAny_mono (h pins s σ H D (I.wish _) hw) (λ_ _ q=>q.unwish) λ_ _ z=>False.elim z
namespace Mi
theorem RS.start{K:Frag}{H:Hp}{N:List Str}{ds:List D}{vs:List V}(rs:RDs K H ds vs):RS K H (start N vs) (cK N ds):=by
 refine⟨by simp[L2.start,cK,rs.length],λj dd F=>?_⟩
 unfold cK at F;unfold L2.start
 by_cases J:j<ds.length
 ·rw[JP (by simpa using J),KA]at F
  cases e3:ds[j]? with
  |none=>rw[e3]at F;cases F
  |some z=>rw[e3]at F;cases F;obtain⟨v,L,rv⟩:=rs.get e3;refine⟨v,?_,rv⟩;rw[JP (by rw[B2,rs.length];exact J),KA,L];rfl
 ·rw[D1 (by simpa using J),Q2]at F
  split at F<;>cases F
end Mi
section
theorem PI.nox{tg it:Expr}{wi:TI}(h:PI X.nox tg it wi):PI X tg it wi:=λpins s σ H R I hw=>Kh (h pins s σ H R (I.wish _) hw) (λv s1 q=>Kh q (λitv s2 j=>(by obtain⟨it,fp,tn,J,H',e,I',T,st,f,r⟩:=j;exact⟨it,fp,tn,J,H',e,I'.unwish,T,st,f,r⟩)) λ_ _ z=>False.elim z) λ_ _ z=>False.elim z
theorem PG.nox{tg:Expr}{t:TG}(h:PG X.nox tg t):PG X tg t:=λpins s σ H v u Q I r hw=>Kh (h pins s σ H v u Q (I.wish _) r hw) (λ_ _ j=>(by obtain⟨σ',H',I',q⟩:=j;exact⟨σ',H',I'.unwish,q⟩)) λ_ _ z=>False.elim z
namespace Mi
noncomputable abbrev noR(A:bj):bj:={A with rt:=λ_ _=>False}
structure GS(K:Frag)(M0:Mem)(H0:Hp)(XE:Int->Mem->Prop)(A:bj)(D:bJ)(ρ:au)(M:Mem)(σ:St)(H:Hp):Prop where
 rs:RS K H σ ρ
 rm:RM K M H
 x0:Ext M0 H0 M H
 ra:∀n M',A.rt (.tup [.int n]) M'->0<=n->n<=1000->XE n M'
 rn:∀M' v H',Ext M0 H0 M' H'->RM K M' H'->A.rt .non M'->D.rt v H'
 ln:Link K M H (noR A) D
noncomputable def gS(K:Frag)(M0:Mem)(H0:Hp)(XE:Int->Mem->Prop)(r:TSd):TS:=λD σ H=>∃ρ M A,GS K M0 H0 XE A D ρ M σ H/\r A ρ M
variable{pos:Pos}
section
variable{X:Cx}{K:Frag}{M0:Mem}{H0:Hp}{XE:Int->Mem->Prop}{Φ:Phi}{st:Stmt}{rest:List Stmt}{t u:TSd}
theorem B7(h:PS X.nox st (lS K t))(n:∀A ρ M,t A ρ M->t (noR A) ρ M):PS X st (gS K M0 H0 XE t):=PS.imp (PS.nox h) λD σ H g9=>(by obtain⟨ρ,M,A,g,q⟩:=g9;exact⟨ρ,M,noR A,g.rs,g.rm,g.ln,n _ _ _ q⟩)
theorem zF:PSs X [] (gS K M0 H0 XE fW):=PSs.imp gT λD σ H g9=>(by obtain⟨ρ,M,A,g,q⟩:=g9;exact g.ln.nx ρ M σ H Ext.refl g.rs g.rm q)
theorem pW(h1:PS X st (gS K M0 H0 XE t))(h2:PSs X rest (gS K M0 H0 XE u)):PSs X (st::rest) (gS K M0 H0 XE (gE t u)):=
 PSs.imp (cr h1 h2) λD σ H g9=>(by obtain⟨ρ,M,A,g,q⟩:=g9;exact⟨ρ,M,{A with nx:=u A},⟨g.rs,g.rm,g.x0,g.ra,g.rn,⟨λρ' M' σ' H' x rs' rm' q'=>⟨ρ',M',A,⟨rs',rm',g.x0.trans x,g.ra,g.rn,g.ln.ext x⟩,q'⟩,λ_ _ _ _ _ _ _ z=>z.elim,g.ln.bk,g.ln.ct⟩⟩,q⟩)
theorem F4{c:Expr}{a b:List Stmt}{tc:TTd}(mc:aN tc)(F:PT X.nox c (lT K tc))(J:PSs X a (gS K M0 H0 XE t))(L:PSs X b (gS K M0 H0 XE u)):PS X (.If c a b pos) (gS K M0 H0 XE (sIf tc t u)):=
 PS.imp (mM (PT.nox F) J L) λD σ H g9=>(by
  obtain⟨ρ,M,A,g,q⟩:=g9;refine⟨ρ,M,g.rs,g.rm,mc _ _ _ _ (λk M1 j H1 x1 z=>?_) q⟩;have g1:GS K M0 H0 XE A D ρ M1 σ H1:=⟨g.rs.mono (x1.stab g.rm),z,g.x0.trans x1,g.ra,g.rn,g.ln.ext x1⟩
  cases k with
  |true=>rw[if_pos rfl]at j;dsimp only;rw[if_pos rfl];exact⟨ρ,M1,A,g1,j⟩
  |false=>rw[if_neg q7]at j;dsimp only;rw[if_neg q7];exact⟨ρ,M1,A,g1,j⟩)
theorem tW{src:TId}{b:BT}{tb:TSd}(ms:cm src)(mb:aP tb)(D:bJ)(σ:St)(H:Hp)(h:gS K M0 H0 XE (kj src b tb) D σ H):wQ (lI K src) (lG K b) (gS K M0 H0 XE tb) D σ H:=by
 obtain⟨ρ,M,A,g,q⟩:=h;refine⟨ρ,M,g.rs,g.rm,ms _ _ _ _ (λxs chk M1 q1 J H1 x1 U it=>?_) q⟩;refine⟨λi m σ H'=>m=xs.length-i/\i<=xs.length/\∃ρ M2,RS K H' σ ρ/\RM K M2 H'/\Ext M1 H1 M2 H'/\bw b tb chk A (xs.drop i) ρ M2,⟨xs.length,by simp,LM _,ρ,M1,g.rs.mono (x1.stab g.rm),U,Ext.refl,q1⟩,?_⟩
 rintro i m σ2 H2 ⟨rfl,hi,ρ2,M2,Y,j,x2,Um⟩;have Hf:=x2.stab U
 by_cases F:i<xs.length
 ·rw[Le F]at Um;obtain⟨c,ρ',hb,q3⟩:=Um;obtain⟨go,yl⟩:=(it M2 H2 Hf j c i).2 F;refine .inr ⟨go,λσ' H'=>∃m',m'<xs.length-i/\(m'=xs.length-(i+1)/\i+1<=xs.length/\∃ρ M,RS K H' σ' ρ/\RM K M H'/\Ext M1 H1 M H'/\bw b tb chk A (xs.drop (i+1)) ρ M),λσ' H' h=>h,λx' H' y=>?_⟩;obtain⟨yy,d,hd,rd⟩:=yl x' H' y;rw[JF F]at hd
  cases hd
  obtain⟨xy,rmy⟩:=yy.ext j;have Hg:=x1.trans (x2.trans xy);refine⟨_,ρ2,ρ',rd,Y.mono (xy.stab j),hb,λσ3 Hh=>?_⟩;have nx:∀ρ5 O σ5 L,Ext M2 H' O L->RS K L σ5 ρ5->RM K O L->bw b tb chk A (xs.drop (i+1)) ρ5 O->∃m',m'<xs.length-i/\(m'=xs.length-(i+1)/\i+1<=xs.length/\∃ρ M,RS K L σ5 ρ/\RM K M L/\Ext M1 H1 M L/\bw b tb chk A (xs.drop (i+1)) ρ M):=λρ5 O σ5 L x5 Hi Hj q5=>⟨xs.length-(i+1),∅,rfl,F,ρ5,O,Hi,Hj,(x2.trans xy).trans x5,q5⟩
  exact⟨ρ',M2,{A with nx:=bw b tb chk A (xs.drop (i+1)),ct:=bw b tb chk A (xs.drop (i+1)),bk:=A.nx},⟨Hh,rmy,g.x0.trans Hg,g.ra,g.rn,⟨nx,λ_ _ _ _ _ _ _ z=>z.elim,λρ5 O σ5 L x5=>g.ln.nx ρ5 O σ5 L (Hg.trans x5),nx⟩⟩,q3⟩
 ·have e:i=xs.length:=by lia
  subst e;rw[Qc]at Um;exact .inl ⟨(it M2 H2 Hf j Um.1 _).1 (JL _),g.ln.nx ρ2 M2 σ2 H2 (x1.trans x2) Y j Um.2⟩
theorem E5{ev:Expr}{te:TEd}{i:Nat}(me:af te)(he:PE X.nox ev (lE K te)):PSs X [.Return (S ev) pos] (gS K M0 H0 XE (gE (gF te (be i)) (iN (wC .non)))):=
 PSs.imp (cP (gu (PE.nox he))) λD σ H g9=>(by obtain⟨ρ,M,A,g,q⟩:=g9;refine⟨ρ,M,g.rs,g.rm,me _ _ _ _ (λd M1 g9 v H1 x1 rm1 rd1=>?_) q⟩;obtain⟨ρ',e,j⟩:=g9;exact g.rn M1 v H1 (g.x0.trans x1) rm1 j)
noncomputable def RL(e:ME):MSs:=.cons (.ite (.chain .le .le (.int 0) e (.int 1000)) (.cons (.ret (.tup (.cons e .nil))) .nil) (.cons .bot .nil)) .nil
theorem zG{e:ME}{A:bj}{ρ:au}{M:Mem}{d:D}(hd:∀(M':Mem) (Q:QD),wE Φ e ρ M' Q->Q d M')(h:wSs Φ (RL e) A ρ M):∃n:Int,d=.int n/\0<=n/\n<=1000/\A.rt (.tup [.int n]) M:=by
 simp only[RL,wSs,wS,wT,wA,gE,sIf,iN,dz,cj,wAr,aO,bN,opC]at h;rw[wE,wE]at h;have h:=hd _ _ h
 cases d with
 |int n=>
  obtain⟨k,z,h⟩:=h
  cases z
  by_cases h0:0<=n
  ·rw[if_pos (decide_eq_true h0)]at h;obtain⟨k,j,h⟩:=h
   cases j
   by_cases h1:n<=1000
   ·rw[if_pos (decide_eq_true h1)]at h;rw[wE]at h;exact⟨n,rfl,h0,h1,(hd _ _ h).2⟩
   ·rw[if_neg (by simpa using h1)]at h
    exact h.elim
  ·rw[if_neg (by simpa using h0)]at h
   obtain⟨k,j,h⟩:=h
   cases j
   exact h.elim
 |_=>exact h.elim
theorem B8{e:ME}{A:bj}{ρ:au}{M:Mem}(h:wSs Φ (RL e) A ρ M)(he:(∃i,e=.int i)∨∃j,e=.var j):∃n:Int,0<=n/\n<=1000/\(∀Q:QD,Q (.int n) M->wE Φ e ρ M Q)/\A.rt (.tup [.int n]) M:=by
 rcases he with⟨i,rfl⟩|⟨j,rfl⟩
 ·obtain⟨n,e,h0,h1,q⟩:=zG (d:=.int i) (λM' Q q=>by rw[wE]at q;exact q) h
  cases e
  exact⟨i,h0,h1,λQ q=>by rw[wE];exact q,q⟩
 ·have z:∃d,ρ[j]?=S (S d):=by
   simp only[RL,wSs,wS,wT,gE,sIf,dz,cj]at h;rw[wE,wE]at h;obtain⟨d,e,_⟩:=h;exact⟨d,e⟩
  obtain⟨d,e⟩:=z;obtain⟨n,rfl,h0,h1,q⟩:=zG (d:=d) (λM' Q q=>(by
   rw[wE]at q;obtain⟨d',e',q⟩:=q;rw[e]at e'
   cases e'
   exact q)) h
  exact⟨n,h0,h1,λQ q=>by rw[wE];exact⟨_,e,q⟩,q⟩
theorem E6{it tg:Expr}{body:List Stmt}{src:TId}{b:BT}{tb:TSd}(j:R4 (model X.prog X.w) X.A X.env X.xe)(z:X.calm=Uo)(hi:PI X.nox tg it (lI K src))(F:PG X.nox tg (lG K b))(J:PSs X body (gS K M0 H0 XE tb))(ms:cm src)(mb:aP tb)(hs:∀x,Lv it X.env x=pure x):PS X (.For tg it body [] pos) (gS K M0 H0 XE (kj src b tb)):=PS.imp (uo j z (PI.nox hi) (PG.nox F) J hs) (tW ms mb)
end
end Mi
end
open PySem.W
namespace Mi
noncomputable def XMF(K:Frag)(M:Mem)(H:Hp)(cls:h6)(fld:Str)(Q:VK)(E:XK):QD:=λd M'=>(∀n:Int,d=.tup [.int n]->0<=n->n<=1000->∀H' dx,Ext M H M' H'->RM K M' H'->H' dx=Z->E cls (S dx) (upd H' dx (.xd [(fld,.int n)])))/\(d=.non->∀v H',Ext M H M' H'->RM K M' H'->Q v H')
noncomputable def pX(K:Frag)(r:RAd)(cls:h6)(fld:Str):Sp:=λvs H Q E=>∃ds M,RM K M H/\RDs K H ds vs/\r ds M (XMF K M H cls fld Q E)
noncomputable def XEF(K:Frag)(M:Mem)(H:Hp)(cls:h6)(fld:Str)(E:XK):Int->Mem->Prop:=λn M'=>∀H' dx,Ext M H M' H'->RM K M' H'->H' dx=Z->E cls (S dx) (upd H' dx (.xd [(fld,.int n)]))
section
variable{P:JR}{w:K8}{K:Frag}{mg:Str->Option h6}{base:Heap}
theorem B9{N:List Str}{qual:Str}{scope:Scope}{f:Uq}{cd:h6}{A:K2}{outer:List Env}{s:i4}{H:Hp}{E:XK}{M0:Mem}{Φ:Phi}{x ta tb:Str}{np cpos pos:Pos}{z:Expr}{me:ME}{C D fI:Uq}{fld:Str}{fd:LB}{ps:List Str}{k:Nat}(F:(∃i,me=.int i)∨∃j,me=.var j)(L:PE (cu (CXF P w base (.ref C)) P w K mg base N qual scope f cd A outer s H E).nox z (lE K (wE Φ me)))(hg:scope.names.lookup x=S .globalImplicit)(hm:mg x=S (.ref C))(Um:kx K C D fI fld)(FI:bF P w K mg base CX0 k fI fd ps (spI C fld ta tb))(hr:Room (k+1) (A.deeper (NX qual scope s.heap.objs.size f cd)))(hb:Binds K fd ps [])(O:ta.length+tb.length<=100)(U:(x==("__debug__":Str))=Up)(he:∀env,JU [z] env=[(Up,eval z env)])(Y:∀env,(LA cpos (JU [z] env)).any (·.1)=Up):
 PSs (cu (CXF P w base (.ref C)) P w K mg base N qual scope f cd A outer s H E) [.Raise (S (.Call (.Name x np) [z] [] cpos)) Z pos] (gS K M0 H (XEF K M0 H (.ref C) fld E) (wSs Φ (RL me))):=by
 refine cP λpins s1 σ H1 D I g9=>?_;obtain⟨ρ,M,Aa,g,q⟩:=g9;obtain⟨n,h0,h1,Hf,Hg⟩:=B8 q F;refine w8 I rfl hg hm Um FI hr hb O (bn (PE.nox L) dh (he _)) ?_ U (he _) (Y _);refine⟨ρ,M,g.rs,g.rm,Hf _ λv H2 x2 Hh rd=>?_⟩
 cases TV.mp rd
 exact⟨n,rfl,h0,h1,λs2 e dx J ad Hi Hj Hk Hl=>ky (g.ra n M Hg h0 h1 H2 dx (g.x0.trans x2) Hh Hi) J ad (by rw[aj (Ne.symm Hj)];exact Hk) Hl⟩
theorem CU {T:List FD}{m k kk:Nat}{d:FD}{f:Uq}{fd:LB}{C:Uq}{fld:Str}(eT:T[m]?=S d)(F:Fun K d.name d.name d.st f fd)(F3:cQ d.N (d.N.take d.np) (al d.st))(L:(d.N.take d.np).length=d.np)(B:∀(cdv:h6) (A:K2) (outer:List Env) (s:i4) (H:Hp) (E:XK) (M0:Mem),Room kk (A.deeper (NX d.name (al d.st) s.heap.objs.size f cdv))->
   PSs (cu (CXF P w base (.ref C)) P w K mg base d.N d.name (al d.st) f cdv A outer s H E) (bE d.st) (gS K M0 H (XEF K M0 H (.ref C) fld E) (wSs (phi T k) d.body))):
 bF P w K mg base (CXF P w base (.ref C)) (kk+1) f fd (d.N.take d.np) (pX K (phi T (k+1) m) (.ref C) fld):=by
 obtain⟨oc,od,kV,doc,pm,an,cdv,ct,osl,rfl,lk,j⟩:=F.ex;refine zh lk j F3 (λvs H Q E h=>?_) λA outer s H vs Q E hr J=>?_
 ·obtain⟨ds,M,rm,rs,d',e',l,q⟩:=h;rw[eT]at e';cases e';rw[rs.length,l,L]
 ·obtain⟨ds,M,rm,rs,d',e',l,q⟩:=J;rw[eT]at e';cases e';refine⟨_,B cdv A outer s H E M hr,cK d.N ds,M,{nx:=λ_ M'=>XMF K M H (.ref C) fld Q E .non M',rt:=XMF K M H (.ref C) fld Q E},⟨RS.start rs,rm,Ext.refl,λn M' q h0 h1=>q.1 n rfl h0 h1,λM' v H' x rm' q=>q.2 rfl v H' x rm',⟨λρ M' σ H' x _ rm' q=>q.2 rfl .non H' x rm',λ_ _ _ _ _ _ _ z=>z.elim,λ_ _ _ _ _ _ _ z=>z,λ_ _ _ _ _ _ _ z=>z⟩⟩,q⟩
end
noncomputable def tRest(i:Nat)(C:Uq)(fld:Str):TS:=λD σ H=>(σ[i]?=S (S .non)/\D.rt .non H)∨∃a dx n,σ[i]?=S (S (.ref a))/\IsF H a C dx fld n/\D.rt (.int n) H/\∀p ho,H p=Z->D.rt (.int n) (upd H p ho)
noncomputable def yR(i m:Nat)(ms:MEs):MSs:=.cons (.asg (.name i) .non) (.cons (.asg (.name i) (.call m ms)) (.cons (.ite (.cmp .is (.var i) .non) (.cons (.ret .non) .nil) .nil) (.cons (.asg (.tup (.cons (.name i) .nil)) (.var i)) (.cons (.ret (.var i)) .nil))))
section
variable{Φ:Phi}{i m:Nat}{ms:MEs}{ρ:au}{M:Mem}{Aa:bj}
theorem wm(hΦ:∀f,b8 (Φ f))(h:wSs Φ (yR i m ms) Aa ρ M):wA Φ ms (ρ.set i (S .non)) M λds M1=>Φ m ds M1 λd M2=>(d=.non/\Aa.rt .non M2)∨∃d0,d=.tup [d0]/\Aa.rt d0 M2:=by
 have j:wE Φ (.call m ms)=wAr (Φ m) (wA Φ ms):=by rw[wE]
 have F:wE Φ (.var i)=iJ i:=by rw[wE]
 have J:wE Φ .non=wC .non:=by rw[wE]
 have gt:∀(ρ2:au) (x y:D),(ρ2.set i (S x))[i]?=S (S y)->y=x:=λρ2 x y e=>by
  by_cases L:i<ρ2.length
  ·rw[Ku L]at e;cases e;rfl
  ·rw[List.getElem?_eq_none (by simpa using L)]at e;cases e
 simp only[yR,wSs,wS,gE,gF,j,F,J]at h;obtain⟨ρ',e,h⟩:=h
 cases e
 refine mA hΦ ms _ _ _ _ (λds M1 q=>hΦ m _ _ _ _ (λd M2 q=>?_) q) h;obtain⟨ρ',e,q⟩:=q
 cases e
 simp only[sIf,wT,dz,opC,iN,fW,wOp,F,J]at q;obtain⟨d',e,b,z,k,ek,q⟩:=q
 cases ek
 have ed:=gt _ _ _ e;subst ed
 cases d' with
 |non=>
  cases z
  rw[if_pos rfl]at q;exact .inl ⟨rfl,q⟩
 |tup ds=>
  cases z
  rw[if_neg q7]at q;obtain⟨d',e,ρ',eb,q⟩:=q;have ed:=gt _ _ _ e;subst ed
  cases ds with
  |nil=>cases eb
  |cons d0 r=>
  cases r with
  |cons _ _=>cases eb
  |nil=>
  cases eb
  obtain⟨d1,j,q⟩:=q;have ed:=gt _ _ _ j;subst ed;exact .inr ⟨d1,rfl,q⟩
 |_=>
  cases z
  rw[if_neg q7]at q;obtain⟨d',e,ρ',eb,q⟩:=q;have ed:=gt _ _ _ e;subst ed
  cases eb
end
end Mi
end L2

namespace L2
open PySem PySem.Spec PyProof.Rows
open PySem.W
namespace Mi
section
variable{P:JR}{w:K8}{K:Frag}{mg:Str->Option h6}{base:Heap}
theorem Ba{T:List FD}{m k kk:Nat}{d d1:FD}{f f1:Uq}{fd J:LB}{i0 ie i:Nat}{C D:Uq}{n xD x fx fld:Str}{Y:Expr}{es:List Expr}{ms:MEs}{ka:Nat}{fp cpos epos np Hk xp apos Hf tpos Hl Hm Hn:Pos}{rest:List Stmt}{Cc:Ctx}(eT:T[i0]?=S d)(L:d.body=yR i m ms)(Hg:bE d.st=.Assign [.Name x Hl] (.Constant .none ka Hm) Hn::.Try [.Expr (.Call (.Name fx fp) (Y::es) [] cpos) epos] [.ExceptHandler (S (.Name xD np)) (S n) [.Assign [.Name x xp] (.Name n Hk) apos] Hf] [] [] tpos::rest)(F:Fun K d.name d.name d.st f fd)(F3:cQ d.N (d.N.take d.np) (al d.st))(hl:(d.N.take d.np).length=d.np)(G:∀(cdv:h6) (A:K2) (outer:List Env) (s:i4) (H:Hp) (E:XK),Room kk (A.deeper (NX d.name (al d.st) s.heap.objs.size f cdv))->Good Cc (phi T k) kk (cu CX0 P w K mg base d.N d.name (al d.st) f cdv A outer s H E).nox)(Um:∀X:Cx,X.mg=mg->X.K=K->X.env.scope=al d.st->wb X xD C D)(R:∀X:Cx,X.mg=mg->X.K=K->X.env.scope=al d.st->X.N=d.N->X.calm=Uo->PSs X rest (tRest i C fld))(hi:d.N[i]?=S x)(hx:(al d.st).names.lookup x=S .local)(Ho:d.N[ie]?=S n)(hn:(al d.st).names.lookup n=S .local)(Hh:ie≠i)(hd:(n==("__debug__":Str))=Up)(Hq:(n==("__classdict__":Str))=Up)(F1:bF P w K mg base (CXF P w base (.ref C)) kk f1 J (d1.N.take d1.np) (pX K (phi T k m) (.ref C) fld))(hg:(al d.st).names.lookup fx=S .globalImplicit)(hm:mg fx=S (.ref f1))(hk:Lw K (.ref f1)=Uo)(hb:Binds K J (d1.N.take d1.np) [])(ha:okEs ms Cc (Y::es)=Uo)(Hr:(fx==("__debug__":Str))=Up)(he:∀env,JU (Y::es) env=(Up,eval Y env)::JU es env)(Hs:∀env,(LA cpos (JU es env)).any (·.1)=Up)(Ht:∀env,LD (.Call (.Name fx fp) (Y::es) [] cpos) Z epos.line env=pure Up):
 bF P w K mg base CX0 (kk+1) f fd (d.N.take d.np) (lSp K (phi T (k+1) i0)):=by
 refine F.ok F3 (λvs H Q E h=>?_) λcdv A outer s H vs Q E hr h=>?_
 ·obtain⟨ds,M,rm,rs,d',e',l,q⟩:=h;rw[eT]at e';cases e';rw[rs.length,l,hl]
 ·obtain⟨ds,M,rm,rs,d',e',l,q⟩:=h;rw[eT]at e';cases e';rw[L]at q;have q:=wm (cW T k) q;have G1:=G cdv A outer s H E hr;rw[Hg];refine⟨_,cr (uh (i:=i) F3.nd hi (.inl hx) ja rfl (.inr hx)) (cr (B0 (k:=kk) (C:=C) (D:=D) (i:=i) (ie:=ie) (f:=f1) (fd:=J) rfl rfl rfl (fun a=>Um _ rfl rfl rfl) F3.nd hi hx Ho hn Hh hd Hq F1 hr hg hm hk hb (sA ms G1 (Y::es) ha) Hr (he _) (Hs _) (Ht _)) (R _ rfl rfl rfl rfl rfl)),?_⟩;have Hu:RS K H ((start d.N vs).set i (S .non)) ((cK d.N ds).set i (S .non)):=(RS.start rs).set i (U2.mpr rfl);have Hi:i<(start d.N vs).length:=by
   have hN:=(JO.mp hi).1;have hv:vs.length<=d.N.length:=by rw[rs.length,l,<-hl,Kf];exact Nat.min_le_right _ _
   rw[L2.start,JG,B2,QC];omega
  refine⟨_,M,Hu,rm,mA (cW T k) ms _ _ _ _ (λHv M1 q1 Hy H1 x1 Hw Hx=>⟨Hv,M1,Hw,Hx,cW T k m _ _ _ _ (λdd M2 O=>⟨λnn e h0 h1 H' dx x2 U Hj=>⟨dx,rfl,λa j=>?_⟩,λe v H' x2 U=>?_⟩) q1⟩) q⟩
  ·subst e
   rcases O with⟨z,_⟩|⟨d0,z,O⟩
   ·cases z
   cases z
   have nd:dx≠a:=λz=>by rw[z,ar]at j;cases j
   have X2:=(x1.trans x2).trans (U5 (ho:=.xd [(fld,.int nn)]) Hj);have R2:=U.new (ho:=.xd [(fld,.int nn)]) Hj;have X3:=X2.trans (U5 (ho:=.ext (clsF a C dx)) j);have R3:=R2.new (ho:=.ext (clsF a C dx)) j;refine .inr ⟨a,dx,nn,?_,⟨ar,by rw[aj nd];exact ar⟩,O _ _ X3 R3 (TV.mpr rfl),λp ho hp=>O _ _ (X3.trans (U5 hp)) (R3.new hp) (TV.mpr rfl)⟩
   rw[Mq Hh,Ku (by rw[T9];exact Hi)]
  ·subst e
   rcases O with⟨_,O⟩|⟨d0,z,_⟩
   ·exact .inl ⟨Ku Hi,O _ _ (x1.trans x2) U (U2.mpr rfl)⟩
   ·cases z
end
end Mi
end L2

namespace L2
open PySem PySem.Spec PyProof.Rows
open PySem.W
section
variable{X:Cx}
theorem yS{i:Nat}{C U Y:Uq}{x c1 J b1 b2 fld o:Str}{p0 p1 p2 p3 p4 p5 q0 q1 q2 q3 q4 r0 r1 r2 r3 r4 t0 t1 t2 t3 t4 t5 u0 u1 u2 u3 v0 v1 v2:Pos}{k1 k2 k3 kt:Nat}(hi:X.N[i]?=S x)(hx:X.env.scope.names.lookup x=S .local)(hd:(x==("__debug__":Str))=Up)(Hf:(x==("__classdict__":Str))=Up)(g0:Gl X "isinstance")(m0:X.mg "isinstance"=Z)(g1:Gl X c1)(m1:X.mg c1=S (.ref C))(d1:(c1==("__debug__":Str))=Up)(g2:Gl X J)(m2:X.mg J=Z)(Hg:Mp J=S (.type "ValueError"))(n2:J≠"__name__")(d2:(J==("__debug__":Str))=Up)(g3:Gl X b1)(m3:X.mg b1=S (.ref U))(d3:(b1==("__debug__":Str))=Up)(g4:Gl X b2)(m4:X.mg b2=S (.ref Y))(d4:(b2==("__debug__":Str))=Up)(Um:jU X.K C)(hh:hasDictIn X.K C=Uo)(ha:findIn X.K (.ref C) fld=S Z)(kV:Nq X.K (.ref C) (.type "ValueError")=S Uo)(kT:QX X.K (.ref C) [.ref U,.ref Y]=S Up)(hb:Nb (.Name x v0) fld X.env (eval (.Name x v0) X.env)=eval (.Name x v0) X.env):
 PSs X [.If (.Compare (.Name x p0) [.Is] [.Constant .none k1 p1] p2) [.Return (S (.Constant .none k2 p3)) p4] [] p5,
  .If (.BoolOp .Or [.UnaryOp .Not (.Call (.Name "isinstance" q0) [.Name x q1,.Name c1 q2] [] q3) q4,.UnaryOp .Not (.Call (.Name "isinstance" r0) [.Name x r1,.Name J r2] [] r3) r4,.Call (.Name "isinstance" t0) [.Name x t1,.Tuple [.Name b1 t2,.Name b2 t3] kt t4] [] t5] u0) [.Return (S (.Constant (.str o) k3 u1)) u2] [] u3,
  .Return (S (.Attribute (.Name x v0) fld v1)) v2] (Mi.tRest i C fld):=by
 have hn:∀pos,PE X (.Name x pos) (sf i):=λpos=>gp hi (.inl hx) hd Hf;have a1:=bp (p:=q0) (pos:=q3) (pN (X:=X)) g0 m0 (by decide +kernel) (bn (hn q1) (bn (jV (pos:=q2) g1 m1 d1) dh rfl) rfl) (by decide) (by decide) rfl rfl
 have a2:=bp (p:=r0) (pos:=r3) (pN (X:=X)) g0 m0 (by decide +kernel) (bn (hn r1) (bn (qW (v:=.ty "ValueError") (pos:=r2) g2 m2 Hg rfl n2 d2) dh rfl) rfl) (by decide) (by decide) rfl rfl
 have a3:=bp (p:=t0) (pos:=t5) (wa (X:=X)) g0 m0 (by decide +kernel) (bn (hn t1) (bn (uw (x1:=kt) (pos:=t4) (bn (jV (pos:=t2) g3 m3 d3) (bn (jV (pos:=t3) g4 m4 d4) dh rfl) rfl)) dh rfl) rfl) (by decide) (by decide) rfl rfl
 refine Mi.PSs.imp (cr (mM (qY BP (hn _) ja (BQ _)) (cP (gu ja)) gT) (cr (mM (sg (nO (nN a1)) (sg (nO (nN a2)) (ue (nN a3)))).pt (cP (gu jb)) gT) (cP (gu (CF (C:=C) (hn _) hb Um hh ha))))) λD σ H h=>?_
 rcases h with⟨F,q⟩|⟨a,dx,n,F,j,q,qp⟩
 ·exact⟨.non,F,rfl,Uo,by simp,q⟩
 ·refine⟨.ref a,F,rfl,Up,by simp,?_⟩
  dsimp only;rw[if_neg q7];refine⟨.ref a,F,a,C,dx,fld,n,.ref C,Uo,rfl,rfl,j,Um,?_,Uo,rfl,?_⟩
  ·unfold Nq;rw[if_pos (by simp[cV])]
  dsimp only;rw[if_neg (by decide)]
  refine⟨.ref a,F,a,C,dx,fld,n,.ty "ValueError",Uo,rfl,rfl,j,Um,kV,Uo,rfl,?_⟩;dsimp only;rw[if_neg (by decide)]
  refine⟨.ref a,F,?_⟩;refine⟨by simp;decide,λp L=>?_⟩
  have na:a≠p:=λz=>by rw[z]at j;rw[j.1]at L;cases L
  have nd:dx≠p:=λz=>by rw[z]at j;rw[j.2]at L;cases L
  have O:IsF (upd H p (.tup [.ref U,.ref Y])) a C dx fld n:=⟨by rw[aj na];exact j.1,by rw[aj nd];exact j.2⟩
  refine⟨a,C,dx,fld,n,p,U,Y,Up,rfl,O,Um,ar,kT,Up,rfl,?_⟩;dsimp only;rw[if_neg q7];exact⟨.ref a,F,a,dx,n,rfl,O,qp _ _ L⟩
end
end L2

namespace L2
open PySem PySem.Spec PyProof.Rows
open PySem.W
namespace Mi
theorem Bb{K:Frag}{C:Uq}(y1:findIn K (.ref C) "__getattribute__"=S (S (.builtin "BaseException.__getattribute__")))(y2:findIn K (.ref C) "__getattr__"=S Z)(z:findIn K (.ref C) "__class__"=S (S (.builtin "object.__class__")))(F:specialIn K (.builtin "object.__class__") "__get__"=S (S (.builtin "getset_descriptor.__get__")))(J:takesIn K (.builtin "object.__class__")=S Uo)(L:mroIn K C (.type "object")=S Uo)(O:subIn K (.ref C) (.type "BaseException")=S Uo)(U:isClsIn K C=Uo):jU K C:=by have j:(clsIn K C).isSome=Uo:=U;refine⟨y1,y2,λod=>?_,L,O,j⟩;obtain⟨cd,e⟩:=Ll.mp j;unfold findObj;rw[e,KN,z,KN];simp[F,J]
section
variable{P:JR}{w:K8}{K:Frag}{mg:Str->Option h6}{base:Heap}
structure CV(K:Frag)(mg:Str->Option h6)(T:List FD)(m r:Nat)(cs:List (Str×D)):Prop where
 blt:∀x∈bltNames,mg x=Z
 fns:∀(i:Nat) (d:FD),T[i]?=S d->∃f fd,Fun K d.name d.name d.st f fd/\mg d.name=S (.ref f)/\nsIn K KR d.name=S (S (.ref f))/\Binds K fd (d.N.take d.np) []
 ok:∀(i:Nat) (d:FD),T[i]?=S d->i<m->i≠r->kB ((T.take m).map (·.name)) cs d=Uo
 cst:∀x d,(x,d)∈cs->∃u,mg x=S u/\GV K d u
theorem E7{T:List FD}{m r:Nat}{cs:List (Str×D)}(h:((L4 m).all λi=>i==r || (T[i]?).all (kB ((T.take m).map (·.name)) cs))=Uo)(i:Nat)(d:FD)(e:T[i]?=S d)(hi:i<m)(hr:i≠r):kB ((T.take m).map (·.name)) cs d=Uo:=by have z:=Lu.mp h i (Nm.mpr hi);rw[e]at z;simpa[hr]using z
def tX(P:JR)(w:K8)(K:Frag)(mg:Str->Option h6)(base:Heap)(T:List FD)(m:Nat)(cs:List (Str×D))(CX:CXT)(k kk:Nat)(d:FD):Prop:=∀(f:Uq) (cdv:h6) (A:K2) (outer:List Env) (s:i4) (H:Hp) (E:XK),Room kk (A.deeper (NX d.name (al d.st) s.heap.objs.size f cdv))->Good ⟨(T.take m).map (·.name),d.N,al d.st,d.N,cs,0,d.name⟩ (phi T k) kk (cu CX P w K mg base d.N d.name (al d.st) f cdv A outer s H E).nox
theorem rV{T:List FD}{m r:Nat}{dm dr:FD}{cs:List (Str×D)}{C:Uq}{fld:Str}(O:CV K mg T m r cs)(er:T[r]?=S dr)(nm:dm.N.Nodup)(nr:dr.N.Nodup)(Um:∀k f fd,tX P w K mg base T m cs (CXF P w base (.ref C)) k (k+2) dm->Fun K dm.name dm.name dm.st f fd->bF P w K mg base (CXF P w base (.ref C)) (k+3) f fd (dm.N.take dm.np) (pX K (phi T (k+1) m) (.ref C) fld))(hR:∀k f fd,tX P w K mg base T m cs CX0 k (k+2) dr->(∀f fd,Fun K dm.name dm.name dm.st f fd->bF P w K mg base (CXF P w base (.ref C)) (k+2) f fd (dm.N.take dm.np) (pX K (phi T k m) (.ref C) fld))->Fun K dr.name dr.name dr.st f fd->bF P w K mg base CX0 (k+3) f fd (dr.N.take dr.np) (lSp K (phi T (k+1) r))):
 ∀k:Nat,(∀(i:Nat) (d:FD) (f:Uq) (fd:LB),T[i]?=S d->i<m->Fun K d.name d.name d.st f fd->bF P w K mg base CX0 (k+2) f fd (d.N.take d.np) (lSp K (phi T k i)))/\∀f fd,Fun K dm.name dm.name dm.st f fd->bF P w K mg base (CXF P w base (.ref C)) (k+2) f fd (dm.N.take dm.np) (pX K (phi T k m) (.ref C) fld)
 |0=>⟨λi d f fd _ _ _=>⟨λvs H Q E h=>by obtain⟨ds,M,_,_,q⟩:=h;exact q.elim,λA outer s H args us vs Q E _ _ _ _ h=>by obtain⟨ds,M,_,_,q⟩:=h;exact q.elim⟩,
  λf fd _=>⟨λvs H Q E h=>by obtain⟨ds,M,_,_,q⟩:=h;exact q.elim,λA outer s H args us vs Q E _ _ _ _ h=>by obtain⟨ds,M,_,_,q⟩:=h;exact q.elim⟩⟩
 |k+1=>by
  obtain⟨IH,IX⟩:=rV O er nm nr Um hR k;have G:∀(d:FD) (CX:CXT),d.N.Nodup->tX P w K mg base T m cs CX k (k+2) d:=λd CX nd f cdv A outer s H E hr=>by
   refine⟨λ_ _ z=>z,rfl,rfl,rfl,nd,λ_ _=>rfl,hr,O.blt,λj x hx=>?_,cW T k,O.cst,λz=>(by cases z),λ_ z=>(by cases z)⟩
   have J:((T.take m).map (·.name))[j]?=S x:=hx;rw[KA,List.getElem?_take]at J
   by_cases Y:j<m
   ·rw[if_pos Y]at J
    cases U:T[j]? with
    |none=>rw[U]at J;cases J
    |some d2=>rw[U]at J;cases J;obtain⟨f2,L,F2,m2,n2,b2⟩:=O.fns j d2 U;exact⟨f2,L,_,m2,n2,F2.kp,b2,IH j d2 f2 L U Y F2⟩
   ·rw[if_neg Y]at J;cases J
  refine⟨λi d f fd e hi F=>?_,λf fd F=>Um k f fd (G _ _ nm) F⟩
  by_cases hir:i=r
  ·subst hir;rw[er]at e;cases e;exact hR k f fd (G _ _ nr) IX F
  ·obtain⟨F3,hl,hb⟩:=gh (O.ok i d e hi hir);refine F.ok (k:=k+2) F3 (λvs H Q E h=>?_) λcdv A outer s H vs Q E hr h=>?_
   ·obtain⟨ds,M,rm,rs,d',e',l,q⟩:=h;rw[e]at e';cases e';rw[rs.length,l,hl]
   ·obtain⟨ds,M,rm,rs,d',e',l,q⟩:=h;rw[e]at e';cases e';exact⟨_,sSs d.body (G d CX0 F3.nd f cdv A outer s H E hr) F3.kind _ hb,cK d.N ds,M,{nx:=λ_ M'=>KE' K M H Q .non M',rt:=KE' K M H Q},RS.start rs,rm,⟨λρ M' σ H' x rs' rm' q'=>q' .non H' x rm' (U2.mpr rfl),λd M' v H' x rm' rd' q'=>q' v H' x rm' rd',λ_ _ _ _ _ _ _ z=>z,λ_ _ _ _ _ _ _ z=>z⟩,q⟩
end
end Mi
end L2

namespace L2
open PySem PySem.Spec PyProof.Rows
open PySem.W
namespace Mi
inductive XI where
 |pl (m:MS)
 |rs (c:MT) (e:ME)
inductive XL where
 |one (x:XI)
 |loop (g:MG) (src:MI) (b:List XI)
noncomputable def XI.ms:XI->MS
 |.pl m=>m
 |.rs c e=>.ite c (RL e) .nil
noncomputable def msI:List XI->MSs
 |[]=>.nil
 |x::r=>.cons x.ms (msI r)
noncomputable def msL(i:Nat)(v:ME):List XL->MSs
 |[]=>.cons (.asg (.name i) v) (.cons (.ret .non) .nil)
 |.one x::r=>.cons x.ms (msL i v r)
 |.loop g src b::r=>.cons (.for g src (msI b)) (msL i v r)
noncomputable def zH:MS->Bool
 |.asg _ _=>Uo
 |.drop _=>Uo
 |_=>Up
noncomputable def ivB:ME->Bool
 |.int _=>Uo
 |.var _=>Uo
 |_=>Up
noncomputable def rsB(xr:Str)(C:Ctx)(e:ME)(l:List Stmt):Bool:=match l with
 |[.Raise (S (.Call (.Name x _) [e1] [] _)) Z _]=>x==xr&&aQ e1&&okE e C e1&&ivB e
 |_=>Up
noncomputable def pY(xr:Str)(C:Ctx):XI->Stmt->Bool
 |.pl m,s=>zH m&&okS m C s
 |.rs c e,s=>match s with
  |.If t a [] _=>okT c C t&&rsB xr C e a
  |_=>Up
noncomputable def kC(xr:Str)(C:Ctx):List XI->List Stmt->Bool
 |[],l=>l.isEmpty
 | x::r,l=>match l with
   |s::l=>pY xr C x s&&kC xr C r l
   |[]=>Up
noncomputable def yT(xr:Str)(C:Ctx):XL->Stmt->Bool
 |.one x,s=>pY xr C x s
 |.loop g src b,s=>match s with
  |.For tg it body [] _=>nI it&&okG g C tg&&okI src C tg it&&kC xr C b body
  |_=>Up
noncomputable def okX(xr:Str)(C:Ctx)(v:ME):List XL->List Stmt->Bool
 |[],l=>match l with
  |[.Return (S ev) _]=>okE v C ev
  |_=>Up
 | x::r,l=>match l with
   |s::l=>yT xr C x s&&okX xr C v r l
   |[]=>Up
section
variable{C:Ctx}{Φ:Phi}{k:Nat}{X:Cx}{M0:Mem}{H0:Hp}{XE:Int->Mem->Prop}
theorem Bc{m:MS}(h:zH m=Uo)(A:bj)(ρ:au)(M:Mem)(q:wS Φ m A ρ M):wS Φ m (noR A) ρ M:=by
 cases m<;>first|cases h|skip
 ·rw[wS]at q⊢;exact q
 ·rw[wS]at q⊢;exact q
section
variable(G:Good C Φ k X.nox)(hk:C.sc.kind=.function){xr:Str}
 (hr:∀(e:ME) (e1:Expr) (np cpos pos:Pos),aQ e1=Uo->okE e C e1=Uo->ivB e=Uo->PSs X [.Raise (S (.Call (.Name xr np) [e1] [] cpos)) Z pos] (gS X.K M0 H0 XE (wSs Φ (RL e))))
include G hk hr
theorem sXI(x:XI)(s:Stmt)(h:pY xr C x s=Uo):PS X s (gS X.K M0 H0 XE (wS Φ x.ms)):=by
 cases x with
 |pl m=>rw[pY,i5]at h;exact B7 (sS m G hk s h.2) (Bc h.1)
 |rs c e=>
  unfold pY at h;dsimp only at h
  split at h
  ·next t a p=>
   rw[i5]at h;have h2:=h.2;unfold rsB at h2
   split at h2
   ·next x np j cpos pos=>simp only[i5,beq_iff_eq]at h2;obtain⟨⟨⟨rfl,a1⟩,a2⟩,z⟩:=h2;show PS X _ (gS X.K M0 H0 XE (wS Φ (.ite c (RL e) .nil)));rw[wS];refine F4 (mT G.mono c) (sT c G t h.1) (hr e j np cpos pos a1 a2 z) ?_;rw[wSs];exact zF
   ·cases h2
  ·cases h
theorem sXs:∀(l:List XI) (ss:List Stmt),kC xr C l ss=Uo->PSs X ss (gS X.K M0 H0 XE (wSs Φ (msI l)))
 |[],ss,h=>by rw[kC,List.isEmpty_iff]at h;subst h;rw[msI,wSs];exact zF
 |x::r,ss,h=>by
  cases ss with
  |nil=>rw[kC]at h;cases h
  |cons s ss=>rw[kC,i5]at h;rw[msI,wSs];exact pW (sXI G hk hr x s h.1) (sXs r ss h.2)
theorem sXL(z:R4 (model X.prog X.w) X.A X.env X.xe)(F:X.calm=Uo)(x:XL)(s:Stmt)(i:Nat)(v:ME)(r:List XL)(rest:List Stmt)(h:yT xr C x s=Uo)(j:PSs X rest (gS X.K M0 H0 XE (wSs Φ (msL i v r)))):PSs X (s::rest) (gS X.K M0 H0 XE (wSs Φ (msL i v (x::r)))):=by
 cases x with
 |one x=>rw[msL,wSs];exact pW (sXI G hk hr x s h) j
 |loop g src b=>
  rw[msL,wSs];refine pW ?_ j;unfold yT at h;dsimp only at h
  split at h
  ·next tg it body p=>simp only[i5]at h;obtain⟨⟨⟨h1,h2⟩,J⟩,L⟩:=h;rw[wS];exact E6 z F (sI src G _ _ J).1 (sG G g _ h2) (sXs G hk hr b body L) (mI G.mono src) (mSs G.mono _) (pS h1)
  ·cases h
theorem sX(j:R4 (model X.prog X.w) X.A X.env X.xe)(z:X.calm=Uo)(i:Nat)(v:ME):∀(l:List XL) (ss:List Stmt),okX xr C v l ss=Uo->PSs X ss (gS X.K M0 H0 XE (wSs Φ (msL i v l)))
 |[],ss,h=>by
  unfold okX at h
  split at h
  ·next ev p=>
   rw[msL,wSs,wSs,wSs,wS,wS];have F:wE Φ .non=wC .non:=by rw[wE]
   rw[F];exact E5 (mE G.mono v) (sE v G ev h)
  ·cases h
 |x::r,ss,h=>by
  cases ss with
  |nil=>rw[okX]at h;cases h
  |cons s ss=>rw[okX,i5]at h;exact sXL G hk hr j z x s i v r ss h.1 (sX j z i v r ss h.2)
end
end
end Mi
end L2

namespace L2
open PySem PySem.Spec PyProof.Rows
open PySem.W
namespace Mi
noncomputable def CW(s:Stmt)(i:Nat):Stmt:=match s with
 |.ClassDef _ _ _ b _ _ _ _ _ _ _=>b.getD i s
 |_=>s
noncomputable def kD(C D:Uq)(cd:ClassData)(sl:Array (Option h6)):Bool:=match cd.mro,sl.toList with
 |.ref C'::.ref D'::r,[_,_,_,_,S (.builtin n),_]=>C'==C&&D'==D&&r==vbm&&n=="ValueError.__new__" && !cd.hasDel&&cd.hasDict
 |_,_=>Up
noncomputable def j3(o:Obj):Bool:=match o.data with
 |.dict es _=>es.toList.all λe=>match e.key with|.str _ _=>Uo|_=>Up
 |_=>Up
theorem Bd{K:Frag}{C D fI:Uq}{fld:Str}{dd:Option Uq}{cd:ClassData}{sl:Array (Option h6)}{oN:Obj}(lC:K.lookup C=S ⟨.type "type",dd,.cls cd,sl⟩)(F:kD C D cd sl=Uo)(lN:K.lookup cd.ns=S oN)(O:j3 oN=Uo)(iC:nsIn K cd.ns "__init__"=S (S (.ref fI)))(xD:excIn K D vbm "ValueError.__new__"=Uo)(sa:findIn K (.ref C) "__setattr__"=S (S (.builtin "object.__setattr__")))(na:findIn K (.ref C) fld=S Z)(dg:specialIn K (.ref D) "__getattribute__"=S (S (.builtin "type.__getattribute__")))(dr:readsIn K D (.type "type")=Uo)(df:findCls K (.ref D) (.type "type") "__init__"=S (.val (.builtin "ValueError.__init__")))(fo:isFn K (.ref fI)=Uo):kx K C D fI fld/\hasDictIn K C=Uo:=by
 have j:clsIn K C=S cd:=by unfold clsIn;rw[lC]
 have fo':((K.lookup fI).any λo=>o.cls==.type "function")=Uo:=by
  unfold isFn typeIn at fo;dsimp only at fo
  cases e:K.lookup fI with
  |none=>rw[e]at fo;cases fo
  |some o=>rw[e]at fo;have z:o.cls=.type "function":=Lo.inj (beq_iff_eq.mp fo);show(o.cls==_)=Uo;rw[z];exact beq_self_eq_true _
 have ok:nsOkIn K cd.ns=Uo:=by
  unfold nsOkIn;rw[lN];unfold j3 at O;obtain⟨a,b,dat,sl⟩:=oN
  cases dat<;>first|cases O;done|skip
  dsimp only at O⊢;rw[<-Array.all_toList];exact O
 unfold kD at F
 split at F
 ·next C' D' r n k0 k1 k2 k3 k5 hm hs=>
  simp only[i5,beq_iff_eq,Km]at F;obtain⟨⟨⟨⟨⟨rfl,rfl⟩,rfl⟩,rfl⟩,J⟩,L⟩:=F;have U:tailIn K vbm (.ref D'::vbm)=Uo:=by
   unfold tailIn;rw[OS];refine .inr ?_;unfold excIn at xD
   split at xD
   ·next Y Um Hf ho=>
    split at xD
    ·next C2 Hg l0 l1 l2 l3 n2 l5 Hh Hi=>simp only[i5,beq_iff_eq,Km]at xD;obtain⟨⟨⟨⟨⟨_,_⟩,_⟩,_⟩,q1⟩,q2⟩:=xD;dsimp only;rw[ho];dsimp only;rw[q1,q2];unfold tailIn;simp
    ·cases xD
   ·cases xD
  refine⟨⟨?_,sa,?_,na,dg,dr,df,fo'⟩,by unfold hasDictIn;rw[j];exact L⟩
  ·unfold jF;rw[lC];simp only[hm,hs,U,ok,iC,J];simp
  ·unfold pL;rw[j];show(io cd.mro&&cd.hasDict)=Uo;rw[hm,L];simp[io]
 ·cases F
theorem E8{e:ME}(h:ivB e=Uo):(∃i,e=.int i)∨∃j,e=.var j:=by
 cases e<;>first|cases h|skip
 ·exact .inr ⟨_,rfl⟩
 ·exact .inl ⟨_,rfl⟩
theorem pZ{j:Expr}(h:aQ j=Uo)(env:Env):JU [j] env=[(Up,eval j env)]:=by rw[aq h];rfl
theorem wn{j:Expr}{p:Pos}(h:aQ j=Uo)(env:Env):(LA p (JU [j] env)).any (·.1)=Up:=by rw[pZ h];rfl
end Mi
end L2

namespace L2
open PySem PySem.Spec PyProof.Rows
namespace Mi
variable{f n ft L0 L1 L2:Nat}{d:D}{ds xs:List D}{M M' M'':Mem}{Q:QD}{ρ:au}{Φ:Phi}{s:Stmt}{a b p q:Uq}{i j:Int}{kvs:List (D×D)}{E:bj}{ns other row ks td:List Int}{hn:Str}
section
theorem CY{T:List FD}{k:Nat}{d:FD}(e:T[f]?=S d)(l:ds.length=d.np)(r:cK d.N ds=ρ)(h:wSs (phi T k) d.body {nx:=λ_ M'=>Q .non M',rt:=Q} ρ M):phi T (k+1) f ds M Q:=by
 rw[<-r]at h
 first|exact⟨d,e,l,h⟩|exact .inl ⟨d,e,l,h⟩
theorem aB{T:List FD}{d:FD}(hn:1<=n)(e:T[f]?=S d)(l:ds.length=d.np)(r:cK d.N ds=ρ)(h:wSs (phi T (n-1)) d.body {nx:=λ_ M'=>Q .non M',rt:=Q} ρ M):phi T n f ds M Q:=by
 obtain⟨k,rfl⟩:∃k,n=k+1:=⟨n-1,∅⟩
 exact CY e l r h
theorem ax{D:bj}:wSs Φ .nil D ρ M=D.nx ρ M:=by rw[wSs];rfl
theorem j4{s:MS}{r:MSs}{D:bj}:wSs Φ (.cons s r) D ρ M=wS Φ s {D with nx:=wSs Φ r D} ρ M:=by rw[wSs];rfl
theorem Fn{y:D}:wIx (.tup ds) y M Q=∃i d,y=.int i/\atI ds i=S d/\Q d M:=rfl
theorem Fo{y:D}:wIx (.con ds) y M Q=∃i d,y=.int i/\atI ds i=S d/\Q d M:=rfl
theorem aw(h:M a=S (.lst ds))(e:atI ds i=S d)(q:Q d M):wIx (.ref a) (.int i) M Q:=.inl ⟨ds,i,d,h,rfl,e,q⟩
theorem q8{v:D}{j:Nat}{Q:Mem->Prop}(h:M a=S (.lst ds))(e:ixN ds.length i=S j)(q:Q (ag M a (.lst (ds.set j v)))):eU (.ref a) (.int i) v M Q:=⟨a,rfl,.inl ⟨ds,i,j,rfl,h,e,q⟩⟩
theorem cc(h:M a=S (.lst ds))(q:Q (.int ds.length) M):fg [.ref a] M Q:=⟨_,_,rfl,by simp only[gB,h],q⟩
theorem ao(h:M a=S (.lst ds)):bv M (.ref a)=S ds:=by simp only[bv,h]
theorem G3:kf [.int i] M Q=Q (.int i) M:=by
 apply propext;constructor
 ·rintro(⟨j,e,q⟩|⟨k,e,q⟩)
  ·cases e;exact q
  ·cases e
 ·exactλq=>.inl ⟨i,rfl,q⟩
theorem G4{b:Bool}:kf [.bl b] M Q=Q (.int (if b then 1 else 0)) M:=by
 apply propext;constructor
 ·rintro(⟨j,e,q⟩|⟨k,e,q⟩)
  ·cases e
  ·cases e;exact q
 ·exactλq=>.inr ⟨b,rfl,q⟩
theorem GY:wEq (.int i) (.int j) M Q=Q (.bl (i==j)) M:=by simp[wEq,rb,Kk]
theorem GZ:wNe (.int i) (.int j) M Q=Q (.bl (!(i==j))) M:=by simp[wNe,rb,Kk]
theorem q9:eh (.int i) (.int j) M Q=Q (.int (i+j)) M:=rfl
theorem G5{a b:List D}:eh (.tup a) (.tup b) M Q=((a≠[]∨True)/\a.length+b.length<=D2/\Q (.tup (a++b)) M):=rfl
theorem CZ:eh (.ref a) (.ref b) M Q=∃xs ys,M a=S (.lst xs)/\M b=S (.lst ys)/\xs.length+ys.length<=D2/\∀p,M p=Z->Q (.ref p) (ag M p (.lst (xs++ys))):=rfl
theorem G6:oz (.int i) (.int j) M Q=Q (.int (i-j)) M:=rfl
theorem G7:iL (.int i) (.int j) M Q=(MulOk i j/\Q (.int (i*j)) M):=rfl
theorem G8{k:Int}:iL (.tup ds) (.int k) M Q=(-(2^63)<=k/\k<2^63/\ds.length*k.toNat<=D2/\Q (.tup (JZ k.toNat ds).flatten) M):=rfl
theorem Fp:jq (.int i) (.int j) M Q=(0<j/\j<2^256/\Q (.int (i / j)) M):=rfl
theorem G9:oB (.int i) (.int j) M Q=(0<j/\Q (.int (i%j)) M):=rfl
theorem Ga:oC (.int i) (.int j) M Q=(0<=j/\j<=1000000/\i.natAbs<2^64/\Q (.int (i^j.toNat)) M):=rfl
theorem E9:wLt (.int i) (.int j) M Q=Q (.bl (decide (i<j))) M:=rfl
theorem Ea:wLe (.int i) (.int j) M Q=Q (.bl (decide (i<=j))) M:=rfl
theorem Ec:wGt (.int i) (.int j) M Q=Q (.bl (decide (j<i))) M:=rfl
theorem H8:wGe (.int i) (.int j) M Q=Q (.bl (decide (j<=i))) M:=rfl
theorem Gb:oE (.int i) M Q=Q (.int (-i)) M:=rfl
theorem Gc:ke [.int i] M Q=Q (.int (if i<0 then -i else i)) M:=by simp[ke]
theorem Fq:jr [.int i,.int j] M Q=Q (.int (if j > i then j else i)) M:=by
 apply propext;constructor
 ·rintro⟨a,b,e,q⟩;cases e;exact q
 ·exactλq=>⟨i,j,rfl,q⟩
theorem Fs:jt [.int i,.int j] M Q=Q (.int (if j<i then j else i)) M:=by
 apply propext;constructor
 ·rintro⟨a,b,e,q⟩;cases e;exact q
 ·exactλq=>⟨i,j,rfl,q⟩
theorem Gd:fg [.con ds] M Q=Q (.int ds.length) M:=by simp[fg,gB]
theorem Gf:fg [.tup ds] M Q=Q (.int ds.length) M:=by simp[fg,gB]
theorem Gg:bv M (.tup ds)=S ds:=rfl
theorem Gh:bv M (.con ds)=S ds:=rfl
theorem H9{α:Sort _}{a b:α}:(if Uo=Uo then a else b)=a:=rfl
theorem Ha{α:Sort _}{a b:α}:(if Up=Uo then a else b)=b:=rfl
theorem Gi{x y:Str}:eh (.str x) (.str y) M Q=(x.length+y.length<=D2/\Q (.str (x++y)) M):=rfl
theorem Gj{i}:wE Φ (.var i)=iJ i:=rfl
theorem Gk{i}:wE Φ (.int i)=wC (.int i):=rfl
theorem Hb{b}:wE Φ (.bl b)=wC (.bl b):=rfl
theorem Gm:wE Φ (.non)=wC .non:=rfl
theorem Gn{x}:wE Φ (.str x)=wC (.str x):=rfl
theorem Go{op}{a}{b}:wE Φ (.bin op a b)=wOp (opB op) (wE Φ a) (wE Φ b):=rfl
theorem Gp{a}:wE Φ (.neg a)=wUn oE (wE Φ a):=rfl
theorem Gq{op}{a}{b}:wE Φ (.cmp op a b)=wOp (opC op) (wE Φ a) (wE Φ b):=rfl
theorem Gr{es}:wE Φ (.and es)=wAnds Φ es:=rfl
theorem Hc{es}:wE Φ (.or es)=wOrs Φ es:=rfl
theorem Gs{a}:wE Φ (.not a)=mW (wE Φ a):=rfl
theorem Gu{c}{a}{b}:wE Φ (.ite c a b)=wIf (wT Φ c) (wE Φ a) (wE Φ b):=rfl
theorem Gv{es}:wE Φ (.tup es)=wAr ou (wA Φ es):=rfl
theorem Gw{es}:wE Φ (.lst es)=wAr sR (wA Φ es):=rfl
theorem Hd{a}{b}:wE Φ (.ix a b)=wOp wIx (wE Φ a) (wE Φ b):=rfl
theorem Ft{f}{es}:wE Φ (.call f es)=wAr (Φ f) (wA Φ es):=rfl
theorem Gy{f}{es}:wE Φ (.blt f es)=wAr (opF f) (wA Φ es):=rfl
theorem Fu{a}{T}:wE Φ (.isin a T)=mX T (wE Φ a):=rfl
theorem F5{op}{op'}{a}{b}{c}:wE Φ (.chain op op' a b c)=cj (opC op) (opC op') (wE Φ a) (wE Φ b) (wE Φ c):=rfl
theorem Fv{t}:wE Φ (.dnew t)=nv t:=rfl
theorem Fw{es}:wE Φ (.disp es)=nD (wA Φ es):=rfl
theorem Fy{o}{k}:wE Φ (.popk o k)=nG (wE Φ o) (wE Φ k):=rfl
theorem Fz{o}{k}{x}:wE Φ (.dget o k x)=nC (wE Φ o) (wE Φ k) (wE Φ x):=rfl
theorem FA{m}{o}{a}:wE Φ (.meth m o a)=wBM (opM m) (wE Φ o) (aO (wE Φ a) bN):=rfl
theorem Gz{o}{i}{a}:wE Φ (.ins o i a)=wBM im (wE Φ o) (aO (wE Φ i) (aO (wE Φ a) bN)):=rfl
theorem FB{fr}{u1}{c}:wE Φ (.comp fr u1 c)=wCmp Φ fr c:=rfl
theorem FC:wA Φ (.nil)=bN:=rfl
theorem F6{e}{r}:wA Φ (.cons e r)=aO (wE Φ e) (wA Φ r):=rfl
theorem F7:wTl Φ (.nil)=[]:=rfl
theorem Et{t}{r}:wTl Φ (.cons t r)=wT Φ t::wTl Φ r:=rfl
theorem GA{e}:wI Φ (.seq e)=tj (wE Φ e):=rfl
theorem FE{a}:wI Φ (.rng1 a)=mY (aO (wE Φ a) bN):=rfl
theorem FF{a}:wI Φ (.enum a)=mZ (wE Φ a):=rfl
theorem Eu{src}{g}{ifs}{elt}:wCl Φ (.last src g ifs elt)=dQ (wI Φ src) (bG g) (bC (wTl Φ ifs) (eR (wE Φ elt))):=rfl
theorem Ev{src}{g}{ifs}{rest}:wCl Φ (.more src g ifs rest)=dQ (wI Φ src) (bG g) (bC (wTl Φ ifs) (wCl Φ rest)):=rfl
theorem Ed{fr:List (Option Nat)}{src}{g}{ifs}{elt}:wCmp Φ fr (.last src g ifs elt)=i6 fr (wI Φ src) (bG g) (bC (wTl Φ ifs) (eR (wE Φ elt))):=rfl
theorem Ee{fr:List (Option Nat)}{src}{g}{ifs}{rest}:wCmp Φ fr (.more src g ifs rest)=i6 fr (wI Φ src) (bG g) (bC (wTl Φ ifs) (wCl Φ rest)):=rfl
theorem GB{g}{e}:wS Φ (.asg g e)=gF (wE Φ e) (bG g):=rfl
theorem GC{i}{j}{a}{b}:wS Φ (.par i j a b)=iO (aO (wE Φ a) (aO (wE Φ b) bN)) (bf (be i) (bf (be j) eA)):=rfl
theorem FG{i}{j}{l}{a}{b}{c}:wS Φ (.par3 i j l a b c)=iO (aO (wE Φ a) (aO (wE Φ b) (aO (wE Φ c) bN))) (bf (be i) (bf (be j) (bf (be l) eA))):=rfl
theorem GD{o}{i}{e}:wS Φ (.put o i e)=tD (wE Φ e) (wE Φ o) (wE Φ i):=rfl
theorem FH{e}:wS Φ (.drop e)=nj (wE Φ e):=rfl
theorem GE{e}:wS Φ (.ret e)=iN (wE Φ e):=rfl
theorem GF{c}{a}{b}:wS Φ (.ite c a b)=sIf (wT Φ c) (wSs Φ a) (wSs Φ b):=rfl
theorem GG{g}{src}{b}:wS Φ (.for g src b)=kj (wI Φ src) (bG g) (wSs Φ b):=rfl
theorem F8{c}{b}:wS Φ (.while c b)=jx (wT Φ c) (wSs Φ b):=rfl
theorem FJ{o}{k}:wS Φ (.delk o k)=nH (wE Φ o) (wE Φ k):=rfl
theorem GH:wS Φ (.bot)=λ_ _ _=>False:=rfl
theorem FK:wS Φ (.pass)=fW:=rfl
theorem GI:wS Φ (.brk)=jw:=rfl
theorem GJ:wS Φ (.cnt)=ni:=rfl
theorem GK{e}:wT Φ (.tru e)=sZ (wE Φ e):=rfl
theorem GL{op}{a}{b}:wT Φ (.cmp op a b)=dz (wOp (opC op) (wE Φ a) (wE Φ b)):=rfl
theorem F9{op}{op'}{a}{b}{c}:wT Φ (.chain op op' a b c)=dz (cj (opC op) (opC op') (wE Φ a) (wE Φ b) (wE Φ c)):=rfl
theorem GM{ts}:wT Φ (.and ts)=wAndTs Φ ts:=rfl
theorem He{ts}:wT Φ (.or ts)=wOrTs Φ ts:=rfl
theorem GN{t}:wT Φ (.not t)=mR (wT Φ t):=rfl
theorem Df:wAndTs Φ (.nil)=λ_ _ _=>False:=rfl
theorem D3{e}:wAndTs Φ (.cons e .nil)=wT Φ e:=rfl
theorem D4{e}{f}{r}:wAndTs Φ (.cons e (.cons f r))=mU (wT Φ e) (wAndTs Φ (.cons f r)):=rfl
theorem Ef:wOrTs Φ (.nil)=λ_ _ _=>False:=rfl
theorem Dg{e}:wOrTs Φ (.cons e .nil)=wT Φ e:=rfl
theorem Dh{e}{f}{r}:wOrTs Φ (.cons e (.cons f r))=t6 (wT Φ e) (wOrTs Φ (.cons f r)):=rfl
theorem Eg:wAnds Φ (.nil)=λ_ _ _=>False:=rfl
theorem Di{e}:wAnds Φ (.cons e .nil)=wE Φ e:=rfl
theorem Dj{e}{f}{r}:wAnds Φ (.cons e (.cons f r))=mV (wE Φ e) (wAnds Φ (.cons f r)):=rfl
theorem Ew:wOrs Φ (.nil)=λ_ _ _=>False:=rfl
theorem Eh{e}:wOrs Φ (.cons e .nil)=wE Φ e:=rfl
theorem Ei{e}{f}{r}:wOrs Φ (.cons e (.cons f r))=t7 (wE Φ e) (wOrs Φ (.cons f r)):=rfl
theorem Fa{i}:bG (.name i)=be i:=rfl
theorem FL{gs}:bG (.tup gs)=xP (bGs gs):=rfl
theorem Fb:bGs (.nil)=eA:=rfl
theorem Ex{g}{r}:bGs (.cons g r)=bf (bG g) (bGs r):=rfl
theorem FM:opB (.add)=eh:=rfl
theorem FN:opB (.sub)=oz:=rfl
theorem FO:opB (.mul)=iL:=rfl
theorem Fc:opB (.fdiv)=jq:=rfl
theorem FP:opB (.mod)=oB:=rfl
theorem FQ:opB (.pow)=oC:=rfl
theorem GO:opC (.eq)=wEq:=rfl
theorem GP:opC (.ne)=wNe:=rfl
theorem GQ:opC (.lt)=wLt:=rfl
theorem GR:opC (.le)=wLe:=rfl
theorem GT:opC (.gt)=wGt:=rfl
theorem GU:opC (.ge)=wGe:=rfl
theorem GW:opC (.is)=wIs:=rfl
theorem FR:opC (.isn)=tE:=rfl
theorem FS:opC (.neE)=tN:=rfl
theorem FT:opC (.inS)=tM:=rfl
theorem FU:opC (.inD)=iT Up:=rfl
theorem Fd:opC (.ninD)=iT Uo:=rfl
theorem FV:opC (.inT)=pI:=rfl
theorem Fe:opC (.ninS)=nF:=rfl
theorem FW:opF (.len)=fg:=rfl
theorem Ff:opF (.lenK)=nE:=rfl
theorem FX:opF (.abs)=ke:=rfl
theorem Fg:opF (.max2)=jr:=rfl
theorem Fh:opF (.min2)=jt:=rfl
theorem FY:opF (.int)=kf:=rfl
theorem Fi:opF (.list)=mQ:=rfl
theorem FZ:opF (.sum)=oO:=rfl
theorem G0:opF (.all)=oV:=rfl
theorem Ey:opF (.sorts)=gK:=rfl
theorem Ej:opM (.append)=hW:=rfl
local macro_rules|`(tactic| ac_nf)=>do
 let f:=fun(n:Lean.Name)(s:String)=>(s.splitOn " ").toArray.map fun x=>(⟨(Lean.mkIdent (n++x.toName)).raw⟩:Lean.Term)
 let a:=f `_root_.L2.Mi "sP iJ wC wOp wUn bN aO wAr dz ou sR sZ mR mU t6 mV t7 mW wIf kh t9 mX wBM be eA bf xP tj mY mZ eR bC dQ i6 fW gE jw ni nj iN sIf gF iO kj jx tD cj nv nC nD nG nH ax Fn Fo G3 G4 GY GZ q9 G5 G6 G7 G8 Fp G9 Ga E9 Ea Ec H8 Gb Gc Fq Fs Gd Gf Gg Gh H9 Ha Gi Gj Gk Hb Gm Gn Go Gp Gq Gr Hc Gs Gu Gv Gw Hd Ft Gy Fu F5 Fv Fw Fy Fz FA Gz FB FC F6 F7 Et GA FE FF Eu Ev Ed Ee GB GC FG GD FH GE GF GG F8 FJ GH FK GI GJ GK GL F9 GM He GN Df D3 D4 Ef Dg Dh Eg Di Dj Ew Eh Ei Fa FL Fb Ex FM FN FO Fc FP FQ GO GP GQ GR GT GU GW FR FS FT FU Fd FV Fe FW Ff FX Fg Fh FY Fi FZ G0 Ey Ej"
 let b1:=a++f .anonymous "Qf MK RC RE KN Lz SM SN SO K7 LZ Kq Ln"
 let b2:=a++f .anonymous "KH if_false if_true Qf MK RC RE PH exists_eq_left' exists_eq_left exists_eq_right exists_and_left exists_and_right D.bl.injEq D.int.injEq D.ref.injEq D.tup.injEq KN Lz SM SN SO K7 LZ decide_eq_true_eq Te and_true true_and Kq Ln"
 `(tactic| ((try dsimp only[$[$b1:term],*]);(try simp only[$[$b2:term],*])))
local macro_rules|`(tactic| nofun)=>`(tactic| ((first|rw[j4]|(dsimp only;rw[j4]));ac_nf))
theorem eJ{t:Bool}{k:D}(h:M a=S (.dct t kvs))(ok:eQ t k=Uo)(e:dget kvs k=S d)(q:Q d M):wIx (.ref a) k M Q:=.inr (.inl ⟨t,kvs,d,h,ok,e,q⟩)
theorem j5{t:Bool}{k v:D}{Q:Mem->Prop}(h:M a=S (.dct t kvs))(ok:eQ t k=Uo)(j:kvs.length<D2)(q:Q (ag M a (.dct t (gz kvs k v)))):eU (.ref a) k v M Q:=⟨a,rfl,.inr ⟨t,kvs,h,ok,j,q⟩⟩
def Ge(M M':Mem):Prop:=∀a o,M a=S o->M' a=S o
theorem Ge.refl:Ge M M:=λ_ _ h=>h
theorem Ge.trans(h:Ge M M')(g:Ge M' M''):Ge M M'':=λ_ _ e=>g _ _ (h _ _ e)
theorem Ge.new{o:O}(h:M p=Z):Ge M (ag M p o):=λa o' e=>by rw[ai (λz=>by rw[z,h]at e;cases e)];exact e
def Box(b:Uq)(M:Mem):Prop:=∃x y z:Int,M b=S (.lst [.int x,.int y,.int z])
structure Bx(b:Uq)(M M':Mem):Prop where
 box:Box b M'
 keep:∀a o,a≠b->M a=S o->M' a=S o
theorem Bx.refl(h:Box b M):Bx b M M:=⟨h,λ_ _ _ e=>e⟩
theorem Bx.trans(h:Bx b M M')(g:Bx b M' M''):Bx b M M'':=⟨g.box,λa o n e=>g.keep a o n (h.keep a o n e)⟩
theorem Bx.ge(h:Bx b M M')(g:Ge M' M''):Bx b M M'':=⟨by obtain⟨x,y,z,e⟩:=h.box;exact⟨x,y,z,g _ _ e⟩,λa o n e=>g _ _ (h.keep a o n e)⟩
theorem Bx.put{x y z:Int}:Bx b M (ag M b (.lst [.int x,.int y,.int z])):=⟨⟨x,y,z,aa⟩,λa o n e=>by rw[ai n];exact e⟩
theorem Bx.of(h:Box b M)(g:Ge M M'):Bx b M M':=(Bx.refl h).ge g
theorem wo{b:BT}{tb:TCd}{chk:Mem->Prop}{N:NC}(I:List D->au->Mem->List D->Prop){acc:List D}(h0:I [] ρ M acc)(z:∀l ρ M acc,I l ρ M acc->chk M)(hs:∀l x r ρ M acc,xs=l++x::r->I l ρ M acc->∃ρ',b x ρ=S ρ'/\∀N':NC,(∀ρ2 M2 j,I (l++[x]) ρ2 M2 j->N' ρ2 M2 j)->tb ρ' M acc N')(F:∀ρ M acc,I xs ρ M acc->N ρ M acc):bZ b tb chk N xs ρ M acc:=by
 have g:∀(r l:List D) (ρ:au) (M:Mem) (acc:List D),xs=l++r->I l ρ M acc->bZ b tb chk N r ρ M acc:=by
  intro r
  induction r with
  |nil=>intro l ρ M acc e i;rw[Kw]at e;subst e;exact⟨z _ _ _ _ i,F _ _ _ i⟩
  |cons x r ih=>intro l ρ M acc e i;obtain⟨ρ',J,h⟩:=hs l x r ρ M acc e i;exact⟨z _ _ _ _ i,ρ',J,h _ λρ2 M2 j L=>ih (l++[x]) ρ2 M2 j (by rw[e];simp) L⟩
 exact g xs [] ρ M acc rfl h0
theorem qf{b:BT}{tb:TSd}{chk:Mem->Prop}(I:List D->au->Mem->Prop)(h0:I [] ρ M)(j:∀l ρ M,I l ρ M->chk M)(hs:∀l x r ρ M,xs=l++x::r->I l ρ M->∃ρ',b x ρ=S ρ'/\∀F:au->Mem->Prop,(∀ρ2 M2,I (l++[x]) ρ2 M2->F ρ2 M2)->tb {E with nx:=F,ct:=F,bk:=E.nx} ρ' M)(z:∀ρ M,I xs ρ M->E.nx ρ M):bw b tb chk E xs ρ M:=by
 have g:∀(r l:List D) (ρ:au) (M:Mem),xs=l++r->I l ρ M->bw b tb chk E r ρ M:=by
  intro r
  induction r with
  |nil=>intro l ρ M e i;rw[Kw]at e;subst e;exact⟨j _ _ _ i,z _ _ i⟩
  |cons x r ih=>intro l ρ M e i;obtain⟨ρ',J,h⟩:=hs l x r ρ M e i;exact⟨j _ _ _ i,ρ',J,h _ λρ2 M2 L=>ih (l++[x]) ρ2 M2 (by rw[e];simp) L⟩
 exact g xs [] ρ M rfl h0
section
variable{T:List FD}
noncomputable def jM(s:Stmt):FD:=⟨"_law_cell_at",s,["_law_script","_law_k"],2,
 (.cons (.ite (.cmp .lt (.var 1) (.blt .len (.cons (.var 0) .nil))) (.cons (.ret (.ix (.var 0) (.var 1)))
 .nil) .nil)
 (.cons (.ret (.int 0))
 .nil))⟩
theorem gi{α:Type}{xs:List α}(h0:0<=i)(h1:i<xs.length):∃x,atI xs i=S x/\xs[i.toNat]?=S x:=by
 have:i.toNat<xs.length:=∅
 refine⟨xs[i.toNat],?_,JF this⟩;unfold atI ixN;simp[h0,h1,JF this]
theorem Be(hf:T[f]?=S (jM s))(hn:1<=n){k:Int}(h0:0<=k)(q:∀i,Q (.int i) M):phi T n f [.con (ns.map D.int),.int k] M Q:=by
 refine aB hn hf rfl (ρ:=[S _,S _]) rfl ?_;unfold jM;nofun
 split
 ·next h=>
  nofun;obtain⟨x,e,j⟩:=gi (xs:=ns.map D.int) h0 h;rw[KA]at j
  cases e3:ns[k.toNat]? with
  |none=>rw[e3]at j;cases j
  |some y=>rw[e3]at j;cases j;exact⟨_,e,q y⟩
 ·nofun;exact q 0
theorem tY(h:-(2^64)<i/\i<2^64):MulOk i j:=.inl h
theorem kE(h:-(2^64)<j/\j<2^64):MulOk i j:=.inr (.inl h)
noncomputable def kF(s:Stmt):FD:=⟨"_law_mixed",s,["_law_number_here","_law_k","_law_once","_law_twice"],2,
 (.cons (.asg (.name 2) (.bin .mod (.bin .mul (.bin .add (.bin .add (.bin .mod (.var 0) (.int 1000000007)) (.bin .mul (.int 7) (.var 1))) (.int 1)) (.int 48271)) (.int 2147483647)))
 (.cons (.asg (.name 3) (.bin .mod (.bin .mul (.var 2) (.bin .add (.bin .add (.bin .mod (.var 2) (.int 1009)) (.var 1)) (.int 3))) (.int 998244353)))
 (.cons (.ret (.bin .fdiv (.bin .mod (.bin .add (.bin .mul (.var 3) (.int 39373)) (.var 2)) (.int 2147483629)) (.int 64)))
 .nil)))⟩
theorem yU(hf:T[f]?=S (kF s))(hn:1<=n){x k:Int}(q:∀i,Q (.int i) M):phi T n f [.int x,.int k] M Q:=by
 refine aB hn hf rfl (ρ:=[S _,S _,Z,Z]) rfl ?_;unfold kF;nofun;refine⟨by decide,tY (by decide),kE (by decide),by decide,?_⟩
 nofun;refine⟨by decide,tY ?_,by decide,?_⟩
 ·have h1:=OV ((x%1000000007+7*k+1)*48271) (b:=2147483647) (by decide)
  have h2:=O1 ((x%1000000007+7*k+1)*48271) (b:=2147483647) (by decide)
  lia
 nofun;refine⟨kE (by decide),by decide,by decide,by decide,?_⟩
 exact q _
noncomputable def tZ(s:Stmt)(fc fm:Nat):FD:=⟨"_law_box",s,["_law_script","_law_k","_law_cell"],2,
 (.cons (.asg (.name 2) (.call fc (.cons (.var 0) (.cons (.var 1) .nil))))
 (.cons (.ret (.lst (.cons (.bin .mul (.blt .abs (.cons (.var 2) .nil)) (.blt .int (.cons (.cmp .ge (.blt .abs (.cons (.var 2) .nil)) (.bin .pow (.int 10) (.int 18))) .nil))) (.cons (.call fm (.cons (.var 2) (.cons (.bin .add (.int 900) (.var 1)) .nil))) (.cons (.int 0) .nil)))))
 .nil))⟩
theorem D5{fc fm:Nat}{sc:Stmt}(hf:T[f]?=S (tZ s fc fm))(z:T[fc]?=S (jM sc))(F:∀{x k:Int} {M:Mem} {Q:QD},(∀i,Q (.int i) M)->phi T (n-1) fm [.int x,.int k] M Q)(hn:2<=n){k:Int}(h0:0<=k)(q:∀p x y,M p=Z->Q (.ref p) (ag M p (.lst [.int x,.int y,.int 0]))):phi T n f [.con (ns.map D.int),.int k] M Q:=by
 refine aB ∅ hf rfl (ρ:=[S _,S _,Z]) rfl ?_
 unfold tZ;nofun;refine Be z ∅ h0 λi=>?_
 nofun;refine⟨by decide,by decide,by decide,kE ?_,?_⟩
 ·split<;>lia
 refine F λj=>?_;exact⟨by rw[D0];lia,λp J=>q p _ _ J⟩
noncomputable def qg(s:Stmt)(fm:Nat):FD:=⟨"_law_take",s,["_law_box_here","_law_many","_law_found","_law_reach"],2,
 (.cons (.ite (.cmp .gt (.ix (.var 0) (.int 0)) (.int 0)) (.cons (.asg (.name 2) (.bin .mod (.ix (.var 0) (.int 0)) (.var 1)))
 (.cons (.put (.var 0) (.int 0) (.bin .fdiv (.ix (.var 0) (.int 0)) (.var 1)))
 (.cons (.ret (.var 2))
 .nil))) .nil)
 (.cons (.asg (.tup (.cons (.name 2) (.cons (.name 3) .nil))) (.tup (.cons (.int 0) (.cons (.int 1) .nil))))
 (.cons (.while (.cmp .lt (.var 3) (.var 1)) (.cons (.put (.var 0) (.int 2) (.bin .add (.ix (.var 0) (.int 2)) (.int 1)))
 (.cons (.asg (.name 2) (.bin .add (.bin .mul (.var 2) (.int 33554432)) (.call fm (.cons (.ix (.var 0) (.int 1)) (.cons (.ix (.var 0) (.int 2)) .nil)))))
 (.cons (.asg (.name 3) (.bin .mul (.var 3) (.int 33554432)))
 .nil))))
 (.cons (.ret (.bin .mod (.var 2) (.var 1)))
 .nil))))⟩
def zI(T:List FD)(n fm:Nat):Prop:=∀{x k:Int} {M:Mem} {Q:QD},(∀i,Q (.int i) M)->phi T n fm [.int x,.int k] M Q
theorem Bf{fm:Nat}(hf:T[f]?=S (qg s fm))(O:zI T (n-1) fm)(hn:2<=n){m:Int}(U:Box b M)(h1:0<m)(h2:m<=2^140)(q:∀r M',0<=r->r<m->Bx b M M'->Q (.int r) M'):phi T n f [.ref b,.int m] M Q:=by
 refine aB ∅ hf rfl (ρ:=[S _,S _,Z,Z]) rfl ?_
 unfold qg;obtain⟨x,y,z,L⟩:=U;nofun;refine aw L (d:=.int x) rfl ?_;simp only[Ec];ac_nf
 split
 ·next hx=>
  nofun;refine aw L (d:=.int x) rfl ?_;ac_nf;refine⟨h1,?_⟩;nofun;refine aw L (d:=.int x) rfl ?_;ac_nf;refine⟨h1,∅,?_⟩
  refine q8 L (j:=0) rfl ?_;nofun;exact q _ _ (OV _ ∅) (O1 _ h1) Bx.put
 ·next hx=>
  nofun;refine⟨by rw[D0];lia,?_⟩
  nofun;refine⟨7,?_⟩;have go:∀(f:Nat) (found reach z:Int) (M':Mem),m<=reach*33554432^f->M' b=S (.lst [.int x,.int y,.int z])->Bx b M M'->
   bD (dz (wOp wLt (iJ 3) (iJ 1))) (wSs (phi T (n-1)) (MSs.cons (MS.put (ME.var 0) (ME.int 2) (ME.bin BOp.add ((ME.var 0).ix (ME.int 2)) (ME.int 1)))
    (MSs.cons (MS.asg (MG.name 2) (ME.bin BOp.add (ME.bin BOp.mul (ME.var 2) (ME.int 33554432)) (ME.call fm (MEs.cons ((ME.var 0).ix (ME.int 1)) (MEs.cons ((ME.var 0).ix (ME.int 2)) MEs.nil)))))
      (MSs.cons (MS.asg (MG.name 3) (ME.bin BOp.mul (ME.var 3) (ME.int 33554432))) MSs.nil))))
    {nx:=wSs (phi T (n-1)) (MSs.cons (MS.ret (ME.bin BOp.mod (ME.var 2) (ME.var 1))) MSs.nil) {nx:=λx M'=>Q D.non M',rt:=Q},rt:=Q} (f+1) [S (.ref b),S (.int m),S (.int found),S (.int reach)] M':=by
   intro f
   induction f with
   |zero=>
    intro found reach z M' hm J F;simp only[bD];ac_nf;rw[if_neg ∅]
    nofun;exact⟨h1,q _ _ (OV _ ∅) (O1 _ h1) F⟩
   |succ f ih=>
    intro found reach z M' hm J F;rw[bD];ac_nf
    split
    ·next hr=>
     nofun;refine aw J (d:=.int z) rfl ?_;ac_nf;refine q8 J (j:=2) rfl ?_;nofun;refine⟨kE (by decide),?_⟩
     refine aw aa (d:=.int y) rfl ?_;refine aw aa (d:=.int (z+1)) rfl ?_;refine O λi=>?_;ac_nf;nofun;refine⟨kE (by decide),?_⟩
     exact ih _ _ (z+1) _ (by rw[Int.mul_assoc,<-Int.pow_succ'];exact hm) aa (F.trans Bx.put)
    ·nofun;exact⟨h1,q _ _ (OV _ ∅) (O1 _ h1) F⟩
  exact go 6 0 1 z M ∅ L (Bx.refl ⟨x,y,z,L⟩)
def cL(T:List FD)(n f:Nat):Prop:=∀{b:Uq} {m:Int} {M:Mem} {Q:QD},Box b M->0<m->m<=2^140->(∀r M',0<=r->r<m->Bx b M M'->Q (.int r) M')->phi T n f [.ref b,.int m] M Q
noncomputable def j6(s:Stmt)(ft:Nat):FD:=⟨"_law_number",s,["_law_box_here","_law_way"],1,
 (.cons (.asg (.name 1) (.call ft (.cons (.var 0) (.cons (.int 9) .nil))))
 (.cons (.ite (.cmp .eq (.var 1) (.int 0)) (.cons (.ret (.bin .sub (.call ft (.cons (.var 0) (.cons (.int 2001) .nil))) (.int 1000)))
 .nil) .nil)
 (.cons (.ret (.ix (.lst (.cons (.int 0) (.cons (.int 0) (.cons (.int 0) (.cons (.int 1) (.cons (.int 1) (.cons (.int 1) (.cons (.neg (.int 1)) (.cons (.neg (.int 1)) (.cons (.int 2) .nil)))))))))) (.var 1)))
 .nil)))⟩
theorem wq(hf:T[f]?=S (j6 s ft))(j:cL T (n-1) ft)(hn:1<=n)(F:Box b M)(q:∀r M',-1000<=r->r<=1000->Bx b M M'->Q (.int r) M'):phi T n f [.ref b] M Q:=by
 refine aB ∅ hf rfl (ρ:=[S _,Z]) rfl ?_
 unfold j6;nofun;refine j F (by decide) (by decide) λr M1 h0 h1 x1=>?_
 nofun
 split
 ·nofun;refine j x1.box (by decide) (by decide) λU M2 h0 h1 J=>?_
  ac_nf;exact q _ _ ∅ ∅ (x1.trans J)
 ·next hr=>
  nofun;refine⟨by rw[D0];lia,λp L=>?_⟩
  have hr:r=1∨r=2∨r=3∨r=4∨r=5∨r=6∨r=7∨r=8:=by
   have:r≠0:=λz=>hr (by rw[z];rfl)
   lia
  have O:=x1.ge (Ge.new (o:=.lst [.int 0,.int 0,.int 0,.int 1,.int 1,.int 1,.int (-1),.int (-1),.int 2]) L)
  rcases hr with rfl|rfl|rfl|rfl|rfl|rfl|rfl|rfl<;>exact aw aa rfl (q _ _ (by decide) (by decide) O)
end
section
variable{T:List FD}
def qh(T:List FD)(n f:Nat):Prop:=∀{b:Uq} {M:Mem} {Q:QD},Box b M->(∀r M',-1000<=r->r<=1000->Bx b M M'->Q (.int r) M')->phi T n f [.ref b] M Q
theorem ce{lo:Int}:(ci lo n).length=n:=by simp[ci]
theorem aU{α:Type}{xs l r:List α}{x:α}(e:xs=l++x::r):l.length<xs.length:=by rw[e];simp
theorem mD{α:Type}{xs l r:List α}{x:α}(e:xs=l++x::r):xs[l.length]?=S x:=by rw[e];simp
theorem rW{k:Nat}{M:Mem}:∀ns:List Int,aA (rb k M) (ns.map D.int)=S (ns.map PyData.int)
 |[]=>rfl
 |x::r=>by
  have e:rb k M (.int x)=S (.int x):=by cases k<;>rfl
  simp[aA,e,rW r]
theorem gP{k:Nat}(h:M a=S (.lst ds)):rb (k+1) M (.ref a)=(aA (rb k M) ds).map SW:=by simp only[rb,h]
theorem cw{s:MS}{r:MSs}(I:au->Mem->Prop)(h1:∀R:au->Mem->Prop,(∀ρ M,I ρ M->R ρ M)->wS Φ s {E with nx:=R} ρ M)(h2:∀ρ M,I ρ M->wSs Φ r E ρ M):wSs Φ (.cons s r) E ρ M:=by rw[j4];exact h1 _ h2
theorem Bx.upd{o:O}(h:Bx b M M')(F:M q=Z)(j:q≠b):Bx b M (ag M' q o):=
 ⟨by obtain⟨x,y,z,e⟩:=h.box;exact⟨x,y,z,by rw[ai j.symm];exact e⟩,fun u o' nu eu=>by rw[ai (λz=>by rw[z,F]at eu;cases eu)];exact h.keep u o' nu eu⟩
theorem Bx.none(h:Bx b M M')(z:M' q=Z)(j:q≠b):M q=Z:=by
 cases e:M q with
 |none=>rfl
 |some o=>rw[h.keep q o j e]at z;cases z
end
section
theorem ba{α:Type}{f:α->D}{b:BT}{tb:TCd}{chk:Mem->Prop}{N:NC}(I:List α->au->Mem->List D->Prop){ys:List α}(hx:xs=ys.map f){acc:List D}(h0:I [] ρ M acc)(z:∀l ρ M acc,I l ρ M acc->chk M)(hs:∀l x r ρ M acc,ys=l++x::r->I l ρ M acc->∃ρ',b (f x) ρ=S ρ'/\∀N':NC,(∀ρ2 M2 j,I (l++[x]) ρ2 M2 j->N' ρ2 M2 j)->tb ρ' M acc N')(F:∀ρ M acc,I ys ρ M acc->N ρ M acc):bZ b tb chk N xs ρ M acc:=by
 subst hx;have g:∀(r l:List α) (ρ:au) (M:Mem) (acc:List D),ys=l++r->I l ρ M acc->bZ b tb chk N (r.map f) ρ M acc:=by
  intro r
  induction r with
  |nil=>intro l ρ M acc e i;rw[Kw]at e;subst e;exact⟨z _ _ _ _ i,F _ _ _ i⟩
  |cons x r ih=>intro l ρ M acc e i;obtain⟨ρ',J,h⟩:=hs l x r ρ M acc e i;exact⟨z _ _ _ _ i,ρ',J,h _ λρ2 M2 j L=>ih (l++[x]) ρ2 M2 j (by rw[e];simp) L⟩
 exact g ys [] ρ M acc rfl h0
theorem eK{α:Type}{f:α->D}{b:BT}{tb:TSd}{chk:Mem->Prop}(I:List α->au->Mem->Prop){ys:List α}(hx:xs=ys.map f)(h0:I [] ρ M)(j:∀l ρ M,I l ρ M->chk M)(hs:∀l x r ρ M,ys=l++x::r->I l ρ M->∃ρ',b (f x) ρ=S ρ'/\∀F:au->Mem->Prop,(∀ρ2 M2,I (l++[x]) ρ2 M2->F ρ2 M2)->tb {E with nx:=F,ct:=F,bk:=E.nx} ρ' M)(z:∀ρ M,I ys ρ M->E.nx ρ M):bw b tb chk E xs ρ M:=by
 subst hx;have g:∀(r l:List α) (ρ:au) (M:Mem),ys=l++r->I l ρ M->bw b tb chk E (r.map f) ρ M:=by
  intro r
  induction r with
  |nil=>intro l ρ M e i;rw[Kw]at e;subst e;exact⟨j _ _ _ i,z _ _ i⟩
  |cons x r ih=>intro l ρ M e i;obtain⟨ρ',J,h⟩:=hs l x r ρ M e i;exact⟨j _ _ _ i,ρ',J,h _ λρ2 M2 L=>ih (l++[x]) ρ2 M2 (by rw[e];simp) L⟩
 exact g ys [] ρ M rfl h0
theorem qi{x:D}(h:bv M x=S ds):gB M x=S ds.length:=by
 cases x with
 |ref a=>
  simp only[bv]at h
  split at h
  ·next e=>cases h;simp only[gB,e]
  ·cases h
 |tup es=>cases h;rfl
 |con es=>cases h;rfl
 |_=>cases h
theorem rX{x:D}(h:bv M x=S (ns.map .int))(q:Q (.int ns.sum) M):oO [x] M Q:=⟨_,_,rfl,h,q⟩
theorem cM:ci 0 n=(L4 n).map λi=>D.int (i:Nat):=by simp[ci]
end
section
variable{T:List FD}
def Big(ns:List Int):Prop:=∀x∈ns,-1000000000000<=x/\x<=1000000000000
noncomputable def u5(s:Stmt)(ft:Nat):FD:=⟨"_law_row",s,["_law_box_here","_law_length","_law_most"],2,
 (.cons (.asg (.name 2) (.ix (.lst (.cons (.int 9) (.cons (.int 9) (.cons (.int 9) (.cons (.bin .pow (.int 10) (.int 12)) .nil))))) (.call ft (.cons (.var 0) (.cons (.int 4) .nil)))))
 (.cons (.ret (.comp [Z,(S 0),(S 2)] ["_law_k","_law_box_here","_law_most"] (.last (.rng1 (.var 1)) (.name 0) .nil (.bin .sub (.call ft (.cons (.var 1) (.cons (.bin .add (.bin .mul (.int 2) (.var 2)) (.int 1)) .nil))) (.var 2)))))
 .nil))⟩
def zJ(T:List FD)(n f:Nat):Prop:=∀{b:Uq} {L:Nat} {M:Mem} {Q:QD},L<=1000->Box b M->
 (∀(ns:List Int) p M',ns.length=L->Big ns->Bx b M M'->M p=Z->M' p=S (.lst (ns.map .int))->Q (.ref p) M')->phi T n f [.ref b,.int L] M Q
theorem D6(hf:T[f]?=S (u5 s ft))(F:cL T (n-1) ft)(hn:1<=n):zJ T n f:=by
 intro b L M Q hL hb q;refine aB ∅ hf rfl (ρ:=[S _,S _,Z]) rfl ?_
 unfold u5;nofun;refine⟨by decide,by decide,by decide,by rw[D0];lia,λp hp=>?_⟩
 have g0:=Ge.new (o:=.lst [.int 9,.int 9,.int 9,.int (10^(12:Int).toNat)]) hp;have U:p≠b:=λz=>by obtain⟨x,y,w,e⟩:=hb;rw[<-z,hp]at e;cases e
 have x0:=Bx.of hb g0;refine F x0.box (by decide) (by decide) λw M1 w0 w1 x1=>?_
 have Y:=x1.keep p _ U aa;have hw:∃m:Int,0<=m/\m<=1000000000000/\atI [D.int 9,.int 9,.int 9,.int (10^(12:Int).toNat)] w=S (.int m):=by
  have:w=0∨w=1∨w=2∨w=3:=∅
  rcases this with rfl|rfl|rfl|rfl
  ·exact⟨9,by decide,by decide,rfl⟩
  ·exact⟨9,by decide,by decide,rfl⟩
  ·exact⟨9,by decide,by decide,rfl⟩
  ·exact⟨_,by decide,by decide,rfl⟩
 obtain⟨m,m0,m1,em⟩:=hw;refine aw Y em ?_;have Um:=x0.trans x1;nofun;refine⟨∅,∅,?_⟩
 refine wo (I:=λl ρ M' acc=>∃(ns:List Int) (x:Option D),acc=ns.map .int/\ns.length=l.length/\Big ns/\Bx b M M'/\ρ=[x,S (.ref b),S (.int m)]) ⟨[],Z,rfl,rfl,λ_ h=>by simp at h,Um,rfl⟩ (λ_ _ _ _ _=>trivial) ?_ ?_
 ·rintro l x r ρ M1 acc e ⟨ns,o,rfl,O,hs,x1,rfl⟩;refine⟨_,rfl,λN' hN=>?_⟩;ac_nf;refine⟨tY (by decide),?_⟩
  refine F x1.box ∅ ∅ λv M2 h1 h2 x2=>?_
  ac_nf;have:=aU e;rw[ce]at this;refine⟨by rw[B2,O,D0];lia,hN _ _ _ ⟨ns++[v-m],_,by simp,by simp[O],?_,x1.trans x2,rfl⟩⟩
  intro y hy
  rcases K0.mp hy with h|h
  ·exact hs y h
  ·simp at h;subst h;lia
 ·rintro ρ M1 acc ⟨ns,o,rfl,O,hs,x1,rfl⟩ p2 j;rw[ce]at O;have J:p2≠b:=λz=>by obtain⟨x,y,w,e⟩:=x1.box;rw[<-z,j]at e;cases e
  exact q ns p2 _ ∅ hs (x1.ge (Ge.new j)) (x1.none j J) aa
theorem mF{B:Int}:∀{l:List Int},(∀x∈l,-B<=x/\x<=B)->-(l.length*B)<=l.sum/\l.sum<=l.length*B
 |[],_=>by simp
 |x::r,h=>by
  obtain⟨h1,h2⟩:=h x (by simp)
  obtain⟨z,F⟩:=mF (l:=r) λy j=>h y (by simp[j])
  rw[List.sum_cons,Kq,Int.natCast_add,Int.add_mul];lia
end
section
inductive W where|l|r|t|p|a|e|k
def W.num:W->Nat
 |.l=>0|.r=>1|.t=>2|.p=>3|.a=>4|.e=>5|.k=>6
instance:DecidableEq W:=λx y=>decidable_of_iff (x.num=y.num) ⟨λh=>by cases x<;>cases y<;>first|rfl|(simp[W.num]at h),λh=>by rw[h]⟩
noncomputable def ws:W->Str
 |.l=>i3 "left"
 |.r=>i3 "right"
 |.t=>i3 "times"
 |.p=>i3 "put"
 |.a=>i3 "add"
 |.e=>i3 "empty"
 |.k=>i3 "tell"
theorem aK:ws .l=i3 "left":=rfl
theorem aM:ws .r=i3 "right":=rfl
theorem aT:ws .t=i3 "times":=rfl
theorem aY:ws .p=i3 "put":=rfl
theorem aZ:ws .a=i3 "add":=rfl
theorem b3:ws .e=i3 "empty":=rfl
theorem aW:ws .k=i3 "tell":=rfl
theorem jN(a:W):S8 (ws a)=Uo:=by cases a<;>decide +kernel
theorem qj:∀a b:W,(ws a==ws b)=decide (a=b):=by
 intro a b
 cases a<;>cases b<;>decide +kernel
theorem D7{a:W}:rb n M (.str (ws a))=S (.str (ws a)):=by cases n<;>simp only[rb,jN,if_true]
theorem aD{a b:W}:wEq (.str (ws a)) (.str (ws b)) M Q=Q (.bl (decide (a=b))) M:=by simp[wEq,D7,Kk,qj]
theorem Ek{a b:W}:wNe (.str (ws a)) (.str (ws b)) M Q=Q (.bl (!decide (a=b))) M:=by simp[wNe,D7,Kk,qj]
theorem eL{a:W}(q:Q (.bl (decide (a=.l∨a=.r))) M):pI (.str (ws a)) (.tup [.str (ws .l),.str (ws .r)]) M Q:=by
 refine⟨[ws .l,ws .r],rfl,?_⟩;have e:decide (ws a∈[ws .l,ws .r])=decide (a=.l∨a=.r):=by cases a<;>decide +kernel
 rw[e];exact q
end
section
section
variable{α:Type}
noncomputable def ig(h:List (Int×α))(k:Int):Option α:=(h.find? λp=>decide (p.1=k)).map (·.2)
noncomputable def ip(h:List (Int×α))(k:Int)(v:α):List (Int×α):=if(h.any λp=>decide (p.1=k))=Uo then h.map (λp=>if p.1=k then(p.1,v)else p)else h++[(k,v)]
noncomputable def idr(h:List (Int×α))(k:Int):List (Int×α):=h.filter λp=>decide (p.1≠k)
noncomputable def hD(g:α->D)(p:Int×α):D×D:=(.int p.1,g p.2)
theorem jO{g:α->D}{p:Int×α}{k:Int}:decide ((hD g p).1=.int k)=decide (p.1=k):=by simp[hD]
theorem dX{g:α->D}{h:List (Int×α)}{k:Int}:dget (h.map (hD g)) (.int k)=(ig h k).map g:=by
 unfold dget ig;rw[List.find?_map];have e:((λp:D×D=>decide (p.1=.int k))∘hD g)=λp:Int×α=>decide (p.1=k):=funext λp=>jO;rw[e]
 cases h.find? λp=>decide (p.1=k)<;>rfl
theorem kG{g:α->D}{h:List (Int×α)}{k:Int}{v:α}:gz (h.map (hD g)) (.int k) (g v)=(ip h k v).map (hD g):=by
 unfold gz ip;have e:((h.map (hD g)).any λp=>decide (p.1=.int k))=h.any λp=>decide (p.1=k):=by rw[List.any_map];congr 1;exact funext λp=>jO
 rw[e]
 split
 ·rw[Mw,Mw];refine Rc λp j=>?_;show(if(hD g p).1=.int k then((hD g p).1,g v)else hD g p)=hD g (if p.1=k then(p.1,v)else p)
  have:=jO (g:=g) (p:=p) (k:=k)
  by_cases z:p.1=k
  ·rw[if_pos z,if_pos (by simpa[z]using this)];rfl
  ·rw[if_neg z,if_neg (by simpa[z]using this)]
 ·rw[JX];rfl
theorem gj{g:α->D}{h:List (Int×α)}{k:Int}:eP (h.map (hD g)) (.int k)=(idr h k).map (hD g):=by unfold eP idr;rw[OW];congr 1;refine List.filter_congr λp j=>?_;have:=jO (g:=g) (p:=p) (k:=k);simpa using this
noncomputable def kp(ks:List Int)(k:Int):List Int:=if k∈ks then ks else ks++[k]
noncomputable def kd(ks:List Int)(k:Int):List Int:=ks.filter λx=>decide (x≠k)
theorem yV{h:List (Int×α)}{k:Int}:(h.any λp=>decide (p.1=k))=decide (k∈h.map (·.1)):=by
 induction h with
 |nil=>rfl
 |cons p h ih=>
  rw[LJ,ih]
  by_cases z:p.1=k
  ·simp[z]
  ·simp[z,Ne.symm z]
theorem kH{h:List (Int×α)}{k:Int}{v:α}:(ip h k v).map (·.1)=kp (h.map (·.1)) k:=by
 unfold ip kp;rw[yV]
 by_cases z:k∈h.map (·.1)
 ·rw[if_pos (by simpa using z),if_pos z,Mw]
  refine Rc λp j=>?_;show(if p.1=k then(p.1,v)else p).1=p.1
  split<;>rfl
 ·rw[if_neg (by simpa using z),if_neg z,JX];rfl
theorem qk{h:List (Int×α)}{k:Int}:(idr h k).map (·.1)=kd (h.map (·.1)) k:=by unfold idr kd;rw[OW];rfl
theorem fP{h:List (Int×α)}{k:Int}(hk:k∈h.map (·.1)):∃v,ig h k=S v/\(k,v)∈h:=by
 induction h with
 |nil=>simp at hk
 |cons p h ih=>
  by_cases z:p.1=k
  ·exact⟨p.2,by simp[ig,z],by subst z;exact Ks⟩
  ·obtain⟨v,e,m⟩:=ih (by simpa[z,Ne.symm z]using hk)
   exact⟨v,by rw[<-e];simp[ig,z],K5 _ m⟩
theorem Bg{h:List (Int×α)}{k:Int}(hk:k∉h.map (·.1)):ig h k=Z:=by
 induction h with
 |nil=>rfl
 |cons p h ih=>simp only[K7,JS,not_or]at hk;rw[<-ih hk.2];simp[ig,Ne.symm hk.1]
theorem gQ{h:List (Int×α)}{k:Int}:(ig h k).isSome=decide (k∈h.map (·.1)):=by
 by_cases z:k∈h.map (·.1)
 ·obtain⟨v,e,_⟩:=fP z;rw[e,decide_eq_true z];rfl
 ·rw[Bg z,decide_eq_false z];rfl
theorem eM{h:List (Int×α)}{k:Int}{v:α}{p:Int×α}(m:p∈ip h k v):p=(k,v)∨p∈h:=by
 unfold ip at m
 split at m
 ·obtain⟨q,j,e⟩:=KD.mp m
  split at e
  ·next z=>exact .inl (by rw[<-e,z])
  ·exact .inr (by rw[<-e];exact j)
 ·rcases K0.mp m with z|z
  ·exact .inr z
  ·exact .inl (by simpa using z)
theorem ir{h:List (Int×α)}{k:Int}{p:Int×α}(m:p∈idr h k):p∈h:=(OM.mp m).1
theorem jP{h:List (Int×α)}{k:Int}{v:α}:(ip h k v).length<=h.length+1:=by
 unfold ip
 split
 ·simp
 ·simp
theorem kJ{h:List (Int×α)}{k:Int}:(idr h k).length<=h.length:=Nf ..
end
inductive Sp where
 |lin (l:Bool) (r:Int) (ps:List (Int×Int))
 |tim (r a b:Int)
 |put (r c b:Int)
 |add (a c b:Int)
 |emp (a:Int)
 |tel (k b:Int)
noncomputable def nk(ks:List Int):Sp->List Int
 |.lin _ r _=>kp ks r|.tim r _ _=>kp ks r|.put r _ _=>kp ks r|.add a _ _=>kp ks a|.emp a=>kd ks a|.tel _ b=>kd ks b
noncomputable def nt(td:List Int):Sp->List Int
 |.tel k _=>td++[k]
 |_=>td
def bW(c:Int):Prop:=-(10^30)<=c/\c<=10^30
noncomputable def gk(L0 L1 L2:Nat)(ks td:List Int):Sp->Prop
 |.lin l _ ps=>ps.length<=20/\∀p∈ps,bW p.1/\0<=p.2/\p.2<(if l then L0 else L1:Nat)
 |.tim _ a b=>a∈ks/\b∈ks
 |.put _ c b=>bW c/\b∈ks
 |.add a c b=>a∈ks/\bW c/\b∈ks
 |.emp a=>a∈ks
 |.tel k b=>(0<=k/\k<L2/\k∉td)/\b∈ks
inductive j7(L0 L1 L2:Nat):List Sp->List Int->List Int->Prop
 |nil:j7 L0 L1 L2 [] [] []
 |snoc {ss ks td s}:j7 L0 L1 L2 ss ks td->gk L0 L1 L2 ks td s->j7 L0 L1 L2 (ss++[s]) (nk ks s) (nt td s)
noncomputable def cf(row:List Int)(i:Int):Int:=row.getD i.toNat 0
noncomputable def nM(ps:List (Int×Int))(row:List Int):Int:=(ps.map λp=>p.1*cf row p.2).sum
noncomputable def gv(h:List (Int×Int))(k:Int):Int:=(ig h k).getD 0
noncomputable def ex1(one other:List Int)(h:List (Int×Int)):Sp->List (Int×Int)
 |.lin l r ps=>ip h r (nM ps (if l then one else other))
 |.tim r a b=>ip h r (gv h a*gv h b)
 |.put r c b=>ip h r (c*gv h b)
 |.add a c b=>ip h a (gv h a+c*gv h b)
 |.emp a=>idr h a
 |.tel _ b=>idr h b
noncomputable def ex2(h t:List (Int×Int)):Sp->List (Int×Int)
 |.tel k b=>ip t k (gv h b)
 |_=>t
structure RsP where
 h:List (Int×Int)
 t:List (Int×Int)
 m:Int
noncomputable def exs(one other:List Int)(s:RsP)(x:Sp):RsP:=⟨ex1 one other s.h x,ex2 s.h s.t x,if((ex1 one other s.h x).length:Int) > s.m then(ex1 one other s.h x).length else s.m⟩
noncomputable def ex(one other:List Int)(l:List Sp):RsP:=l.foldl (exs one other) ⟨[],[],0⟩
theorem cy{one:List Int}{l:List Sp}{x:Sp}:ex one other (l++[x])=exs one other (ex one other l) x:=by unfold ex;rw[List.foldl_append];rfl
noncomputable def aV:Sp->Bool
 |.tim _ _ _=>Uo
 |_=>Up
noncomputable def tc(l:List Sp):Nat:=(l.filter aV).length
theorem kK{l:List Sp}{x:Sp}:tc (l++[x])=tc l+if aV x then 1 else 0:=by
 unfold tc;rw[LH,JG]
 cases h:aV x<;>simp[h]
noncomputable def Eb(n t:Nat):Nat:=102*(n+2)*2^t
theorem Fj{n t:Nat}:Eb n t+102<=Eb (n+1) t:=by
 unfold Eb;have:1<=2^t:=RF
 calc 102*(n+2)*2^t+102<=102*(n+2)*2^t+102*2^t:=by lia
  _=102*(n+1+2)*2^t:=by rw[<-Nat.add_mul,show 102*(n+1+2)=102*(n+2)+102 by lia]
theorem Fk{t:Nat}:Eb n t+Eb n t=Eb n (t+1):=by unfold Eb;rw[Nat.pow_succ];lia
theorem D8{t:Nat}:204<=Eb n t:=by unfold Eb;have:1<=2^t:=RF;have h2:102*(n+2)*1<=102*(n+2)*2^t:=Nat.mul_le_mul_left _ this;lia
theorem iu{m t u:Nat}(h1:n<=m)(h2:t<=u):Eb n t<=Eb m u:=by unfold Eb;exact Nat.mul_le_mul ∅ (Nat.pow_le_pow_right (by decide) h2)
noncomputable abbrev fj:=OY
theorem iw{c:Int}(h:bW c):fj c<=100:=by obtain⟨h1,h2⟩:=h;exact Qg ∅
theorem yW{ps:List (Int×Int)}(U:ps.length<=20)(J:∀p∈ps,bW p.1)(L:Big row):fj (nM ps row)<=204:=by
 have hr:∀i,-1000000000000<=cf row i/\cf row i<=1000000000000:=λi=>by
  unfold cf;rw[Lb]
  cases e:row[i.toNat]? with
  |none=>exact⟨by decide,by decide⟩
  |some v=>exact L v (Kg e)
 have h1:=mF (B:=10^42) (l:=ps.map λp=>p.1*cf row p.2) λx hx=>by
  obtain⟨p,j,rfl⟩:=KD.mp hx;obtain⟨Y,c2⟩:=J p j;obtain⟨r1,r2⟩:=hr p.2;have e1:(p.1*cf row p.2).natAbs<=10^30*1000000000000:=by rw[Int.natAbs_mul];exact Nat.mul_le_mul ∅ ∅
  lia
 rw[B2]at h1;refine Qg ?_;unfold nM;have O:(ps.length:Int)*10^42<=20*10^42:=Int.mul_le_mul_of_nonneg_right ∅ (by decide)
 have z:=h1.1;have F:=h1.2;generalize (ps.map λp=>p.1*cf row p.2).sum=F3 at z F;generalize (ps.length:Int)*10^42=Um at O z F;lia
structure ExI(one other:List Int)(l:List Sp)(ks td:List Int):Prop where
 ks:(ex one other l).h.map (·.1)=ks
 td:(ex one other l).t.map (·.1)=td
 bd:∀p∈(ex one other l).h,fj p.2<=Eb l.length (tc l)
 ln:(ex one other l).h.length<=l.length
 tl:(ex one other l).t.length<=l.length
theorem cg{h:List (Int×Int)}{k:Int}{B:Nat}(j:∀p∈h,fj p.2<=B)(hk:k∈h.map (·.1)):fj (gv h k)<=B:=by obtain⟨v,e,m⟩:=fP hk;unfold gv;rw[e];exact j _ m
theorem D9{a:Int}(h:a∈ks):kp ks a=ks:=if_pos h
theorem Da{one:List Int}(h1:Big one)(h2:Big other){l:List Sp}(h:j7 L0 L1 L2 l ks td):ExI one other l ks td:=by
 induction h with
 |nil=>exact⟨rfl,rfl,λ_ h=>by simp[ex]at h,by simp[ex],by simp[ex]⟩
 |@snoc l ks td s h hs ih=>
  obtain⟨z,O,F,U,Y⟩:=ih;have Um:=@Fj l.length (tc l);refine⟨?_,?_,?_,?_,?_⟩
  ·rw[cy]
   cases s<;>simp only[exs,ex1,nk,kH,qk,z]
  ·rw[cy]
   cases s<;>simp only[exs,ex2,nt,O]
   case tel k b=>rw[kH,O,kp,if_neg hs.1.2.2]
  ·rw[cy,kK,JG];intro p j;have old:∀p∈(ex one other l).h,fj p.2<=Eb (l.length+[s].length) (tc l+if aV s then 1 else 0):=λp j=>Ka (F p j) (iu (by simp) ∅)
   cases s with
   |lin lf r ps=>
    rcases eM j with rfl|j
    ·refine Ka (yW hs.1 (λp j=>(hs.2 p j).1) ?_) D8
     cases lf
     ·exact h2
     ·exact h1
    ·exact old p j
   |tim r a b=>
    rcases eM j with rfl|j
    ·have L:=cg F (k:=a) (by rw[z];exact hs.1)
     have J:=cg F (k:=b) (by rw[z];exact hs.2)
     refine Ka (R0 L J) ?_;rw[Fk];exact iu (by simp) (by simp[aV])
    ·exact old p j
   |put r c b=>
    rcases eM j with rfl|j
    ·have J:=cg F (k:=b) (by rw[z];exact hs.2)
     refine Ka (R0 (iw hs.1) J) ?_;simp only[aV,KH,if_false,Kq,Ln,Si,Nat.zero_add];lia
    ·exact old p j
   |add a c b=>
    rcases eM j with rfl|j
    ·have L:=cg F (k:=a) (by rw[z];exact hs.1)
     have J:=cg F (k:=b) (by rw[z];exact hs.2.2)
     refine Ka (intBits_add_le L (R0 (iw hs.2.1) J)) ?_;simp only[aV,KH,if_false,Kq,Ln,Si,Nat.zero_add];lia
    ·exact old p j
   |emp a=>exact old p (ir j)
   |tel k b=>exact old p (ir j)
  ·rw[cy,JG]
   cases s<;>simp only[exs,ex1]<;>first
    |exact Ka jP (by simpa using U)
    |exact Ka kJ (by simp;lia)
  ·rw[cy,JG]
   cases s<;>simp only[exs,ex2]<;>first
    |exact Ka jP (by simpa using Y)
    |(simp;lia)
end
section
variable{T:List FD}
noncomputable def ptD(p:Int×Int):D:=.tup [.int p.1,.int p.2]
noncomputable def lr:Bool->W
 |true=>.l
 |false=>.r
noncomputable def spD(q:Uq):Sp->D
 |.lin l r _=>.tup [.str (ws (lr l)),.int r,.ref q]
 |.tim r a b=>.tup [.str (ws .t),.int r,.int a,.int b]
 |.put r c b=>.tup [.str (ws .p),.int r,.int c,.int b]
 |.add a c b=>.tup [.str (ws .a),.int a,.int c,.int b]
 |.emp a=>.tup [.str (ws .e),.int a]
 |.tel k b=>.tup [.str (ws .k),.int k,.int b]
noncomputable def spM(M:Mem)(q:Uq):Sp->Prop
 |.lin _ _ ps=>M q=S (.lst (ps.map ptD))
 |_=>True
theorem cN{s:Sp}(h:spM M q s)(g:Ge M M'):spM M' q s:=by cases s<;>first|exact g _ _ h|trivial
noncomputable def wd:Sp->W
 |.lin l _ _=>lr l
 |.tim _ _ _=>.t
 |.put _ _ _=>.p
 |.add _ _ _=>.a
 |.emp _=>.e
 |.tel _ _=>.k
theorem fQ(q:Uq)(x:Sp):∃ds,spD q x=.tup (.str (ws (wd x))::ds):=by cases x<;>exact⟨_,rfl⟩
noncomputable def rr:Sp->List Int
 |.lin _ _ _=>[]
 |.tim _ a b=>[a,b]
 |.put _ _ b=>[b]
 |.add a _ b=>[a,b]
 |.emp a=>[a]
 |.tel _ b=>[b]
noncomputable def iy(s:Stmt):FD:=⟨"rooms_read",s,["step","word"],1,
 (.cons (.asg (.name 1) (.ix (.var 0) (.int 0)))
 (.cons (.ite (.cmp .eq (.var 1) (.str (i3 "times"))) (.cons (.ret (.lst (.cons (.ix (.var 0) (.int 2)) (.cons (.ix (.var 0) (.int 3)) .nil))))
 .nil) .nil)
 (.cons (.ite (.cmp .eq (.var 1) (.str (i3 "put"))) (.cons (.ret (.lst (.cons (.ix (.var 0) (.int 3)) .nil)))
 .nil) .nil)
 (.cons (.ite (.cmp .eq (.var 1) (.str (i3 "add"))) (.cons (.ret (.lst (.cons (.ix (.var 0) (.int 1)) (.cons (.ix (.var 0) (.int 3)) .nil))))
 .nil) .nil)
 (.cons (.ite (.cmp .eq (.var 1) (.str (i3 "empty"))) (.cons (.ret (.lst (.cons (.ix (.var 0) (.int 1)) .nil)))
 .nil) .nil)
 (.cons (.ite (.cmp .eq (.var 1) (.str (i3 "tell"))) (.cons (.ret (.lst (.cons (.ix (.var 0) (.int 2)) .nil)))
 .nil) .nil)
 (.cons (.ret (.lst .nil))
 .nil)))))))⟩
noncomputable def ua(s:Stmt)(fr:Nat):FD:=⟨"can_be_done",s,["step","held","told","lengths","left","right","many","word"],4,
 (.cons (.asg (.tup (.cons (.name 4) (.cons (.name 5) (.cons (.name 6) .nil)))) (.var 3))
 (.cons (.asg (.name 7) (.ix (.var 0) (.int 0)))
 (.cons (.ite (.not (.tru (.blt .all (.cons (.comp [Z,(S 1)] ["room","held"] (.last (.seq (.call fr (.cons (.var 0) .nil))) (.name 0) .nil (.cmp .inD (.var 0) (.var 1)))) .nil)))) (.cons (.ret (.bl Up))
 .nil) .nil)
 (.cons (.ite (.cmp .eq (.var 7) (.str (i3 "left"))) (.cons (.ret (.blt .all (.cons (.comp [Z,Z,(S 4)] ["number","i","left"] (.last (.seq (.ix (.var 0) (.int 2))) (.tup (.cons (.name 0) (.cons (.name 1) .nil))) .nil (.chain .le .lt (.int 0) (.var 1) (.var 2)))) .nil)))
 .nil) .nil)
 (.cons (.ite (.cmp .eq (.var 7) (.str (i3 "right"))) (.cons (.ret (.blt .all (.cons (.comp [Z,Z,(S 5)] ["number","j","right"] (.last (.seq (.ix (.var 0) (.int 2))) (.tup (.cons (.name 0) (.cons (.name 1) .nil))) .nil (.chain .le .lt (.int 0) (.var 1) (.var 2)))) .nil)))
 .nil) .nil)
 (.cons (.ite (.cmp .eq (.var 7) (.str (i3 "tell"))) (.cons (.ret (.and (.cons (.chain .le .lt (.int 0) (.ix (.var 0) (.int 1)) (.var 6)) (.cons (.cmp .ninD (.ix (.var 0) (.int 1)) (.var 2)) .nil))))
 .nil) .nil)
 (.cons (.ret (.bl Uo))
 .nil)))))))⟩
noncomputable def iz(s:Stmt):FD:=⟨"sum_of",s,["parts","row"],2,
 (.cons (.ret (.blt .sum (.cons (.comp [Z,Z,(S 1)] ["number","i","row"] (.last (.seq (.var 0)) (.tup (.cons (.name 0) (.cons (.name 1) .nil))) .nil (.bin .mul (.var 0) (.ix (.var 2) (.var 1))))) .nil)))
 .nil)⟩
noncomputable def yX(s:Stmt)(fs:Nat):FD:=⟨"do_step",s,["step","held","told","one","other","word","room"],5,
 (.cons (.par 5 6 (.ix (.var 0) (.int 0)) (.ix (.var 0) (.int 1)))
 (.cons (.ite (.cmp .eq (.var 5) (.str (i3 "left"))) (.cons (.put (.var 1) (.var 6) (.call fs (.cons (.ix (.var 0) (.int 2)) (.cons (.var 3) .nil))))
 .nil) (.cons (.ite (.cmp .eq (.var 5) (.str (i3 "right"))) (.cons (.put (.var 1) (.var 6) (.call fs (.cons (.ix (.var 0) (.int 2)) (.cons (.var 4) .nil))))
 .nil) (.cons (.ite (.cmp .eq (.var 5) (.str (i3 "times"))) (.cons (.put (.var 1) (.var 6) (.bin .mul (.ix (.var 1) (.ix (.var 0) (.int 2))) (.ix (.var 1) (.ix (.var 0) (.int 3)))))
 .nil) (.cons (.ite (.cmp .eq (.var 5) (.str (i3 "put"))) (.cons (.put (.var 1) (.var 6) (.bin .mul (.ix (.var 0) (.int 2)) (.ix (.var 1) (.ix (.var 0) (.int 3)))))
 .nil) (.cons (.ite (.cmp .eq (.var 5) (.str (i3 "add"))) (.cons (.put (.var 1) (.var 6) (.bin .add (.ix (.var 1) (.var 6)) (.bin .mul (.ix (.var 0) (.int 2)) (.ix (.var 1) (.ix (.var 0) (.int 3))))))
 .nil) (.cons (.ite (.cmp .eq (.var 5) (.str (i3 "empty"))) (.cons (.delk (.var 1) (.var 6))
 .nil) (.cons (.ite (.cmp .eq (.var 5) (.str (i3 "tell"))) (.cons (.put (.var 2) (.ix (.var 0) (.int 1)) (.popk (.var 1) (.ix (.var 0) (.int 2))))
 .nil) .nil)
 .nil))
 .nil))
 .nil))
 .nil))
 .nil))
 .nil))
 .nil))⟩
noncomputable def kL(s:Stmt):FD:=⟨"sums_of",s,["step"],1,
 (.cons (.ite (.or (.cons (.cmp .eq (.ix (.var 0) (.int 0)) (.str (i3 "left"))) (.cons (.cmp .eq (.ix (.var 0) (.int 0)) (.str (i3 "right"))) .nil))) (.cons (.ret (.bin .sub (.blt .len (.cons (.ix (.var 0) (.int 2)) .nil)) (.int 1)))
 .nil) .nil)
 (.cons (.ret (.ite (.cmp .eq (.ix (.var 0) (.int 0)) (.str (i3 "add"))) (.int 1) (.int 0)))
 .nil))⟩
noncomputable def sms:Sp->Int
 |.lin _ _ ps=>ps.length-1
 |.add _ _ _=>1
 |_=>0
theorem yY(hf:T[f]?=S (iy s))(hn:1<=n){x:Sp}(h:∀p,M p=Z->Q (.ref p) (ag M p (.lst ((rr x).map .int)))):phi T n f [spD q x] M Q:=by
 refine aB hn hf rfl (ρ:=[S _,Z]) rfl ?_;unfold iy
 cases x with
 |lin l r ps=>
  cases l <;>
  ·unfold spD;nofun;refine⟨_,rfl,?_⟩
   iterate 5
    nofun;simp only[<-aK,<-aM,<-aT,<-aY,<-aZ,<-b3,<-aW,lr,aD,reduceCtorEq,decide_false,decide_true];ac_nf
    try rw[ax]
   nofun;exact⟨by rw[D0];lia,λp j=>h p j⟩
 |tim r a b=>
  unfold spD;nofun;refine⟨_,rfl,?_⟩
  iterate 1
   nofun;simp only[<-aK,<-aM,<-aT,<-aY,<-aZ,<-b3,<-aW,lr,aD,reduceCtorEq,decide_false,decide_true];ac_nf
   try rw[ax]
  nofun;exact⟨_,rfl,_,rfl,by rw[D0];lia,λp j=>h p j⟩
 |put r c b=>
  unfold spD;nofun;refine⟨_,rfl,?_⟩
  iterate 2
   nofun;simp only[<-aK,<-aM,<-aT,<-aY,<-aZ,<-b3,<-aW,lr,aD,reduceCtorEq,decide_false,decide_true];ac_nf
   try rw[ax]
  nofun;exact⟨_,rfl,by rw[D0];lia,λp j=>h p j⟩
 |add a c b=>
  unfold spD;nofun;refine⟨_,rfl,?_⟩
  iterate 3
   nofun;simp only[<-aK,<-aM,<-aT,<-aY,<-aZ,<-b3,<-aW,lr,aD,reduceCtorEq,decide_false,decide_true];ac_nf
   try rw[ax]
  nofun;exact⟨_,rfl,_,rfl,by rw[D0];lia,λp j=>h p j⟩
 |emp a=>
  unfold spD;nofun;refine⟨_,rfl,?_⟩
  iterate 4
   nofun;simp only[<-aK,<-aM,<-aT,<-aY,<-aZ,<-b3,<-aW,lr,aD,reduceCtorEq,decide_false,decide_true];ac_nf
   try rw[ax]
  nofun;exact⟨_,rfl,by rw[D0];lia,λp j=>h p j⟩
 |tel k b=>
  unfold spD;nofun;refine⟨_,rfl,?_⟩
  iterate 5
   nofun;simp only[<-aK,<-aM,<-aT,<-aY,<-aZ,<-b3,<-aW,lr,aD,reduceCtorEq,decide_false,decide_true];ac_nf
   try rw[ax]
  nofun;exact⟨_,rfl,by rw[D0];lia,λp j=>h p j⟩
theorem El{x:Sp}(h:gk L0 L1 L2 ks td x):∀r∈rr x,r∈ks:=by
 intro r hr
 cases x<;>simp[rr]at hr
 ·rcases hr with rfl|rfl
  ·exact h.1
  ·exact h.2
 ·subst hr;exact h.2
 ·rcases hr with rfl|rfl
  ·exact h.1
  ·exact h.2.2
 ·subst hr;exact h
 ·subst hr;exact h.2
theorem eN:atI (d::ds) 0=S d:=by unfold atI ixN;rw[if_pos (by decide),if_pos (by simp)];rfl
theorem wt(h0:0<=i)(h1:i<row.length):atI (row.map D.int) i=S (.int (cf row i)):=by
 obtain⟨x,z,j⟩:=gi (xs:=row.map D.int) h0 (by rw[B2];exact h1)
 rw[z];rw[KA]at j;unfold cf;rw[Lb]
 cases e3:row[i.toNat]? with
 |none=>rw[e3]at j;cases j
 |some v=>rw[e3]at j;cases j;rfl
theorem wu(j:Big row)(i:Int):-(2^64)<cf row i/\cf row i<2^64:=by
 unfold cf;rw[Lb]
 cases e:row[i.toNat]? with
 |none=>exact⟨by decide,by decide⟩
 |some v=>have:=j v (Kg e);simp only[SQ];lia
theorem ql(hf:T[f]?=S (iz s))(hn:1<=n){qa ra:Uq}{ps:List (Int×Int)}(mq:M qa=S (.lst (ps.map ptD)))(mr:M ra=S (.lst (row.map .int)))(O:ps.length<=20)(z:Big row)(F:∀p∈ps,0<=p.2/\p.2<row.length)(h:∀M',Ge M M'->Q (.int (nM ps row)) M'):phi T n f [.ref qa,.ref ra] M Q:=by
 refine aB hn hf rfl (ρ:=[S _,S _]) rfl ?_;unfold iz;nofun;refine⟨_,ao mq,?_⟩;refine ba (I:=λl ρ M' acc=>∃o j:Option D,ρ=[o,j,S (.ref ra)]/\M'=M/\acc=(l.map λp=>p.1*cf row p.2).map .int) (ys:=ps) rfl ⟨Z,Z,rfl,rfl,rfl⟩ ?_ ?_ ?_
 ·rintro l ρ M' acc ⟨o,j,rfl,rfl,rfl⟩;exact ao mq
 ·rintro l y r ρ M' acc ey ⟨o,j,rfl,rfl,rfl⟩;refine⟨_,rfl,λN' J=>?_⟩;obtain⟨L,y1⟩:=F y (by rw[ey];simp)
  have:=aU ey;ac_nf;refine aw mr (wt L y1) ?_;ac_nf;exact⟨kE (wu z _),by rw[B2,B2,D0];lia,J _ _ _ ⟨_,_,rfl,rfl,by simp⟩⟩
 ·rintro ρ M' acc ⟨o,j,rfl,rfl,rfl⟩ p3 hp3;exact rX (ao aa) (h _ (Ge.new hp3))
theorem yZ(hf:T[f]?=S (kL s))(hn:1<=n){x:Sp}(sm:spM M q x)(h:Q (.int (sms x)) M):phi T n f [spD q x] M Q:=by
 refine aB hn hf rfl (ρ:=[S _]) rfl ?_;unfold kL
 cases x with
 |lin l r ps=>
  cases l
  ·unfold spD;nofun;refine⟨_,rfl,?_⟩;simp only[<-aK,<-aM,<-aT,<-aY,<-aZ,<-b3,<-aW,lr,aD,reduceCtorEq,decide_false,decide_true];ac_nf;refine⟨_,rfl,?_⟩;simp only[<-aK,<-aM,<-aT,<-aY,<-aZ,<-b3,<-aW,lr,aD,reduceCtorEq,decide_false,decide_true];ac_nf;nofun;refine⟨_,rfl,cc sm ?_⟩;ac_nf;rw[B2];exact h
  ·unfold spD;nofun;refine⟨_,rfl,?_⟩;simp only[<-aK,<-aM,<-aT,<-aY,<-aZ,<-b3,<-aW,lr,aD,reduceCtorEq,decide_false,decide_true];ac_nf;nofun;refine⟨_,rfl,cc sm ?_⟩;ac_nf;rw[B2];exact h
 |_=>unfold spD;nofun;refine⟨_,rfl,?_⟩;simp only[<-aK,<-aM,<-aT,<-aY,<-aZ,<-b3,<-aW,lr,aD,reduceCtorEq,decide_false,decide_true];ac_nf;refine⟨_,rfl,?_⟩;simp only[<-aK,<-aM,<-aT,<-aY,<-aZ,<-b3,<-aW,lr,aD,reduceCtorEq,decide_false,decide_true];ac_nf;nofun;refine⟨_,rfl,?_⟩;simp only[<-aK,<-aM,<-aT,<-aY,<-aZ,<-b3,<-aW,lr,aD,reduceCtorEq,decide_false,decide_true];ac_nf;exact h
end
section
variable{T:List FD}
theorem cX{h:List (Int×Int)}{k:Int}(hk:k∈h.map (·.1)):dget (h.map (hD .int)) (.int k)=S (.int (gv h k)):=by obtain⟨v,e,_⟩:=fP hk;rw[dX];unfold gv;rw[e];rfl
theorem j8{B C:Nat}(hi:fj i<=B)(z:fj j<=C)(F:B<=2^20)(J:C<=2^20):MulOk i j:=.inr (.inr ⟨Ka hi F,Ka z J⟩)
theorem Em{fs:Nat}{ss:Stmt}(hf:T[f]?=S (yX s fs))(Y:T[fs]?=S (iz ss))(hn:2<=n){x:Sp}{L tA oA pA:Uq}{one:List Int}{O tt:List (Int×Int)}(mh:M L=S (.dct Up (O.map (hD .int))))(mt:M tA=S (.dct Up (tt.map (hD .int))))(mo:M oA=S (.lst (one.map .int)))(mp:M pA=S (.lst (other.map .int)))(j:L≠tA)(hk:O.map (·.1)=ks)(ok:gk one.length other.length L2 ks td x)(sm:spM M q x)(b1:Big one)(b2:Big other)(U:∀p∈O,fj p.2<=2^20)(hl:O.length<1000)(tl:tt.length<1000)(h:∀M',M' L=S (.dct Up ((ex1 one other O x).map (hD .int)))->M' tA=S (.dct Up ((ex2 O tt x).map (hD .int)))->(∀a o,a≠L->a≠tA->M a=S o->M' a=S o)->Q .non M'):
 phi T n f [spD q x,.ref L,.ref tA,.ref oA,.ref pA] M Q:=by
 refine aB ∅ hf rfl (ρ:=[S _,S _,S _,S _,S _,Z,Z]) rfl ?_
 unfold yX;subst hk;have hz:(O.map (hD D.int)).length<D2:=by rw[B2,D0];lia
 have tz:(tt.map (hD D.int)).length<D2:=by rw[B2,D0];lia
 have put:∀(M1:Mem) (r v:Int) (R:Mem->Prop),Ge M M1->(∀M',M' L=S (.dct Up ((ip O r v).map (hD .int)))->M' tA=S (.dct Up (tt.map (hD .int)))->(∀a o,a≠L->a≠tA->M a=S o->M' a=S o)->R M')->eU (.ref L) (.int r) (.int v) M1 R:=by intro M1 r v R g hR;refine j5 (g _ _ mh) rfl hz ?_;rw[kG (g:=D.int)];exact hR _ aa (by rw[ai (Ne.symm j)];exact g _ _ mt) λa o Um _ e=>by rw[ai Um];exact g _ _ e
 cases x with
 |lin l r ps=>
  have pr:=ok.2;have pl:=ok.1;have mq:M q=S (.lst (ps.map ptD)):=sm
  cases l
  ·unfold spD;nofun;refine⟨_,rfl,_,rfl,?_⟩
   iterate 2
    nofun;simp only[<-aK,<-aM,<-aT,<-aY,<-aZ,<-b3,<-aW,lr,aD,reduceCtorEq,decide_false,decide_true];ac_nf
    try rw[ax]
   nofun;refine⟨_,rfl,?_⟩;refine ql Y ∅ mq mp pl b2 (λp hp=>(pr p hp).2) λM1 g1=>?_
   refine put M1 r _ _ g1 λM' z F J=>?_
   repeat (first|(rw[ax];done)|rw[ax])
   exact h M' z F J
  ·unfold spD;nofun;refine⟨_,rfl,_,rfl,?_⟩
   iterate 1
    nofun;simp only[<-aK,<-aM,<-aT,<-aY,<-aZ,<-b3,<-aW,lr,aD,reduceCtorEq,decide_false,decide_true];ac_nf
    try rw[ax]
   nofun;refine⟨_,rfl,?_⟩;refine ql Y ∅ mq mo pl b1 (λp hp=>(pr p hp).2) λM1 g1=>?_
   refine put M1 r _ _ g1 λM' z F J=>?_
   repeat (first|(rw[ax];done)|rw[ax])
   exact h M' z F J
 |tim r a b=>
  unfold spD;nofun;refine⟨_,rfl,_,rfl,?_⟩
  iterate 3
   nofun;simp only[<-aK,<-aM,<-aT,<-aY,<-aZ,<-b3,<-aW,lr,aD,reduceCtorEq,decide_false,decide_true];ac_nf
   try rw[ax]
  nofun;refine⟨_,rfl,?_⟩;refine eJ mh rfl (cX ok.1) ?_;refine⟨_,rfl,?_⟩;refine eJ mh rfl (cX ok.2) ?_;ac_nf;refine⟨j8 (cg U ok.1) (cg U ok.2) (JL _) (JL _),?_⟩;refine put M r _ _ Ge.refl λM' z F J=>?_
  repeat (first|(rw[ax];done)|rw[ax])
  exact h M' z F J
 |put r c b=>
  unfold spD;nofun;refine⟨_,rfl,_,rfl,?_⟩
  iterate 4
   nofun;simp only[<-aK,<-aM,<-aT,<-aY,<-aZ,<-b3,<-aW,lr,aD,reduceCtorEq,decide_false,decide_true];ac_nf
   try rw[ax]
  nofun;refine⟨_,rfl,_,rfl,?_⟩;refine eJ mh rfl (cX ok.2) ?_;ac_nf;refine⟨j8 (iw ok.1) (cg U ok.2) (by decide) (JL _),?_⟩
  refine put M r _ _ Ge.refl λM' z F J=>?_
  repeat (first|(rw[ax];done)|rw[ax])
  exact h M' z F J
 |add a c b=>
  unfold spD;nofun;refine⟨_,rfl,_,rfl,?_⟩
  iterate 5
   nofun;simp only[<-aK,<-aM,<-aT,<-aY,<-aZ,<-b3,<-aW,lr,aD,reduceCtorEq,decide_false,decide_true];ac_nf
   try rw[ax]
  nofun;refine eJ mh rfl (cX ok.1) ?_;refine⟨_,rfl,_,rfl,?_⟩;refine eJ mh rfl (cX ok.2.2) ?_;ac_nf;refine⟨j8 (iw ok.2.1) (cg U ok.2.2) (by decide) (JL _),?_⟩
  refine put M a _ _ Ge.refl λM' z F J=>?_
  repeat (first|(rw[ax];done)|rw[ax])
  exact h M' z F J
 |emp a=>
  unfold spD;nofun;refine⟨_,rfl,_,rfl,?_⟩
  iterate 6
   nofun;simp only[<-aK,<-aM,<-aT,<-aY,<-aZ,<-b3,<-aW,lr,aD,reduceCtorEq,decide_false,decide_true];ac_nf
   try rw[ax]
  nofun;refine⟨_,mh,rfl,?_,?_⟩
  ·rw[cX ok];rfl
  ·rw[gj];exact h _ aa (by rw[ai (Ne.symm j)];exact mt) λa o Um _ e=>by rw[ai Um];exact e
 |tel k b=>
  unfold spD;nofun;refine⟨_,rfl,_,rfl,?_⟩
  iterate 7
   nofun;simp only[<-aK,<-aM,<-aT,<-aY,<-aZ,<-b3,<-aW,lr,aD,reduceCtorEq,decide_false,decide_true];ac_nf
   try rw[ax]
  nofun;refine⟨⟨_,mh⟩,_,rfl,_,mh,rfl,_,cX ok.2,_,rfl,?_⟩;refine j5 (by rw[ai (Ne.symm j)];exact mt) rfl tz ?_
  rw[gj,kG (g:=D.int)];exact h _ (by rw[ai j];exact aa) aa λa o Um U e=>by rw[ai U,ai Um];exact e
end
section
variable{T:List FD}
theorem qm{α:Type}{f:α->D}(xs:List α):fV (xs.map f)=xs.zipIdx.map λp=>.tup [.int (p.2:Nat),f p.1]:=by
 unfold fV;apply Of;intro i;simp[QS,OL]
 cases xs[i]?<;>simp
theorem mG{α:Type}{xs:List α}{l r:List (α×Nat)}{x:α×Nat}(e:xs.zipIdx=l++x::r):xs=l.map (·.1)++x.1::r.map (·.1):=by have:=congrArg (List.map Prod.fst) e;rw[NJ]at this;simpa using this
noncomputable abbrev Sq:=Sp×Uq
noncomputable def sqD(x:Sq):D:=spD x.2 x.1
structure PgI(M:Mem)(pg:Uq)(xs:List Sq):Prop where
 l:M pg=S (.lst (xs.map sqD))
 s:∀x∈xs,spM M x.2 x.1
theorem PgI.ge{pg:Uq}{xs:List Sq}(h:PgI M pg xs)(g:Ge M M'):PgI M' pg xs:=⟨g _ _ h.l,λx hx=>cN (h.s x hx) g⟩
theorem qo{x:Sp}(hw:wd x=.t):aV x=Uo:=by
 cases x<;>simp[wd,aV]at hw⊢
 case lin l _ _=>cases l<;>cases hw
theorem mH{x:Sp}(hw:¬wd x=.t):aV x=Up:=by cases x<;>simp[wd,aV]at hw⊢
end
section
variable{T:List FD}
noncomputable def qq(s:Stmt)(ft:Nat):FD:=⟨"_law_lengths",s,["_law_box_here","_law_most"],2,
 (.cons (.ret (.comp [Z,(S 0),(S 1)] ["_law_side","_law_box_here","_law_most"] (.last (.rng1 (.int 3)) (.name 0) .nil (.bin .add (.int 1) (.call ft (.cons (.var 1) (.cons (.var 2) .nil)))))))
 .nil)⟩
noncomputable def qr(s:Stmt)(h:Str):FD:=⟨"_law_kept",s,["_law_step_here",h,"_law_told"],3,
 (.cons (.ite (.cmp .inT (.ix (.var 0) (.int 0)) (.tup (.cons (.str (i3 "left")) (.cons (.str (i3 "right")) .nil)))) (.cons (.put (.var 1) (.ix (.var 0) (.int 1)) (.ix (.var 0) (.int 0)))
 .nil) (.cons (.ite (.cmp .eq (.ix (.var 0) (.int 0)) (.str (i3 "times"))) (.cons (.put (.var 1) (.ix (.var 0) (.int 1)) (.str (i3 "products")))
 .nil) (.cons (.ite (.cmp .eq (.ix (.var 0) (.int 0)) (.str (i3 "put"))) (.cons (.put (.var 1) (.ix (.var 0) (.int 1)) (.ix (.var 1) (.ix (.var 0) (.int 3))))
 .nil) (.cons (.ite (.cmp .eq (.ix (.var 0) (.int 0)) (.str (i3 "empty"))) (.cons (.drop (.popk (.var 1) (.ix (.var 0) (.int 1))))
 .nil) (.cons (.ite (.cmp .eq (.ix (.var 0) (.int 0)) (.str (i3 "tell"))) (.cons (.drop (.meth .append (.var 2) (.ix (.var 0) (.int 1))))
 (.cons (.drop (.popk (.var 1) (.ix (.var 0) (.int 2))))
 .nil)) .nil)
 .nil))
 .nil))
 .nil))
 .nil))
 .nil)⟩
noncomputable def qt(s:Stmt)(ft:Nat):FD:=⟨"_law_room",s,["_law_box_here","_law_way"],1,
 (.cons (.asg (.name 1) (.call ft (.cons (.var 0) (.cons (.int 6) .nil))))
 (.cons (.ite (.cmp .lt (.var 1) (.int 3)) (.cons (.ret (.call ft (.cons (.var 0) (.cons (.int 4) .nil))))
 .nil) .nil)
 (.cons (.ret (.ite (.cmp .lt (.var 1) (.int 5)) (.call ft (.cons (.var 0) (.cons (.int 9) .nil))) (.bin .sub (.int 999) (.call ft (.cons (.var 0) (.cons (.int 3) .nil))))))
 .nil)))⟩
noncomputable def kM(s:Stmt)(ft fv:Nat):FD:=⟨"_law_parts",s,["_law_box_here","_law_length","_law_some","_law_k"],2,
 (.cons (.asg (.name 2) (.lst .nil))
 (.cons (.for (.name 3) (.rng1 (.bin .add (.int 1) (.call ft (.cons (.var 0) (.cons (.ix (.lst (.cons (.int 3) (.cons (.int 3) (.cons (.int 3) (.cons (.int 9) .nil))))) (.call ft (.cons (.var 0) (.cons (.int 4) .nil)))) .nil))))) (.cons (.drop (.meth .append (.var 2) (.tup (.cons (.call fv (.cons (.var 0) .nil)) (.cons (.call ft (.cons (.var 0) (.cons (.var 1) .nil))) .nil)))))
 .nil))
 (.cons (.ret (.var 2))
 .nil)))⟩
noncomputable def j9(s:Stmt)(ft fn:Nat):FD:=⟨"_law_value",s,["_law_box_here","_law_way"],1,
 (.cons (.asg (.name 1) (.call ft (.cons (.var 0) (.cons (.int 5) .nil))))
 (.cons (.ite (.cmp .eq (.var 1) (.int 4)) (.cons (.ret (.bin .sub (.call ft (.cons (.var 0) (.cons (.bin .mul (.int 2) (.bin .pow (.int 10) (.int 30))) .nil))) (.bin .pow (.int 10) (.int 30))))
 .nil) .nil)
 (.cons (.ret (.ite (.cmp .eq (.var 1) (.int 3)) (.call fn (.cons (.var 0) .nil)) (.bin .sub (.call ft (.cons (.var 0) (.cons (.int 5) .nil))) (.int 2))))
 .nil)))⟩
noncomputable def qv(s:Stmt)(h:Str):FD:=⟨"_law_of_sort",s,[h,"_law_sort","_law_sorts"],3,
 (.cons (.ret (.comp [Z,(S 2),(S 0),(S 1)] ["_law_room_here","_law_sorts",h,"_law_sort"] (.last (.seq (.blt .sorts (.cons (.var 0) .nil))) (.name 0) (.cons (.or (.cons (.not (.tru (.var 1))) (.cons (.cmp .eq (.ix (.var 2) (.var 0)) (.var 3)) .nil))) .nil) (.var 0))))
 .nil)⟩
noncomputable def qw(s:Stmt)(h:Str)(ft fr fp fv fo:Nat):FD:=⟨"_law_step",s,["_law_box_here","_law_lengths_here",h,"_law_told","_law_sorts","_law_way","_law_room_here","_law_lefts","_law_rights","_law_products","_law_one","_law_free","_law_k","_law_side"],5,
 (.cons (.asg (.name 5) (.call ft (.cons (.var 0) (.cons (.int 9) .nil))))
 (.cons (.asg (.name 6) (.call fr (.cons (.var 0) .nil)))
 (.cons (.asg (.name 7) (.call fo (.cons (.var 2) (.cons (.str (i3 "left")) (.cons (.var 4) .nil)))))
 (.cons (.asg (.name 8) (.call fo (.cons (.var 2) (.cons (.str (i3 "right")) (.cons (.var 4) .nil)))))
 (.cons (.asg (.name 9) (.call fo (.cons (.var 2) (.cons (.str (i3 "products")) (.cons (.var 4) .nil)))))
 (.cons (.ite (.and (.cons (.cmp .eq (.var 5) (.int 2)) (.cons (.cmp .ne (.var 7) (.lst .nil)) (.cons (.cmp .ne (.var 8) (.lst .nil)) .nil)))) (.cons (.asg (.name 10) (.ix (.var 7) (.call ft (.cons (.var 0) (.cons (.blt .len (.cons (.var 7) .nil)) .nil)))))
 (.cons (.ret (.tup (.cons (.str (i3 "times")) (.cons (.var 6) (.cons (.var 10) (.cons (.ix (.var 8) (.call ft (.cons (.var 0) (.cons (.blt .len (.cons (.var 8) .nil)) .nil)))) .nil))))))
 .nil)) .nil)
 (.cons (.ite (.and (.cons (.cmp .eq (.var 5) (.int 3)) (.cons (.cmp .ne (.var 9) (.lst .nil)) .nil))) (.cons (.ret (.tup (.cons (.str (i3 "put")) (.cons (.var 6) (.cons (.call fv (.cons (.var 0) .nil)) (.cons (.ix (.var 9) (.call ft (.cons (.var 0) (.cons (.blt .len (.cons (.var 9) .nil)) .nil)))) .nil))))))
 .nil) .nil)
 (.cons (.ite (.and (.cons (.or (.cons (.cmp .eq (.var 5) (.int 4)) (.cons (.cmp .eq (.var 5) (.int 5)) .nil))) (.cons (.cmp .ne (.var 9) (.lst .nil)) .nil))) (.cons (.asg (.name 10) (.ix (.var 9) (.call ft (.cons (.var 0) (.cons (.blt .len (.cons (.var 9) .nil)) .nil)))))
 (.cons (.ret (.tup (.cons (.str (i3 "add")) (.cons (.var 10) (.cons (.call fv (.cons (.var 0) .nil)) (.cons (.ix (.var 9) (.call ft (.cons (.var 0) (.cons (.blt .len (.cons (.var 9) .nil)) .nil)))) .nil))))))
 .nil)) .nil)
 (.cons (.ite (.and (.cons (.cmp .eq (.var 5) (.int 6)) (.cons (.cmp .neE (.var 2) (.dnew Up)) .nil))) (.cons (.ret (.tup (.cons (.str (i3 "empty")) (.cons (.ix (.blt .sorts (.cons (.var 2) .nil)) (.call ft (.cons (.var 0) (.cons (.blt .lenK (.cons (.var 2) .nil)) .nil)))) .nil))))
 .nil) .nil)
 (.cons (.asg (.name 11) (.comp [Z,(S 3)] ["_law_k","_law_told"] (.last (.rng1 (.ix (.var 1) (.int 2))) (.name 0) (.cons (.cmp .ninS (.var 0) (.var 1)) .nil) (.var 0))))
 (.cons (.ite (.and (.cons (.cmp .gt (.var 5) (.int 6)) (.cons (.cmp .ne (.var 9) (.lst .nil)) (.cons (.cmp .ne (.var 11) (.lst .nil)) .nil)))) (.cons (.asg (.name 12) (.ix (.var 11) (.call ft (.cons (.var 0) (.cons (.blt .len (.cons (.var 11) .nil)) .nil)))))
 (.cons (.ret (.tup (.cons (.str (i3 "tell")) (.cons (.var 12) (.cons (.ix (.var 9) (.call ft (.cons (.var 0) (.cons (.blt .len (.cons (.var 9) .nil)) .nil)))) .nil)))))
 .nil)) .nil)
 (.cons (.asg (.name 13) (.call ft (.cons (.var 0) (.cons (.int 2) .nil))))
 (.cons (.ret (.tup (.cons (.ix (.lst (.cons (.str (i3 "left")) (.cons (.str (i3 "right")) .nil))) (.var 13)) (.cons (.var 6) (.cons (.call fp (.cons (.var 0) (.cons (.ix (.var 1) (.var 13)) .nil))) .nil)))))
 .nil)))))))))))))⟩
noncomputable def qy(s:Stmt)(h:Str)(fs fk:Nat):FD:=⟨"_law_program",s,["_law_box_here","_law_lengths_here","_law_size","_law_sorts",h,"_law_told","_law_steps","_law_turn","_law_step_here","_law_many"],4,
 (.cons (.asg (.name 4) (.dnew Up))
 (.cons (.asg (.name 5) (.lst .nil))
 (.cons (.asg (.name 6) (.lst .nil))
 (.cons (.for (.name 7) (.rng1 (.var 2)) (.cons (.asg (.name 8) (.call fs (.cons (.var 0) (.cons (.var 1) (.cons (.var 4) (.cons (.var 5) (.cons (.var 3) .nil)))))))
 (.cons (.asg (.name 9) (.blt .len (.cons (.comp [Z] ["_law_one"] (.last (.seq (.var 6)) (.name 0) (.cons (.cmp .eq (.ix (.var 0) (.int 0)) (.str (i3 "times"))) .nil) (.var 0))) .nil)))
 (.cons (.ite (.or (.cons (.cmp .ne (.ix (.var 8) (.int 0)) (.str (i3 "times"))) (.cons (.tru (.var 3)) (.cons (.cmp .lt (.var 9) (.int 4)) .nil)))) (.cons (.drop (.meth .append (.var 6) (.var 8)))
 (.cons (.drop (.call fk (.cons (.var 8) (.cons (.var 4) (.cons (.var 5) .nil)))))
 .nil)) .nil)
 .nil))))
 (.cons (.ret (.var 6))
 .nil)))))⟩
def iA(T:List FD)(n f:Nat):Prop:=∀{b:Uq} {M:Mem} {Q:QD},Box b M->(∀r M',bW r->Bx b M M'->Q (.int r) M')->phi T n f [.ref b] M Q
theorem wv{fn:Nat}(hf:T[f]?=S (j9 s ft fn))(j:cL T (n-1) ft)(F:qh T (n-1) fn)(hn:1<=n):iA T n f:=by
 intro b M Q J q;refine aB hn hf rfl (ρ:=[S _,Z]) rfl ?_;unfold j9;nofun;refine j J (by decide) (by decide) λw M1 O U x1=>?_
 nofun
 split
 ·nofun;refine⟨by decide,by decide,by decide,tY (by decide),?_⟩
  refine j x1.box (by decide) (by decide) λv M2 v0 v1 z=>?_
  ac_nf;refine⟨by decide,by decide,by decide,?_⟩
  refine q _ _ ?_ (x1.trans z);have e:(2*10^(30:Int).toNat:Int)=2*10^30:=rfl;rw[e]at v1;have L:(10^(30:Int).toNat:Int)=10^30:=rfl;rw[L];exact⟨∅,∅⟩
 ·nofun
  split
  ·refine F x1.box λv M2 v0 v1 z=>?_;exact q _ _ ⟨∅,∅⟩ (x1.trans z)
  ·refine j x1.box (by decide) (by decide) λv M2 v0 v1 z=>?_
   ac_nf;exact q _ _ ⟨∅,∅⟩ (x1.trans z)
def ww(T:List FD)(n f:Nat):Prop:=∀{b:Uq} {M:Mem} {Q:QD},Box b M->(∀(r:Int) M',(0<=r/\r<9∨996<r/\r<1000)->Bx b M M'->Q (.int r) M')->phi T n f [.ref b] M Q
theorem Bh(hf:T[f]?=S (qt s ft))(j:cL T (n-1) ft)(hn:1<=n):ww T n f:=by
 intro b M Q F q;refine aB hn hf rfl (ρ:=[S _,Z]) rfl ?_;unfold qt;nofun;refine j F (by decide) (by decide) λw M1 J L x1=>?_
 nofun
 split
 ·nofun;refine j x1.box (by decide) (by decide) λv M2 v0 v1 z=>?_
  exact q _ _ (.inl ⟨∅,∅⟩) (x1.trans z)
 ·nofun
  split
  ·refine j x1.box (by decide) (by decide) λv M2 v0 v1 z=>?_
   exact q _ _ (.inl ⟨∅,∅⟩) (x1.trans z)
  ·refine j x1.box (by decide) (by decide) λv M2 v0 v1 z=>?_
   ac_nf;exact q _ _ (.inr ⟨∅,∅⟩) (x1.trans z)
def rY(T:List FD)(n f:Nat):Prop:=∀{b:Uq} {L:Nat} {M:Mem} {Q:QD},0<L->L<=1000->Box b M->(∀(ps:List (Int×Int)) p M',ps.length<=20->(∀y∈ps,bW y.1/\0<=y.2/\y.2<L)->Bx b M M'->M p=Z->M' p=S (.lst (ps.map ptD))->Q (.ref p) M')->phi T n f [.ref b,.int L] M Q
theorem ay(h:Box b M)(j:M p=Z):p≠b:=λz=>by obtain⟨x,y,w,e⟩:=h;rw[<-z,j]at e;cases e
theorem z8{fv:Nat}(hf:T[f]?=S (kM s ft fv))(O:cL T (n-1) ft)(Hg:iA T (n-1) fv)(hn:1<=n):rY T n f:=by
 intro b L M Q hL Hk hb q;refine aB hn hf rfl (ρ:=[S _,S _,Z,Z]) rfl ?_;unfold kM;nofun;refine⟨by rw[D0];lia,λp hp=>?_⟩
 have j:=ay hb hp;have x0:=Bx.of hb (Ge.new (o:=.lst []) hp);nofun;refine⟨by rw[D0];lia,λp1 J=>?_⟩
 have Y:=ay x0.box J;have Um:p≠p1:=λz=>by rw[<-z,aa]at J;cases J
 have x1:=x0.ge (Ge.new (o:=.lst [.int 3,.int 3,.int 3,.int 9]) J);refine O x1.box (by decide) (by decide) λw M2 w0 w1 x2=>?_
 have m2:=x2.keep p1 _ Y aa;have mp:=x2.keep p (.lst []) j (by rw[ai Um];exact aa)
 obtain⟨m,em,m0,m1⟩:∃m:Int,atI [D.int 3,.int 3,.int 3,.int 9] w=S (.int m)/\0<m/\m<=9:=by
  have:w=0∨w=1∨w=2∨w=3:=∅
  rcases this with rfl|rfl|rfl|rfl
  ·exact⟨3,rfl,by decide,by decide⟩
  ·exact⟨3,rfl,by decide,by decide⟩
  ·exact⟨3,rfl,by decide,by decide⟩
  ·exact⟨9,rfl,by decide,by decide⟩
 refine aw m2 em ?_;have Hf:=x1.trans x2;refine O Hf.box m0 ∅ λv M3 v0 v1 x3=>?_
 have Hh:=x3.keep p _ j mp;have Hi:=Hf.trans x3;ac_nf;refine⟨∅,∅,?_⟩
 refine qf (I:=λl ρ M'=>∃(ps:List (Int×Int)) (o:Option D),ρ=[S (.ref b),S (.int L),S (.ref p),o]/\ps.length=l.length/\(∀y∈ps,bW y.1/\0<=y.2/\y.2<L)/\Bx b M M'/\M' p=S (.lst (ps.map ptD)))
  ⟨[],Z,rfl,rfl,λ_ h=>by simp at h,Hi,Hh⟩ (λ_ _ _ _=>trivial) ?_ ?_
 ·rintro l x r ρ M4 e ⟨ps,o,rfl,hl,U,x4,m4⟩;have Hj:=aU e;rw[ce]at Hj;refine⟨_,rfl,λF hF=>?_⟩;nofun;refine⟨⟨_,m4⟩,?_⟩;refine Hg x4.box λc M5 hc x5=>?_;refine O x5.box ∅ ∅ λi M6 i0 i1 x6=>?_
  ac_nf;refine⟨by rw[D0];lia,?_⟩
  have m6:=x6.keep p _ j (x5.keep p _ j m4);refine⟨p,_,_,rfl,rfl,m6,by rw[B2,D0];lia,?_⟩
  refine hF _ _ ⟨ps++[(c,i)],_,rfl,by simp[hl],?_,((x4.trans x5).trans x6).upd hp j,?_⟩
  ·intro y hy
   rcases K0.mp hy with h|h
   ·exact U y h
   ·simp at h;subst h;exact⟨hc,i0,i1⟩
  ·rw[aa,JX];rfl
 ·rintro ρ M4 ⟨ps,o,rfl,hl,U,x4,m4⟩;rw[ce]at hl;nofun;exact q ps p _ ∅ U x4 hp m4
def wx(T:List FD)(n f:Nat):Prop:=∀{b:Uq} {m:Int} {M:Mem} {Q:QD},0<m->m<=100->Box b M->(∀(L0 L1 L2:Nat) p M',(1<=L0/\L0<=m.toNat)->(1<=L1/\L1<=m.toNat)->(1<=L2/\L2<=m.toNat)->Bx b M M'->M p=Z->M' p=S (.lst [.int L0,.int L1,.int L2])->Q (.ref p) M')->phi T n f [.ref b,.int m] M Q
theorem Bi(hf:T[f]?=S (qq s ft))(z:cL T (n-1) ft)(hn:1<=n):wx T n f:=by
 intro b m M Q h0 h1 U q;refine aB hn hf rfl (ρ:=[S _,S _]) rfl ?_;unfold qq;nofun;refine⟨by decide,by decide,?_⟩
 have er:ci 0 (3:Int).toNat=[.int 0,.int 1,.int 2]:=rfl;rw[er];simp only[bZ];refine⟨trivial,_,rfl,?_⟩;ac_nf;refine z U ∅ ∅ λi M1 i0 Um x1=>?_
 ac_nf;refine⟨by simp[D0],?_⟩
 refine z x1.box ∅ ∅ λj M2 j0 j1 O=>?_
 ac_nf;refine⟨by simp[D0],?_⟩
 refine z O.box ∅ ∅ λk M3 k0 k1 Y=>?_
 ac_nf;refine⟨by simp[D0],λp F=>?_⟩
 have J:=(x1.trans O).trans Y;have L:=ay J.box F;refine q (1+i).toNat (1+j).toNat (1+k).toNat p _ ∅ ∅ ∅ (J.ge (Ge.new F)) (J.none F L) ?_
 rw[aa,NI ∅,NI ∅,NI ∅];rfl
end
section
variable{T:List FD}
theorem wy{ys:List D}(h:ys.Perm (ns.map D.int)):∃ms:List Int,ys=ms.map D.int/\ms.Perm ns:=by
 have j:∀y∈ys,∃i,y=D.int i:=λy F=>by obtain⟨i,_,e⟩:=KD.mp (h.mem_iff.mp F);exact⟨i,e.symm⟩
 have:∃ms:List Int,ys=ms.map D.int:=by
  clear h
  induction ys with
  |nil=>exact⟨[],rfl⟩
  |cons y ys ih=>obtain⟨i,rfl⟩:=j y Ks;obtain⟨ms,rfl⟩:=ih λz J=>j z (K5 _ J);exact⟨i::ms,rfl⟩
 obtain⟨ms,rfl⟩:=this;refine⟨ms,rfl,?_⟩
 let g:D->Int:=λd=>match d with|.int i=>i|_=>0
 have e:∀l:List Int,(l.map D.int).map g=l:=λl=>by rw[Mw];exact List.map_id' l
 have:=h.map g
 rwa[e,e]at this
theorem qz{j:Uq}{z:List (Int×Str)}(mh:M j=S (.dct Up (z.map (hD .str))))(L:z.length<=63)(q:∀p (ms:List Int),M p=Z->ms.Perm (z.map (·.1))->Q (.ref p) (ag M p (.lst (ms.map .int)))):gK [.ref j] M Q:=by
 refine⟨j,Up,_,.int,rfl,mh,rfl,λkv F=>?_,by rw[B2];exact L,λp ys O J _=>?_⟩
 ·obtain⟨x,_,rfl⟩:=KD.mp F;rfl
 ·rw[Mw]at J;have e:((·.1)∘hD .str:Int×Str->D)=D.int∘(·.1):=rfl;rw[e,<-Mw]at J;obtain⟨ms,rfl,h2⟩:=wy J;exact q p ms O h2
theorem eZ{j:List (Int×Str)}{k:Int}(hk:k∈j.map (·.1)):∃v,ig j k=S v/\dget (j.map (hD .str)) (.int k)=S (.str v):=by obtain⟨v,e,_⟩:=fP hk;exact⟨v,e,by rw[dX,e];rfl⟩
noncomputable def wpr:Str:=i3 "products"
def de(v:Str):Prop:=v=ws .l∨v=ws .r∨v=wpr
theorem wz{v u:Str}(j:de v)(F:de u)(q:Q (.bl (decide (v=u))) M):wEq (.str v) (.str u) M Q:=by
 have ok:∀z,de z->S8 z=Uo:=by
  rintro z (rfl|rfl|rfl)
  ·exact jN .l
  ·exact jN .r
  ·decide +kernel
 have e:(v==u)=decide (v=u):=QI v u;have r:∀z,de z->rb 16 M (.str z)=S (.str z):=λz J=>by simp only[rb,ok z J,if_true]
 refine⟨_,_,r v j,r u F,?_⟩;simp only[Kk];rw[e];exact q
def wB(T:List FD)(n f:Nat):Prop:=∀{so:Bool} {u:Str} {hA:Uq} {hh:List (Int×Str)} {M:Mem} {Q:QD},M hA=S (.dct Up (hh.map (hD .str)))->(∀p∈hh,de p.2)->de u->hh.length<=63->
 (∀p (ms:List Int) M',Ge M M'->M p=Z->M' p=S (.lst (ms.map .int))->ms.length<=63->(∀r∈ms,r∈hh.map (·.1)/\(so=Uo->ig hh r=S u))->Q (.ref p) M')->phi T n f [.ref hA,.str u,.bl so] M Q
theorem z9(hf:T[f]?=S (qv s hn))(h1:1<=n):wB T n f:=by
 intro so u O j M Q mh hv hu hl q;refine aB h1 hf rfl (ρ:=[S _,S _,S _]) rfl ?_;unfold qv;nofun;refine qz mh hl λp ms hp hm=>?_;have g1:=Ge.new (o:=.lst (ms.map .int)) hp;have Hf:ms.length=j.length:=by rw[hm.length_eq,B2]
 refine⟨_,ao aa,?_⟩;refine ba (I:=λl ρ M' acc=>∃(o:Option D) (rs:List Int),ρ=[o,S (.bl so),S (.ref O),S (.str u)]/\M'=ag M p (.lst (ms.map .int))/\acc=rs.map .int/\rs.length<=l.length/\∀r∈rs,r∈j.map (·.1)/\(so=Uo->ig j r=S u)) (ys:=ms) rfl ⟨Z,[],rfl,rfl,rfl,JL _,λ_ h=>by simp at h⟩ ?_ ?_ ?_
 ·rintro l ρ M' acc ⟨o,rs,rfl,rfl,rfl,_⟩;exact ao aa
 ·rintro l y r ρ M' acc ey ⟨o,rs,rfl,rfl,rfl,F,hr⟩;refine⟨_,rfl,λN' U=>?_⟩;have J:y∈j.map (·.1):=hm.mem_iff.mp (by rw[ey];simp)
  obtain⟨v,Y,e2⟩:=eZ J;have Um:=aU ey;have sv:de v:=by obtain⟨v',e3,e4⟩:=fP J;rw[Y]at e3;cases e3;exact hv _ e4
  have add:(so=Uo->ig j y=S u)->(rs.map D.int).length<D2/\N' [S (.int y),S (.bl so),S (.ref O),S (.str u)] (ag M p (.lst (ms.map .int))) (rs.map .int++[.int y]):=λL=>
   ⟨by rw[B2,D0];lia,U _ _ _ ⟨_,rs++[y],rfl,rfl,by simp,by simp;exact F,fun z Um=>by
    rcases K0.mp Um with h|h
    ·exact hr z h
    ·simp at h;subst h;exact⟨J,L⟩⟩⟩
  ac_nf;refine⟨so,rfl,?_⟩
  cases so with
  |false=>
   rw[if_pos (by rfl)]
   exact add λz=>by cases z
  |true=>
   rw[if_neg (by decide)]
   refine eJ (g1 _ _ mh) rfl e2 ?_;refine wz sv hu ?_;refine⟨_,rfl,?_⟩
   by_cases z:v=u
   ·rw[decide_eq_true z,if_pos rfl];exact add λ_=>by rw[Y,z]
   ·rw[decide_eq_false z,if_neg (by decide)]
    exact U _ _ _ ⟨_,rs,rfl,rfl,rfl,by simp;lia,hr⟩
 ·rintro ρ M' acc ⟨o,rs,rfl,rfl,rfl,F,hr⟩ p2 hp2;refine q p2 rs _ (g1.trans (Ge.new hp2)) ?_ aa ∅ hr
  cases z:M p2 with
  |none=>rfl
  |some o=>have:=g1 _ _ z;rw[hp2]at this;cases this
noncomputable def Db(hh:List (Int×Str)):Sp->Prop
 |.lin _ _ _=>True
 |.tim _ a b=>ig hh a=S (ws .l)/\ig hh b=S (ws .r)
 |.put _ _ b=>ig hh b=S wpr
 |.add a _ b=>ig hh a=S wpr/\ig hh b=S wpr
 |.emp _=>True
 |.tel _ b=>ig hh b=S wpr
noncomputable def kn(hh:List (Int×Str)):Sp->List (Int×Str)
 |.lin l r _=>ip hh r (ws (lr l))
 |.tim r _ _=>ip hh r wpr
 |.put r _ b=>ip hh r ((ig hh b).getD wpr)
 |.add _ _ _=>hh
 |.emp a=>idr hh a
 |.tel _ b=>idr hh b
def wD(T:List FD)(n f:Nat):Prop:=∀{q hA tA:Uq} {x:Sp} {hh:List (Int×Str)} {td:List Int} {L0 L1 L2:Nat} {M:Mem} {Q:QD},M hA=S (.dct Up (hh.map (hD .str)))->M tA=S (.lst (td.map .int))->hA≠tA->gk L0 L1 L2 (hh.map (·.1)) td x->hh.length<100->td.length<100->
 (∀M',M' hA=S (.dct Up ((kn hh x).map (hD .str)))->M' tA=S (.lst ((nt td x).map .int))->(∀a o,a≠hA->a≠tA->M a=S o->M' a=S o)->(∀a,M a≠Z->M' a≠Z)->Q .non M')->phi T n f [spD q x,.ref hA,.ref tA] M Q
theorem rZ(hf:T[f]?=S (qr s hn))(h1:1<=n):wD T n f:=by
 intro q J tA x hh td L0 L1 L2 M Q mh mt j ok hl tl h;refine aB h1 hf rfl (ρ:=[S _,S _,S _]) rfl ?_;unfold qr;have hz:(hh.map (hD D.str)).length<D2:=by rw[B2,D0];lia
 have up:∀(M1:Mem) (b:Uq) (o:O) (a:Uq),M1 a≠Z->ag M1 b o a≠Z:=λM1 b o a F=>by
  unfold ag;split
  ·intro z;cases z
  ·exact F
 have put:∀(r:Int) (v:Str) (R:Mem->Prop),(∀M',M' J=S (.dct Up ((ip hh r v).map (hD .str)))->M' tA=S (.lst (td.map .int))->(∀a o,a≠J->a≠tA->M a=S o->M' a=S o)->(∀a,M a≠Z->M' a≠Z)->R M')->eU (.ref J) (.int r) (.str v) M R:=by intro r v R hR;refine j5 mh rfl hz ?_;rw[kG (g:=D.str)];exact hR _ aa (by rw[ai (Ne.symm j)];exact mt) (λa o F _ e=>by rw[ai F];exact e) (up M J _)
 cases x with
 |lin l r ps=>
  unfold spD;nofun;refine⟨_,rfl,?_⟩;simp only[<-aK,<-aM];refine⟨by rw[D0];lia,eL ?_⟩
  refine⟨_,rfl,?_⟩;rw[if_pos (by cases l<;>decide)]
  nofun;refine⟨_,rfl,_,rfl,put r _ _ λM' L U Y Um=>?_⟩;exact h M' L U Y Um
 |tim r a b=>
  unfold spD;nofun;refine⟨_,rfl,?_⟩;simp only[<-aK,<-aM];refine⟨by rw[D0];lia,eL ?_⟩
  refine⟨_,rfl,?_⟩;rw[if_neg (by decide)]
  iterate 1
   nofun;refine⟨_,rfl,?_⟩;simp only[<-aK,<-aM,<-aT,<-aY,<-aZ,<-b3,<-aW,aD,reduceCtorEq,decide_false,decide_true];ac_nf
  nofun;exact⟨_,rfl,put r wpr _ λM' L U Y Um=>h M' L U Y Um⟩
 |put r c b=>
  unfold spD;nofun;refine⟨_,rfl,?_⟩;simp only[<-aK,<-aM];refine⟨by rw[D0];lia,eL ?_⟩
  refine⟨_,rfl,?_⟩;rw[if_neg (by decide)]
  iterate 2
   nofun;refine⟨_,rfl,?_⟩;simp only[<-aK,<-aM,<-aT,<-aY,<-aZ,<-b3,<-aW,aD,reduceCtorEq,decide_false,decide_true];ac_nf
  nofun;obtain⟨v,e1,e2⟩:=eZ ok.2;refine⟨_,rfl,eJ mh rfl e2 ⟨_,rfl,put r v _ λM' L U Y Um=>h M' ?_ U Y Um⟩⟩;rw[L];simp only[kn,e1,SQ]
 |add a c b=>
  unfold spD;nofun;refine⟨_,rfl,?_⟩;simp only[<-aK,<-aM];refine⟨by rw[D0];lia,eL ?_⟩
  refine⟨_,rfl,?_⟩;rw[if_neg (by decide)]
  iterate 4
   nofun;refine⟨_,rfl,?_⟩;simp only[<-aK,<-aM,<-aT,<-aY,<-aZ,<-b3,<-aW,aD,reduceCtorEq,decide_false,decide_true];ac_nf
  exact h M mh mt (λ_ _ _ _ e=>e) λ_ e=>e
 |emp a=>
  unfold spD;nofun;refine⟨_,rfl,?_⟩;simp only[<-aK,<-aM];refine⟨by rw[D0];lia,eL ?_⟩
  refine⟨_,rfl,?_⟩;rw[if_neg (by decide)]
  iterate 3
   nofun;refine⟨_,rfl,?_⟩;simp only[<-aK,<-aM,<-aT,<-aY,<-aZ,<-b3,<-aW,aD,reduceCtorEq,decide_false,decide_true];ac_nf
  nofun;obtain⟨v,e1,e2⟩:=eZ ok;refine⟨⟨_,mh⟩,_,rfl,_,mh,rfl,⟨_,e2⟩,?_⟩;rw[gj];exact h _ aa (by rw[ai (Ne.symm j)];exact mt) (λa o F _ e=>by rw[ai F];exact e) (up M J _)
 |tel k b=>
  unfold spD;nofun;refine⟨_,rfl,?_⟩;simp only[<-aK,<-aM];refine⟨by rw[D0];lia,eL ?_⟩
  refine⟨_,rfl,?_⟩;rw[if_neg (by decide)]
  iterate 4
   nofun;refine⟨_,rfl,?_⟩;simp only[<-aK,<-aM,<-aT,<-aY,<-aZ,<-b3,<-aW,aD,reduceCtorEq,decide_false,decide_true];ac_nf
  nofun;refine⟨⟨_,mt⟩,_,rfl,?_⟩;refine⟨tA,_,_,rfl,rfl,mt,by rw[B2,D0];lia,?_⟩
  obtain⟨v,e1,e2⟩:=eZ ok.2;have mh':ag M tA (.lst (td.map .int++[.int k])) J=S (.dct Up (hh.map (hD .str))):=by rw[ai j];exact mh
  nofun;refine⟨⟨_,mh'⟩,_,rfl,_,mh',rfl,⟨_,e2⟩,?_⟩;rw[gj];refine h _ aa ?_ (λa o F hb e=>by rw[ai F,ai hb];exact e) λa F=>up _ _ _ _ (up _ _ _ _ F)
  rw[ai (Ne.symm j),aa];unfold nt;rw[JX];rfl
end
section
variable{T:List FD}
theorem cY{e:Uq}{ms:List Int}(j:M p=S (.lst (ms.map .int)))(he:M e=S (.lst []))(q:Q (.bl (decide (ms≠[]))) M):wNe (.ref p) (.ref e) M Q:=by
 refine⟨_,_,(gP j).trans (by rw[rW];rfl),gP he,?_⟩
 have z:(!PyData.eqv (.list (ms.map .int)) (.list []))=decide (ms≠[]):=by cases ms<;>simp[Kk,NR]
 show Q (.bl (!PyData.eqv (.list (ms.map .int)) (.list []))) M;rw[z];exact q
structure SI(b p7 p8 p9:Uq)(m7 m8 m9:List Int)(M M':Mem):Prop where
 x:Bx b M M'
 a:M' p7=S (.lst (m7.map .int))
 c:M' p8=S (.lst (m8.map .int))
 d:M' p9=S (.lst (m9.map .int))
theorem SI.ge{j z F:Uq}{J L O:List Int}(h:SI b j z F J L O M M')(g:Ge M' M''):SI b j z F J L O M M'':=⟨h.x.ge g,g _ _ h.a,g _ _ h.c,g _ _ h.d⟩
theorem SI.bx{j z F:Uq}{J L O:List Int}(h:SI b j z F J L O M M')(U:j≠b)(Y:z≠b)(Um:F≠b)(g:Bx b M' M''):SI b j z F J L O M M'':=⟨h.x.trans g,g.keep _ _ U h.a,g.keep _ _ Y h.c,g.keep _ _ Um h.d⟩
theorem cz(z:cL T n ft){ms:List Int}(L:Box b M)(F:M p=S (.lst (ms.map .int)))(npb:p≠b)(h0:ms≠[])(Um:ms.length<=1000)(q:∀r M',r∈ms->Bx b M M'->Q (.int r) M'):fg [.ref p] M λy M1=>phi T n ft [.ref b,y] M1 λy2 M2=>wIx (.ref p) y2 M2 Q:=by
 have J:0<ms.length:=MD.mpr h0;refine cc F ?_;rw[B2];refine z L ∅ ∅ λr M1 O U x1=>?_
 obtain⟨d,Y,j⟩:=gi (xs:=ms.map D.int) O (by rw[B2];exact U)
 rw[KA]at j
 cases e3:ms[r.toNat]? with
 |none=>rw[e3]at j;cases j
 |some v=>rw[e3]at j;cases j;exact aw (x1.keep _ _ npb F) Y (q v M1 (Kg e3) x1)
def qA(T:List FD)(n f:Nat):Prop:=∀{b lA hA tA:Uq} {so:Bool} {hh:List (Int×Str)} {td:List Int} {L0 L1 L2:Nat} {M:Mem} {Q:QD},Box b M->M lA=S (.lst [.int L0,.int L1,.int L2])->M hA=S (.dct Up (hh.map (hD .str)))->M tA=S (.lst (td.map .int))->
 lA≠b->hA≠b->tA≠b->(∀p∈hh,de p.2)->hh.length<=63->(0<L0/\L0<=1000)->(0<L1/\L1<=1000)->L2<=1000->
 (∀x q M',gk L0 L1 L2 (hh.map (·.1)) td x->(so=Uo->Db hh x)->Bx b M M'->spM M' q x->(∀l r ps,x=.lin l r ps->M q=Z)->Q (spD q x) M')->phi T n f [.ref b,.ref lA,.ref hA,.ref tA,.bl so] M Q
theorem Bj{fr fp fv fo:Nat}(hf:T[f]?=S (qw s hn ft fr fp fv fo))(J:cL T (n-1) ft)(HC:ww T (n-1) fr)(Hv:rY T (n-1) fp)(Hw:iA T (n-1) fv)(Hm:wB T (n-1) fo)(h1:1<=n):qA T n f:=by
 intro b lA hA tA so hh td L0 L1 L2 M Q hb ml mh mt nl nh nt' hv hl z0 z1 z2 h;refine aB h1 hf rfl (ρ:=[S _,S _,S _,S _,S _,Z,Z,Z,Z,Z,Z,Z,Z,Z]) rfl ?_;unfold qw;nofun;refine J hb (by decide) (by decide) λway M1 w0 w1 x1=>?_
 nofun;refine HC x1.box λroom M2 _ x2=>?_;have L:=x1.trans x2;nofun;refine Hm (L.keep _ _ nh mh) hv (.inl rfl) hl λp7 m7 M3 g3 f7 e7 l7 r7=>?_;nofun;refine Hm (g3 _ _ (L.keep _ _ nh mh)) hv (.inr (.inl rfl)) hl λp8 m8 M4 g4 f8 e8 l8 r8=>?_;nofun;refine Hm (g4 _ _ (g3 _ _ (L.keep _ _ nh mh))) hv (.inr (.inr rfl)) hl λp9 m9 M5 g5 f9 e9 l9 r9=>?_;have n7:=ay L.box f7;have n8:=ay (L.ge g3).box f8;have n9:=ay ((L.ge g3).ge g4).box f9;have I5:SI b p7 p8 p9 m7 m8 m9 M M5:=⟨((L.ge g3).ge g4).ge g5,g5 _ _ (g4 _ _ e7),g5 _ _ e8,e9⟩;clear e7 e8 e9 x1 x2 f7 f8 f9 L g3 g4 g5;refine cw (I:=λρ' M'=>ρ'=[S (.ref b),S (.ref lA),S (.ref hA),S (.ref tA),S (.bl so),S (.int way),S (.int room),S (.ref p7),S (.ref p8),S (.ref p9),Z,Z,Z,Z]/\SI b p7 p8 p9 m7 m8 m9 M M') (λR Y=>?_) ?_
 ·ac_nf
  split
  ·refine⟨by rw[D0];lia,λpe O=>?_⟩
   have I6:=I5.ge (Ge.new (o:=.lst []) O);refine cY I6.a aa ⟨_,rfl,?_⟩
   by_cases c1:m7≠[]
   ·rw[decide_eq_true c1,if_pos rfl];refine⟨by rw[D0];lia,λHD Hf=>?_⟩
    have I7:=I6.ge (Ge.new (o:=.lst []) Hf);refine cY I7.c aa ?_;ac_nf
    split
    ·next c2=>
     nofun;refine cz J I7.x.box I7.a n7 c1 ∅ λr M8 hr x8=>?_
     have U:=I7.bx n7 n8 n9 x8;nofun;refine cz J U.x.box U.c n8 c2 ∅ λUm M9 F x9=>?_
     refine⟨by rw[D0];lia,?_⟩
     exact h (.tim room r Um) lA M9 ⟨(r7 r hr).1,(r8 Um F).1⟩ (λz=>⟨(r7 r hr).2 z,(r8 Um F).2 z⟩) (U.x.trans x9) trivial λ_ _ _ z=>by cases z
    ·exact Y _ _ ⟨rfl,I7⟩
   ·rw[decide_eq_false c1,if_neg (by decide)]
    exact Y _ _ ⟨rfl,I6⟩
  ·exact Y _ _ ⟨rfl,I5⟩
 rintro ρ M6 ⟨rfl,I6⟩;clear I5;refine cw (I:=λρ' M'=>ρ'=[S (.ref b),S (.ref lA),S (.ref hA),S (.ref tA),S (.bl so),S (.int way),S (.int room),S (.ref p7),S (.ref p8),S (.ref p9),Z,Z,Z,Z]/\SI b p7 p8 p9 m7 m8 m9 M M') (λR Y=>?_) ?_
 ·ac_nf
  split
  ·refine⟨by rw[D0];lia,λpe O=>?_⟩
   have I7:=I6.ge (Ge.new (o:=.lst []) O);refine cY I7.d aa ?_;ac_nf
   split
   ·next c2=>
    nofun;refine Hw I7.x.box λc M8 hc x8=>?_;have U:=I7.bx n7 n8 n9 x8;refine cz J U.x.box U.d n9 c2 ∅ λUm M9 F x9=>?_
    refine⟨by rw[D0];lia,?_⟩
    exact h (.put room c Um) lA M9 ⟨hc,(r9 Um F).1⟩ (λz=>(r9 Um F).2 z) (U.x.trans x9) trivial λ_ _ _ z=>by cases z
   ·exact Y _ _ ⟨rfl,I7⟩
  ·exact Y _ _ ⟨rfl,I6⟩
 rintro ρ M7 ⟨rfl,I7⟩;clear I6;refine cw (I:=λρ' M'=>ρ'=[S (.ref b),S (.ref lA),S (.ref hA),S (.ref tA),S (.bl so),S (.int way),S (.int room),S (.ref p7),S (.ref p8),S (.ref p9),Z,Z,Z,Z]/\SI b p7 p8 p9 m7 m8 m9 M M') (λR Y=>?_) ?_
 ·ac_nf
  split
  rotate_left
  split
  rotate_left
  ·exact Y _ _ ⟨rfl,I7⟩
  all_goals
   refine⟨by rw[D0];lia,λpe O=>?_⟩
   have U:=I7.ge (Ge.new (o:=.lst []) O);refine cY U.d aa ?_;ac_nf
   split
   ·next c2=>
    nofun;refine cz J U.x.box U.d n9 c2 ∅ λr M9 hr x9=>?_
    have I9:=U.bx n7 n8 n9 x9;nofun;refine Hw I9.x.box λc HE hc HF=>?_;have j:=I9.bx n7 n8 n9 HF;refine cz J j.x.box j.d n9 c2 ∅ λUm Hi F Hn=>?_
    refine⟨by rw[D0];lia,?_⟩
    exact h (.add r c Um) lA Hi ⟨(r9 r hr).1,hc,(r9 Um F).1⟩ (λz=>⟨(r9 r hr).2 z,(r9 Um F).2 z⟩) (j.x.trans Hn) trivial λ_ _ _ z=>by cases z
   ·exact Y _ _ ⟨rfl,U⟩
 rintro ρ M8 ⟨rfl,U⟩;clear I7;refine cw (I:=λρ' M'=>ρ'=[S (.ref b),S (.ref lA),S (.ref hA),S (.ref tA),S (.bl so),S (.int way),S (.int room),S (.ref p7),S (.ref p8),S (.ref p9),Z,Z,Z,Z]/\SI b p7 p8 p9 m7 m8 m9 M M') (λR Y=>?_) ?_
 ·ac_nf
  split
  ·intro pe O;have I9:=U.ge (Ge.new (o:=.dct Up []) O);refine⟨hA,pe,_,rfl,rfl,I9.x.keep _ _ nh mh,aa,?_⟩;refine⟨_,rfl,?_⟩;rw[B2]
   cases hh with
   |nil=>exact Y _ _ ⟨rfl,I9⟩
   |cons y hh=>
    rw[if_pos (by simp)]
    nofun;refine qz (I9.x.keep _ _ nh mh) hl λp ms hp hm=>?_;have j:=I9.ge (Ge.new (o:=.lst (ms.map .int)) hp);have np:=ay I9.x.box hp;refine⟨hA,_,rfl,j.x.keep _ _ nh mh,?_⟩;have HG:ms≠[]:=λz=>by rw[z]at hm;simpa using hm.length_eq
    have hlen:((y::hh).map (hD D.str)).length=(ms.map D.int).length:=by rw[B2,B2,hm.length_eq,B2]
    rw[hlen];have HH:ms.length<=1000:=by rw[hm.length_eq,B2];lia
    have key:=cz (Q:=λd M'=>ou [.str (i3 "empty"),d] M' Q) J j.x.box aa np HG HH λr Hi hr Hn=>?_
    ·obtain⟨a,n',e1,e2,e3⟩:=key
     cases e1
     have e4:=qi (ao (j.ge Ge.refl).d);have e5:gB (ag (ag M8 pe (.dct Up [])) p (.lst (ms.map .int))) (.ref p)=S (ms.map D.int).length:=qi (ao aa);rw[e5]at e2
     cases e2
     exact e3
    ·refine⟨by rw[D0];simp,?_⟩
     exact h (.emp r) lA Hi (hm.mem_iff.mp hr) (λ_=>trivial) (j.x.trans Hn) trivial λ_ _ _ z=>by cases z
  ·exact Y _ _ ⟨rfl,U⟩
 rintro ρ M9 ⟨rfl,I9⟩;clear U;nofun;have Hx:=I9.x.keep _ _ nl ml;have Hy:=I9.x.keep _ _ nt' mt;refine aw Hx (d:=.int L2) rfl ?_;refine⟨_,rfl,∅,∅,?_⟩
 rw[Lh];refine ba (I:=λl ρ M' acc=>∃(o:Option D) (fs:List Int),ρ=[o,S (.ref tA)]/\M'=M9/\acc=fs.map .int/\fs.length<=l.length/\∀k∈fs,0<=k/\k<L2/\k∉td) (ys:=L4 L2) cM ⟨Z,[],rfl,rfl,rfl,JL _,λ_ h=>by simp at h⟩ (λ_ _ _ _ _=>trivial) ?_ ?_
 ·rintro l y r ρ M' acc ey ⟨o,fs,rfl,rfl,rfl,Hz,Hj⟩;refine⟨_,rfl,λN' hN=>?_⟩;have hz:=aU ey;have hy:y<L2:=by have:y∈L4 L2:=(by rw[ey];simp);simpa using this
  rw[Nl]at hz;ac_nf;refine⟨td,ao Hy,?_⟩;refine⟨_,rfl,?_⟩
  by_cases c:(y:Int)∈td
  ·rw[decide_eq_true c,if_neg (by decide)]
   exact hN _ _ _ ⟨_,fs,rfl,rfl,rfl,by simp;lia,Hj⟩
  ·rw[decide_eq_false c,if_pos (by rfl)]
   refine⟨by rw[B2,D0];lia,hN _ _ _ ⟨_,fs++[(y:Int)],rfl,rfl,by simp,by simp;lia,λk hk=>?_⟩⟩
   rcases K0.mp hk with z|z
   ·exact Hj k z
   ·simp at z;subst z;exact⟨∅,∅,c⟩
 rintro ρ M' acc ⟨o,fs,rfl,rfl,rfl,Hz,Hj⟩ Hk hp11;rw[Nl]at Hz;have j:=I9.ge (Ge.new (o:=.lst (fs.map .int)) hp11);have HI:=ay I9.x.box hp11;have Ho:ag M' Hk (.lst (fs.map .int)) Hk=S (.lst (fs.map .int)):=aa;generalize ag M' Hk (.lst (fs.map .int))=HE at j Ho;clear I9 Hx Hy hp11;ac_nf;refine cw (I:=λρ' M'=>ρ'=[S (.ref b),S (.ref lA),S (.ref hA),S (.ref tA),S (.bl so),S (.int way),S (.int room),S (.ref p7),S (.ref p8),S (.ref p9),Z,S (.ref Hk),Z,Z]/\SI b p7 p8 p9 m7 m8 m9 M M') (λR Y=>?_) ?_
 ·ac_nf
  split
  ·refine⟨by rw[D0];lia,λpe O=>?_⟩
   have Hg:=j.ge (Ge.new (o:=.lst []) O);have HJ:=Ge.new (o:=.lst []) O _ _ Ho;refine cY Hg.d aa ⟨_,rfl,?_⟩
   by_cases c1:m9≠[]
   ·rw[decide_eq_true c1,if_pos rfl];refine⟨by rw[D0];lia,λHD Hf=>?_⟩
    have Hq:=Hg.ge (Ge.new (o:=.lst []) Hf);have HA:=Ge.new (o:=.lst []) Hf _ _ HJ;refine cY HA aa ?_;ac_nf
    split
    ·next c2=>
     nofun;refine cz J Hq.x.box HA HI c2 ∅ λr Hl hr HK=>?_
     have Hr:=Hq.bx n7 n8 n9 HK;nofun;refine cz J Hr.x.box Hr.d n9 c1 ∅ λUm HL F HM=>?_
     refine⟨by rw[D0];lia,?_⟩
     exact h (.tel r Um) lA HL ⟨Hj r hr,(r9 Um F).1⟩ (λz=>(r9 Um F).2 z) (Hr.x.trans HM) trivial λ_ _ _ z=>by cases z
    ·exact Y _ _ ⟨rfl,Hq⟩
   ·rw[decide_eq_false c1,if_neg (by decide)]
    exact Y _ _ ⟨rfl,Hg⟩
  ·exact Y _ _ ⟨rfl,j⟩
 rintro ρ Hi ⟨rfl,Hg⟩;clear j Ho;nofun;refine J Hg.x.box (by decide) (by decide) λside HP s0 s1 L=>?_
 have x1:=Hg.x.trans L;nofun;refine⟨by rw[D0];lia,λpl HN=>?_⟩
 have x2:=x1.ge (Ge.new (o:=.lst [.str (i3 "left"),.str (i3 "right")]) HN);have HB:=x2.keep _ _ nl ml;have hs:side=0∨side=1:=∅
 rcases hs with rfl|rfl
 ·refine aw aa (d:=.str (ws .l)) rfl ?_;refine aw HB (d:=.int L0) rfl ?_;refine Hv z0.1 z0.2 x2.box λps p Hl Hs Ht x3 Hh Hu=>?_;refine⟨by rw[D0];lia,?_⟩
  refine h (.lin Uo room ps) p Hl ⟨Hs,Ht⟩ (λ_=>trivial) (x2.trans x3) Hu λ_ _ _ _=>?_;exact x2.none Hh (ay x2.box Hh)
 ·refine aw aa (d:=.str (ws .r)) rfl ?_;refine aw HB (d:=.int L1) rfl ?_;refine Hv z1.1 z1.2 x2.box λps p Hl Hs Ht x3 Hh Hu=>?_;refine⟨by rw[D0];lia,?_⟩
  refine h (.lin Up room ps) p Hl ⟨Hs,Ht⟩ (λ_=>trivial) (x2.trans x3) Hu λ_ _ _ _=>?_;exact x2.none Hh (ay x2.box Hh)
end
section
variable{T:List FD}
inductive LP(so:Bool)(L0 L1 L2:Nat):List Sp->List (Int×Str)->List Int->Prop
 |nil:LP so L0 L1 L2 [] [] []
 |snoc {ss hh td x}:LP so L0 L1 L2 ss hh td->gk L0 L1 L2 (hh.map (·.1)) td x->(so=Uo->Db hh x)->LP so L0 L1 L2 (ss++[x]) (kn hh x) (nt td x)
theorem s8{j:List (Int×Str)}{x:Sp}(ok:gk L0 L1 L2 (j.map (·.1)) td x):(kn j x).map (·.1)=nk (j.map (·.1)) x:=by
 cases x<;>simp only[kn,nk,kH,qk]
 case add a c b=>rw[D9 ok.1]
theorem LP.prog{so:Bool}{ss:List Sp}{j:List (Int×Str)}(h:LP so L0 L1 L2 ss j td):j7 L0 L1 L2 ss (j.map (·.1)) td:=by
 induction h with
 |nil=>exact .nil
 |snoc h ok _ ih=>rw[s8 ok];exact .snoc ih ok
theorem LP.sorts{so:Bool}{ss:List Sp}{F:List (Int×Str)}(h:LP so L0 L1 L2 ss F td):(∀p∈F,de p.2)/\F.length<=ss.length/\td.length<=ss.length:=by
 induction h with
 |nil=>exact⟨λ_ h=>by simp at h,JL _,JL _⟩
 |@snoc ss F td x h ok _ ih=>
  obtain⟨z,J,L⟩:=ih;refine⟨λp j=>?_,?_,?_⟩
  ·cases x with
   |lin l r ps=>
    rcases eM j with rfl|j
    ·cases l
     ·exact .inr (.inl rfl)
     ·exact .inl rfl
    ·exact z p j
   |tim r a b=>
    rcases eM j with rfl|j
    ·exact .inr (.inr rfl)
    ·exact z p j
   |put r c b=>
    rcases eM j with rfl|j
    ·obtain⟨v,e,m⟩:=fP ok.2;show de ((ig F b).getD wpr);rw[e];exact z _ m
    ·exact z p j
   |add a c b=>exact z p j
   |emp a=>exact z p (ir j)
   |tel k b=>exact z p (ir j)
  ·rw[JG]
   cases x<;>simp only[kn]<;>first
    |exact Ka jP (by simpa using J)
    |exact Ka kJ (by simp;lia)
    |(simp;lia)
  ·rw[JG]
   cases x<;>simp[nt]<;>lia
def wF(T:List FD)(n f:Nat):Prop:=∀{b lA:Uq} {so:Bool} {L0 L1 L2 size:Nat} {M:Mem} {Q:QD},Box b M->M lA=S (.lst [.int L0,.int L1,.int L2])->lA≠b->(0<L0/\L0<=1000)->(0<L1/\L1<=1000)->L2<=1000->size<=50->
 (∀(xs:List Sq) hh td sA M',LP so L0 L1 L2 (xs.map (·.1)) hh td->xs.length<=size->(so=Up->tc (xs.map (·.1))<=4)->Bx b M M'->M sA=Z->PgI M' sA xs->(∀x∈xs,∀l r ps,x.1=.lin l r ps->M x.2=Z)->Q (.ref sA) M')->phi T n f [.ref b,.ref lA,.int size,.bl so] M Q
theorem Bk{fs fk:Nat}(hf:T[f]?=S (qy s hn fs fk))(Hj:qA T (n-1) fs)(Hk:wD T (n-1) fk)(h1:1<=n):wF T n f:=by
 intro b lA so L0 L1 L2 size M Q hb ml nl z0 z1 z2 hsz h;refine aB h1 hf rfl (ρ:=[S _,S _,S _,S _,Z,Z,Z,Z,Z,Z]) rfl ?_;unfold qy;nofun;intro J Hi;nofun;refine⟨by rw[D0];lia,λtA L=>?_⟩
 nofun;refine⟨by rw[D0];lia,λsA O=>?_⟩
 have e1:J≠tA:=λz=>by rw[<-z,aa]at L;cases L
 have Hh:M tA=Z:=by rw[ai (Ne.symm e1)]at L;exact L
 have e2:tA≠sA:=λz=>by rw[<-z,aa]at O;cases O
 have j:ag M J (.dct Up []) sA=Z:=by rw[ai (Ne.symm e2)]at O;exact O
 have e3:J≠sA:=λz=>by rw[<-z,aa]at j;cases j
 have U:M sA=Z:=by rw[ai (Ne.symm e3)]at j;exact j
 have nh:=ay hb Hi;have nt':=ay hb Hh;have ns:=ay hb U;have g0:=((Ge.new (o:=.dct Up []) Hi).trans (Ge.new (o:=.lst []) L)).trans (Ge.new (o:=.lst []) O);nofun;refine⟨∅,∅,?_⟩
 refine qf (I:=λl ρ M'=>∃(xs:List Sq) (hh:List (Int×Str)) (td:List Int) (o7 o8 o9:Option D),ρ=[S (.ref b),S (.ref lA),S (.int size),S (.bl so),S (.ref J),S (.ref tA),S (.ref sA),o7,o8,o9]/\Bx b M M'/\M' J=S (.dct Up (hh.map (hD .str)))/\M' tA=S (.lst (td.map .int))/\PgI M' sA xs /\
  LP so L0 L1 L2 (xs.map (·.1)) hh td/\xs.length<=l.length/\(so=Up->tc (xs.map (·.1))<=4)/\∀x∈xs,∀l r ps,x.1=.lin l r ps->M x.2=Z/\x.2≠J/\x.2≠tA/\x.2≠sA)
  ⟨[],[],[],Z,Z,Z,rfl,Bx.of hb g0,by rw[ai e3,ai e1];exact aa,by rw[ai e2];exact aa,⟨aa,λ_ h=>by simp at h⟩,.nil,JL _,λ_=>by simp[tc],λ_ h=>by simp at h⟩ (λ_ _ _ _=>trivial) ?_ ?_
 ·rintro l y r ρ M1 e ⟨xs,hh,td,o7,o8,o9,rfl,x1,m1,m2,m3,lp,hl,Hf,Y⟩;have Hl:=aU e;rw[ce,Lh]at Hl;obtain⟨s1,s2,s3⟩:=lp.sorts;rw[B2]at s2 s3;refine⟨_,rfl,λF hF=>?_⟩;nofun;refine Hj x1.box (x1.keep _ _ nl ml) m1 m2 nl nh nt' s1 ∅ z0 z1 z2 λx q M2 ok ty x2 sm fr=>?_
  have k1:=x2.keep _ _ nh m1;have k2:=x2.keep _ _ nt' m2;have k3:PgI M2 sA xs:=⟨x2.keep _ _ ns m3.l,λz hz=>by
   have:=m3.s z hz
   cases Um:z.1 with
   |lin l r ps=>rw[Um]at this;exact x2.keep _ _ (ay hb (Y z hz l r ps Um).1) this
   |_=>trivial⟩
  have Hm:=x1.trans x2;nofun;refine⟨_,ao k3.l,?_⟩;refine ba (I:=λl ρ M' acc=>∃o:Option D,ρ=[o]/\M'=M2/\acc=(l.filter λx:Sq=>aV x.1).map sqD) (ys:=xs) rfl ⟨Z,rfl,rfl,rfl⟩ ?_ ?_ ?_
  ·rintro l ρ M2 acc ⟨o,rfl,rfl,rfl⟩;exact ao k3.l
  ·rintro l x r ρ M2 acc e ⟨o,rfl,rfl,rfl⟩;refine⟨_,rfl,λN' hN=>?_⟩;ac_nf;have hz:=aU e;have Ho:(l.filter λx:Sq=>aV x.1).length<=l.length:=Nf ..;obtain⟨ds,e1⟩:=fQ x.2 x.1;have e2:sqD x=.tup (.str (ws (wd x.1))::ds):=e1;rw[e2];ac_nf;refine⟨_,eN,?_⟩;simp only[<-aT,aD];ac_nf;rw[<-e2]
   split
   ·next hw=>exact⟨by rw[B2,D0];lia,hN _ _ _ ⟨_,rfl,rfl,by rw[LH];simp[qo hw]⟩⟩
   ·next hw=>exact hN _ _ _ ⟨_,rfl,rfl,by rw[LH];simp[mH hw]⟩
  ·rintro ρ M2 acc ⟨o,rfl,rfl,rfl⟩ p1 hp1;have g2:=Ge.new (o:=.lst ((xs.filter fun x:Sq=>aV x.1).map sqD)) hp1;refine cc aa ?_;have etc:(List.map sqD (xs.filter fun x:Sq=>aV x.1)).length=tc (xs.map (·.1)):=by
    unfold tc;rw[B2,OW,B2];rfl
   rw[etc];have k1:=g2 _ _ k1;have k2:=g2 _ _ k2;have k3:=k3.ge g2;have sm:=cN sm g2;have Hg:=Hm.ge g2;generalize ag M2 p1 (.lst ((xs.filter λx:Sq=>aV x.1).map sqD))=M3 at k1 k2 k3 sm Hg;ac_nf;nofun;obtain⟨ds,ed⟩:=fQ q x;have app:(so=Up->tc (xs.map (·.1)++[x])<=4)->wSs (phi T (n-1)) (MSs.cons (.drop (.meth .append (.var 6) (.var 8))) (MSs.cons (.drop (.call fk (.cons (.var 8) (.cons (.var 4) (.cons (.var 5) .nil))))) .nil)) {nx:=F,rt:=Q,ct:=F,bk:=wSs (phi T (n-1)) (MSs.cons (MS.ret (ME.var 6)) MSs.nil) {nx:=λx M'=>Q D.non M',rt:=Q}}
    [S (.ref b),S (.ref lA),S (.int size),S (.bl so),S (.ref J),S (.ref tA),S (.ref sA),S y,S (spD q x),S (.int (tc (xs.map (·.1)):Nat))] M3:=by
    intro Hn;nofun;refine⟨⟨_,k3.l⟩,?_⟩;refine⟨sA,_,_,rfl,rfl,k3.l,by rw[B2,D0];lia,?_⟩
    nofun;have j1:ag M3 sA (.lst (xs.map sqD++[spD q x])) J=S (.dct Up (hh.map (hD .str))):=by rw[ai e3];exact k1
    have j2:ag M3 sA (.lst (xs.map sqD++[spD q x])) tA=S (.lst (td.map .int)):=by rw[ai e2];exact k2
    have nq:∀l r ps,x=.lin l r ps->M q=Z/\q≠J/\q≠tA/\q≠sA:=λl r ps hx=>by
     have f1:=fr l r ps hx;refine⟨x1.none f1 (ay x1.box f1),λz=>?_,λz=>?_,λz=>?_⟩
     ·rw[z,m1]at f1;cases f1
     ·rw[z,m2]at f1;cases f1
     ·rw[z,m3.l]at f1;cases f1
    have all:∀z∈xs++[(x,q)],spM M3 z.2 z.1/\∀l r ps,z.1=.lin l r ps->M z.2=Z/\z.2≠J/\z.2≠tA/\z.2≠sA:=λz hz=>by
     rcases K0.mp hz with w|w
     ·exact⟨k3.s z w,Y z w⟩
     ·simp at w;subst w;exact⟨sm,nq⟩
    refine Hk j1 j2 e1 ok ∅ ∅ λM4 q1 q2 q3 _=>?_
    have keep:∀a o,a≠J->a≠tA->a≠sA->M3 a=S o->M4 a=S o:=λa o a1 a2 a3 ea=>q3 a o a1 a2 (by rw[ai a3];exact ea)
    refine hF _ _ ⟨xs++[(x,q)],kn hh x,nt td x,_,_,_,rfl,⟨?_,λa o ab ea=>?_⟩,q1,q2,⟨?_,λz hz=>?_⟩,?_,by simp;lia,λz=>by rw[JX];exact Hn z,λz hz=>(all z hz).2⟩
    ·obtain⟨u,v,w,eb⟩:=Hg.box;exact⟨u,v,w,keep b _ (Ne.symm nh) (Ne.symm nt') (Ne.symm ns) eb⟩
    ·exact keep a o (λz=>by rw[z,Hi]at ea;cases ea) (λz=>by rw[z,Hh]at ea;cases ea) (λz=>by rw[z,U]at ea;cases ea) (Hg.keep a o ab ea)
    ·rw[JX];exact q3 sA _ (Ne.symm e3) (Ne.symm e2) aa
    ·obtain⟨s4,s5⟩:=all z hz
     cases Um:z.1 with
     |lin l r ps=>rw[Um]at s4;obtain⟨_,a1,a2,a3⟩:=s5 l r ps Um;exact keep _ _ a1 a2 a3 s4
     |_=>trivial
    ·rw[JX];exact .snoc lp ok ty
   rw[ed]at app⊢;ac_nf;refine⟨_,eN,?_⟩;simp only[<-aT,Ek];refine⟨_,rfl,?_⟩
   by_cases hw:wd x=.t
   ·rw[decide_eq_true hw,if_neg (by decide)]
    refine⟨so,rfl,?_⟩
    cases so with
    |true=>rw[if_pos rfl];exact app λz=>by cases z
    |false=>
     rw[if_neg (by decide)]
     split
     ·refine app λ_=>?_;rw[kK,qo hw];simp;lia
     ·rw[<-ed];exact hF _ _ ⟨xs,hh,td,_,_,_,rfl,Hg,k1,k2,k3,lp,by simp;lia,Hf,Y⟩
   ·rw[decide_eq_false hw,if_pos (by rfl)]
    refine app λz=>?_;rw[kK,mH hw];simpa using Hf z
 ·rintro ρ M1 ⟨xs,hh,td,o7,o8,o9,rfl,x1,m1,m2,m3,lp,hl,Hf,Y⟩;rw[ce,Lh]at hl;nofun;exact h xs hh td sA M1 lp hl Hf x1 U m3 λx hx l r ps e=>(Y x hx l r ps e).1
end
section
variable{T:List FD}
noncomputable def qB(L0 L1 L2:Nat)(td:List Int):Sp->Bool
 |.lin l _ ps=>ps.all λp=>decide (0<=p.2/\p.2<((if l then L0 else L1:Nat):Int))
 |.tel k _=>decide (0<=k/\k<(L2:Nat)/\k∉td)
 |_=>Uo
noncomputable def fq(L0 L1 L2:Nat)(ks td:List Int)(x:Sp):Bool:=(rr x).all (λr=>decide (r∈ks))&&qB L0 L1 L2 td x
noncomputable def eO:Sp->Prop
 |.lin _ _ ps=>ps.length<=20/\∀p∈ps,bW p.1
 |.put _ c _=>bW c
 |.add _ c _=>bW c
 |_=>True
theorem qC{x:Sp}(hn:eO x)(h:fq L0 L1 L2 ks td x=Uo):gk L0 L1 L2 ks td x:=by
 unfold fq at h;rw[i5,Lu]at h;obtain⟨h1,h2⟩:=h;have m:∀r∈rr x,r∈ks:=λr hr=>of_decide_eq_true (h1 r hr)
 cases x with
 |lin l r ps=>exact⟨hn.1,λp j=>⟨hn.2 p j,of_decide_eq_true (Lu.mp h2 p j)⟩⟩
 |tim r a b=>exact⟨m a (by simp[rr]),m b (by simp[rr])⟩
 |put r c b=>exact⟨hn,m b (by simp[rr])⟩
 |add a c b=>exact⟨m a (by simp[rr]),hn,m b (by simp[rr])⟩
 |emp a=>exact m a (by simp[rr])
 |tel k b=>exact⟨of_decide_eq_true h2,m b (by simp[rr])⟩
theorem all_map{α:Type}{f:α->Bool}{l:List α}(h:M p=S (.lst (l.map λc=>D.bl (f c))))(q:Q (.bl (l.all f)) M):oV [.ref p] M Q:=by
 have e:∀l:List α,aA tF (l.map λc=>D.bl (f c))=S (l.map f):=by
  intro l
  induction l with
  |nil=>rfl
  |cons x r ih=>rw[K7,aA,ih];rfl
 refine⟨_,_,_,rfl,ao h,e l,?_⟩;rw[Sa];exact q
theorem Bl{fr:Nat}{sr:Stmt}(hf:T[f]?=S (ua s fr))(Y:T[fr]?=S (iy sr))(hn:2<=n){x:Sp}{U tA:Uq}{tvs:List (D×D)}(mh:M U=S (.dct Up kvs))(mt:M tA=S (.dct Up tvs))(hk:∀r:Int,(dget kvs (.int r)).isSome=decide (r∈ks))(ht:∀r:Int,(dget tvs (.int r)).isSome=decide (r∈td))(ok:eO x)(sm:spM M q x)(h:∀M',Ge M M'->Q (.bl (fq L0 L1 L2 ks td x)) M'):phi T n f [spD q x,.ref U,.ref tA,.tup [.int L0,.int L1,.int L2]] M Q:=by
 refine aB ∅ hf rfl (ρ:=[S _,S _,S _,S _,Z,Z,Z,Z]) rfl ?_
 unfold ua;nofun;obtain⟨ds,e⟩:=fQ q x;nofun;rw[e];ac_nf;refine⟨_,eN,?_⟩;nofun;rw[<-e];refine yY Y ∅ λp hp=>?_
 have g1:=Ge.new (o:=.lst ((rr x).map .int)) hp;refine⟨_,ao aa,?_⟩;refine ba (I:=λl ρ M' acc=>∃o:Option D,ρ=[o,S (.ref U)]/\M'=ag M p (.lst ((rr x).map .int))/\acc=l.map λr=>.bl (decide (r∈ks))) (ys:=rr x) rfl ⟨Z,rfl,rfl,rfl⟩ ?_ ?_ ?_
 ·rintro l ρ M' acc ⟨o,rfl,rfl,rfl⟩;exact ao aa
 ·rintro l y r ρ M' acc ey ⟨o,rfl,rfl,rfl⟩;refine⟨_,rfl,λN' F=>?_⟩;ac_nf;refine⟨U,Up,kvs,rfl,.inl (g1 _ _ mh),rfl,?_⟩;rw[if_neg q7,hk];refine⟨?_,F _ _ _ ⟨_,rfl,rfl,?_⟩⟩
  ·have:=aU ey;have h2:(rr x).length<=2:=by cases x<;>simp[rr]
   rw[B2,D0];lia
  ·rw[JX];rfl
 ·rintro ρ M' acc ⟨o,rfl,rfl,rfl⟩ p2 hp2;have g2:=g1.trans (Ge.new (o:=.lst ((rr x).map λr=>.bl (decide (r∈ks)))) hp2);refine all_map (f:=λr:Int=>decide (r∈ks)) aa ?_;generalize ag (ag M p (.lst ((rr x).map .int))) p2 (.lst ((rr x).map λr=>.bl (decide (r∈ks))))=M2 at g2;have j:=h M2 g2;unfold fq at h j
  cases hr:(rr x).all λr=>decide (r∈ks)with
  |false=>
   refine⟨Up,rfl,?_⟩;rw[if_pos (by decide)]
   nofun;rw[hr]at j;exact j
  |true=>
  refine⟨Uo,rfl,?_⟩;rw[if_neg (by decide)]
  rw[hr,Rm]at h j;have Um:=cN sm g2
  cases x with
  |lin l r ps=>
   have pl:=ok.1;have mq:M2 q=S (.lst (ps.map ptD)):=Um
   cases l
   ·iterate 2
     nofun;simp only[<-aK,<-aM,<-aT,<-aY,<-aZ,<-b3,<-aW,wd,lr,aD,reduceCtorEq,decide_false,decide_true];ac_nf
     try rw[ax]
    unfold spD;nofun;refine⟨_,rfl,_,ao mq,?_⟩;refine ba (I:=λl ρ M' acc=>∃o z:Option D,ρ=[o,z,S (.int L1)]/\M'=M2/\acc=l.map λp=>.bl (decide (0<=p.2/\p.2<(L1:Int)))) (ys:=ps) rfl ⟨Z,Z,rfl,rfl,rfl⟩ ?_ ?_ ?_
    ·rintro l ρ M' acc ⟨o,z,rfl,rfl,rfl⟩;exact ao mq
    ·rintro l y r ρ M' acc ey ⟨o,z,rfl,rfl,rfl⟩;refine⟨_,rfl,λN' F=>?_⟩;ac_nf;have:=aU ey;have sz:(l.map λp=>D.bl (decide (0<=p.2/\p.2<(L1:Int)))).length<D2:=by rw[B2,D0];lia
     split
     ·next J=>exact⟨sz,F _ _ _ ⟨_,_,rfl,rfl,by rw[JX];simp[J]⟩⟩
     ·next J=>exact⟨sz,F _ _ _ ⟨_,_,rfl,rfl,by rw[JX];simp[J]⟩⟩
    ·rintro ρ M' acc ⟨o,z,rfl,rfl,rfl⟩ p3 hp3;exact all_map (f:=λp:Int×Int=>decide (0<=p.2/\p.2<(L1:Int))) aa (h _ (g2.trans (Ge.new hp3)))
   ·iterate 1
     nofun;simp only[<-aK,<-aM,<-aT,<-aY,<-aZ,<-b3,<-aW,wd,lr,aD,reduceCtorEq,decide_false,decide_true];ac_nf
     try rw[ax]
    unfold spD;nofun;refine⟨_,rfl,_,ao mq,?_⟩;refine ba (I:=λl ρ M' acc=>∃o z:Option D,ρ=[o,z,S (.int L0)]/\M'=M2/\acc=l.map λp=>.bl (decide (0<=p.2/\p.2<(L0:Int)))) (ys:=ps) rfl ⟨Z,Z,rfl,rfl,rfl⟩ ?_ ?_ ?_
    ·rintro l ρ M' acc ⟨o,z,rfl,rfl,rfl⟩;exact ao mq
    ·rintro l y r ρ M' acc ey ⟨o,z,rfl,rfl,rfl⟩;refine⟨_,rfl,λN' F=>?_⟩;ac_nf;have:=aU ey;have sz:(l.map λp=>D.bl (decide (0<=p.2/\p.2<(L0:Int)))).length<D2:=by rw[B2,D0];lia
     split
     ·next J=>exact⟨sz,F _ _ _ ⟨_,_,rfl,rfl,by rw[JX];simp[J]⟩⟩
     ·next J=>exact⟨sz,F _ _ _ ⟨_,_,rfl,rfl,by rw[JX];simp[J]⟩⟩
    ·rintro ρ M' acc ⟨o,z,rfl,rfl,rfl⟩ p3 hp3;exact all_map (f:=λp:Int×Int=>decide (0<=p.2/\p.2<(L0:Int))) aa (h _ (g2.trans (Ge.new hp3)))
  |tel k b=>
   iterate 3
    nofun;simp only[<-aK,<-aM,<-aT,<-aY,<-aZ,<-b3,<-aW,wd,lr,aD,reduceCtorEq,decide_false,decide_true];ac_nf
    try rw[ax]
   unfold spD;nofun;refine⟨_,rfl,?_⟩;ac_nf;replace j:Q (.bl (decide (0<=k/\k<(L2:Nat)/\k∉td))) M2:=j
   split
   ·next k0=>
    split
    ·next k1=>
     refine⟨_,rfl,tA,Up,tvs,rfl,.inl (g2 _ _ mt),rfl,?_⟩;rw[if_pos rfl,ht];have O:(!decide (k∈td))=decide (0<=k/\k<(L2:Nat)/\k∉td):=by
      have L:k<(L2:Nat):=by simpa using k1
      by_cases h9:k∈td<;>simp[k0,L,h9]
     rw[O];exact j
    ·next k1=>
     have L:¬k<(L2:Nat):=by simpa using k1
     have O:Up=decide (0<=k/\k<(L2:Nat)/\k∉td):=by simp[L]
     rw[<-O]at j;exact j
   ·next k0=>
    have O:Up=decide (0<=k/\k<(L2:Nat)/\k∉td):=by
     have Hf:¬0<=k:=by simpa using k0
     simp[Hf]
    rw[<-O]at j;exact j
  |tim r a b=>
   iterate 3
    nofun;simp only[<-aK,<-aM,<-aT,<-aY,<-aZ,<-b3,<-aW,wd,lr,aD,reduceCtorEq,decide_false,decide_true];ac_nf
    try rw[ax]
   nofun;exact j
  |put r c b=>
   iterate 3
    nofun;simp only[<-aK,<-aM,<-aT,<-aY,<-aZ,<-b3,<-aW,wd,lr,aD,reduceCtorEq,decide_false,decide_true];ac_nf
    try rw[ax]
   nofun;exact j
  |add a c b=>
   iterate 3
    nofun;simp only[<-aK,<-aM,<-aT,<-aY,<-aZ,<-b3,<-aW,wd,lr,aD,reduceCtorEq,decide_false,decide_true];ac_nf
    try rw[ax]
   nofun;exact j
  |emp a=>
   iterate 3
    nofun;simp only[<-aK,<-aM,<-aT,<-aY,<-aZ,<-b3,<-aW,wd,lr,aD,reduceCtorEq,decide_false,decide_true];ac_nf
    try rw[ax]
   nofun;exact j
end
section
namespace K26
noncomputable def am(i:Nat):Stmt:=PySem.Challenge.pw_fewtimes_k26_steps_that_can_not_be_done.main.body.getD i (.Pass ⟨0,0,0,0⟩)
noncomputable def d0:FD:=iy (am 6)
noncomputable def d1:FD:=ua (am 7) 0
noncomputable def d2:FD:=iz (am 8)
noncomputable def d3:FD:=yX (am 9) 2
noncomputable def d4:FD:=kL (am 10)
noncomputable def b5:MSs:=
 (.cons (.asg (.name 4) (.tup (.cons (.blt .len (.cons (.var 1) .nil)) (.cons (.blt .len (.cons (.var 2) .nil)) (.cons (.var 3) .nil)))))
 (.cons (.asg (.tup (.cons (.name 5) (.cons (.name 6) (.cons (.name 7) .nil)))) (.tup (.cons (.dnew Up) (.cons (.dnew Up) (.cons (.int 0) .nil)))))
 (.cons (.for (.tup (.cons (.name 8) (.cons (.name 9) .nil))) (.enum (.var 0)) (.cons (.ite (.not (.tru (.call 1 (.cons (.var 9) (.cons (.var 5) (.cons (.var 6) (.cons (.var 4) .nil))))))) (.cons .bot
 .nil) .nil)
 (.cons (.drop (.call 3 (.cons (.var 9) (.cons (.var 5) (.cons (.var 6) (.cons (.var 1) (.cons (.var 2) .nil)))))))
 (.cons (.asg (.name 7) (.blt .max2 (.cons (.var 7) (.cons (.blt .lenK (.cons (.var 5) .nil)) .nil))))
 .nil))))
 (.cons (.asg (.name 10) (.blt .len (.cons (.comp [Z] ["step"] (.last (.seq (.var 0)) (.name 0) (.cons (.cmp .eq (.ix (.var 0) (.int 0)) (.str (i3 "times"))) .nil) (.var 0))) .nil)))
 (.cons (.ret (.tup (.cons (.comp [Z,(S 6)] ["k","told"] (.last (.rng1 (.var 3)) (.name 0) .nil (.dget (.var 1) (.var 0) (.int 0)))) (.cons (.var 10) (.cons (.blt .sum (.cons (.comp [Z] ["step"] (.last (.seq (.var 0)) (.name 0) .nil (.call 4 (.cons (.var 0) .nil)))) .nil)) (.cons (.var 7) .nil))))))
 .nil)))))
noncomputable def d5:FD:=⟨"run_program",am 11,["program","one","other","many","lengths","held","told","most","at","step","times"],4,b5⟩
noncomputable def d6:FD:=jM (am 13)
noncomputable def d7:FD:=kF (am 14)
noncomputable def d8:FD:=tZ (am 15) 6 7
noncomputable def d9:FD:=qg (am 16) 7
noncomputable def d10:FD:=j6 (am 17) 9
noncomputable def d11:FD:=u5 (am 18) 9
noncomputable def d12:FD:=qq (am 19) 9
noncomputable def d13:FD:=qy (am 20) "_law_held" 19 14
noncomputable def d14:FD:=qr (am 21) "_law_held"
noncomputable def d15:FD:=qt (am 22) 9
noncomputable def d16:FD:=kM (am 23) 9 17
noncomputable def d17:FD:=j9 (am 24) 9 10
noncomputable def d18:FD:=qv (am 25) "_law_held"
noncomputable def d19:FD:=qw (am 26) "_law_held" 9 15 16 17 18
noncomputable def b20:MSs:=
 (.cons (.ret (.call 12 (.cons (.var 0) (.cons (.int 5) .nil))))
 .nil)
noncomputable def d20:FD:=⟨"_law_sizes",am 27,["_law_box_here"],1,b20⟩
noncomputable def b21:MSs:=
 (.cons (.par3 2 3 4 (.bin .add (.int 500) (.call 9 (.cons (.var 0) (.cons (.int 9) .nil)))) (.call 9 (.cons (.var 0) (.cons (.int 4) .nil))) (.call 9 (.cons (.var 0) (.cons (.ix (.var 1) (.int 2)) .nil))))
 (.cons (.asg (.name 5) (.lst (.cons (.lst (.cons (.ix (.var 1) (.int 0)) (.cons (.neg (.int 1)) (.cons (.bin .add (.ix (.var 1) (.int 0)) (.int 3)) .nil)))) (.cons (.lst (.cons (.ix (.var 1) (.int 1)) (.cons (.neg (.int 1)) (.cons (.bin .add (.ix (.var 1) (.int 1)) (.int 3)) .nil)))) (.cons (.lst (.cons (.ix (.var 1) (.int 2)) (.cons (.neg (.int 1)) (.cons (.int 99) .nil)))) .nil)))))
 (.cons (.asg (.name 6) (.call 9 (.cons (.var 0) (.cons (.int 3) .nil))))
 (.cons (.asg (.name 7) (.lst (.cons (.tup (.cons (.str (i3 "times")) (.cons (.var 3) (.cons (.var 2) (.cons (.var 3) .nil))))) (.cons (.tup (.cons (.str (i3 "times")) (.cons (.var 3) (.cons (.var 3) (.cons (.var 2) .nil))))) (.cons (.tup (.cons (.str (i3 "put")) (.cons (.var 3) (.cons (.int 2) (.cons (.var 2) .nil))))) .nil)))))
 (.cons (.asg (.name 7) (.bin .add (.var 7) (.lst (.cons (.tup (.cons (.str (i3 "add")) (.cons (.var 2) (.cons (.int 1) (.cons (.var 3) .nil))))) (.cons (.tup (.cons (.str (i3 "add")) (.cons (.var 3) (.cons (.int 1) (.cons (.var 2) .nil))))) (.cons (.tup (.cons (.str (i3 "empty")) (.cons (.var 2) .nil))) .nil))))))
 (.cons (.asg (.name 7) (.bin .add (.var 7) (.lst (.cons (.tup (.cons (.str (i3 "tell")) (.cons (.var 4) (.cons (.var 2) .nil)))) (.cons (.tup (.cons (.str (i3 "tell")) (.cons (.ix (.ix (.var 5) (.int 2)) (.var 6)) (.cons (.var 3) .nil)))) .nil)))))
 (.cons (.asg (.name 7) (.bin .add (.var 7) (.lst (.cons (.tup (.cons (.str (i3 "left")) (.cons (.var 3) (.cons (.lst (.cons (.tup (.cons (.int 1) (.cons (.int 0) .nil))) (.cons (.tup (.cons (.int 0) (.cons (.ix (.ix (.var 5) (.int 0)) (.var 6)) .nil))) .nil))) .nil)))) (.cons (.tup (.cons (.str (i3 "right")) (.cons (.var 3) (.cons (.lst (.cons (.tup (.cons (.int 1) (.cons (.ix (.ix (.var 5) (.int 1)) (.var 6)) .nil))) .nil)) .nil)))) (.cons (.tup (.cons (.str (i3 "tell")) (.cons (.var 4) (.cons (.var 3) .nil)))) .nil))))))
 (.cons (.ret (.ix (.var 7) (.call 9 (.cons (.var 0) (.cons (.blt .len (.cons (.var 7) .nil)) .nil)))))
 .nil))))))))
noncomputable def d21:FD:=⟨"_law_odd",am 28,["_law_box_here","_law_lengths_here","_law_empty","_law_room_here","_law_k","_law_far","_law_at","_law_some"],2,b21⟩
noncomputable def b22:MSs:=
 (.cons (.asg (.tup (.cons (.name 2) (.cons (.name 3) .nil))) (.tup (.cons (.dnew Up) (.cons (.lst .nil) .nil))))
 (.cons (.for (.tup (.cons (.name 4) (.cons (.name 5) .nil))) (.enum (.var 0)) (.cons (.asg (.name 6) (.dget (.disp (.cons (.str (i3 "times")) (.cons (.lst (.cons (.int 2) (.cons (.int 3) .nil))) (.cons (.str (i3 "put")) (.cons (.lst (.cons (.int 3) .nil)) (.cons (.str (i3 "add")) (.cons (.lst (.cons (.int 1) (.cons (.int 3) .nil))) (.cons (.str (i3 "empty")) (.cons (.lst (.cons (.int 1) .nil)) (.cons (.str (i3 "tell")) (.cons (.lst (.cons (.int 2) .nil)) .nil))))))))))) (.ix (.var 5) (.int 0)) (.lst .nil)))
 (.cons (.ite (.not (.tru (.blt .all (.cons (.comp [Z,(S 5),(S 2)] ["_law_at","_law_step_here","_law_held"] (.last (.seq (.var 6)) (.name 0) .nil (.cmp .inD (.ix (.var 1) (.var 0)) (.var 2)))) .nil)))) (.cons (.ret (.var 4))
 .nil) .nil)
 (.cons (.ite (.and (.cons (.cmp .eq (.ix (.var 5) (.int 0)) (.str (i3 "tell"))) (.cons (.or (.cons (.cmp .inS (.ix (.var 5) (.int 1)) (.var 3)) (.cons (.not (.chain .le .lt (.int 0) (.ix (.var 5) (.int 1)) (.ix (.var 1) (.int 2)))) .nil))) .nil))) (.cons (.ret (.var 4))
 .nil) .nil)
 (.cons (.ite (.cmp .inT (.ix (.var 5) (.int 0)) (.tup (.cons (.str (i3 "left")) (.cons (.str (i3 "right")) .nil)))) (.cons (.asg (.name 7) (.ix (.var 1) (.blt .int (.cons (.cmp .eq (.ix (.var 5) (.int 0)) (.str (i3 "right"))) .nil))))
 (.cons (.ite (.not (.tru (.blt .all (.cons (.comp [Z,Z,(S 7)] ["_law_number_here","_law_at","_law_length"] (.last (.seq (.ix (.var 5) (.int 2))) (.tup (.cons (.name 0) (.cons (.name 1) .nil))) .nil (.chain .le .lt (.int 0) (.var 1) (.var 2)))) .nil)))) (.cons (.ret (.var 4))
 .nil) .nil)
 .nil)) .nil)
 (.cons (.drop (.call 14 (.cons (.var 5) (.cons (.var 2) (.cons (.var 3) .nil)))))
 .nil))))))
 (.cons (.ret .non)
 .nil)))
noncomputable def d22:FD:=⟨"_law_first",am 29,["_law_program_here","_law_lengths_here","_law_held","_law_told","_law_place","_law_step_here","_law_reads","_law_length"],2,b22⟩
noncomputable def b23:MSs:=(.cons (.asg (.name 3) .non) (.cons (.asg (.name 3) (.call 25 (.cons (.var 0) (.cons (.ix (.var 2) (.int 0)) (.cons (.ix (.var 2) (.int 1)) (.cons (.ix (.var 1) (.int 2)) .nil)))))) (.cons (.ite (.cmp .is (.var 3) .non) (.cons (.ret .non) .nil) .nil) (.cons (.asg (.tup (.cons (.name 3) .nil)) (.var 3)) (.cons (.ret (.var 3)) .nil)))))
noncomputable def d23:FD:=⟨"_law_refused",am 30,["_law_program_here","_law_lengths_here","_law_rows","_law_caught","error"],3,b23⟩
noncomputable def b24:MSs:=
 (.cons (.for (.name 1) (.rng1 (.blt .max2 (.cons (.int 1) (.cons (.blt .min2 (.cons (.blt .len (.cons (.var 0) .nil)) (.cons (.int 6) .nil))) .nil)))) (.cons (.asg (.name 2) (.call 8 (.cons (.var 0) (.cons (.var 1) .nil))))
 (.cons (.asg (.name 3) (.call 20 (.cons (.var 2) .nil)))
 (.cons (.asg (.name 4) (.call 13 (.cons (.var 2) (.cons (.var 3) (.cons (.call 9 (.cons (.var 2) (.cons (.int 21) .nil))) (.cons (.bl Up) .nil))))))
 (.cons (.asg (.name 5) (.lst (.cons (.call 11 (.cons (.var 2) (.cons (.ix (.var 3) (.int 0)) .nil))) (.cons (.call 11 (.cons (.var 2) (.cons (.ix (.var 3) (.int 1)) .nil))) .nil))))
 (.cons (.ite (.cmp .isn (.call 23 (.cons (.var 4) (.cons (.var 3) (.cons (.var 5) .nil)))) .non) (.cons (.ret (.bl Up))
 .nil) .nil)
 (.cons (.for (.name 6) (.rng1 (.int 4)) (.cons (.asg (.name 7) (.blt .list (.cons (.var 4) .nil)))
 (.cons (.for (.name 8) (.rng1 (.bin .add (.int 1) (.blt .int (.cons (.cmp .eq (.call 9 (.cons (.var 2) (.cons (.int 4) .nil))) (.int 0)) .nil)))) (.cons (.drop (.ins (.var 7) (.call 9 (.cons (.var 2) (.cons (.bin .add (.blt .len (.cons (.var 7) .nil)) (.int 1)) .nil))) (.call 21 (.cons (.var 2) (.cons (.var 3) .nil)))))
 .nil))
 (.cons (.asg (.name 9) (.blt .list (.cons (.var 7) .nil)))
 (.cons (.asg (.name 10) (.call 23 (.cons (.var 9) (.cons (.var 3) (.cons (.var 5) .nil)))))
 (.cons (.ite (.or (.cons (.tru (.isin (.var 10) "bool")) (.cons (.cmp .ne (.var 10) (.call 22 (.cons (.var 7) (.cons (.var 3) .nil)))) (.cons (.cmp .ne (.var 9) (.var 7)) .nil)))) (.cons (.ret (.bl Up))
 .nil) .nil)
 .nil))))))
 .nil)))))))
 (.cons (.ret (.bl Uo))
 .nil))
noncomputable def d24:FD:=⟨"law",am 31,["_law_script","_law_k","_law_box_here","_law_lengths_here","_law_program_here","_law_rows","_law_turn","_law_bent","_law_more","_law_handed","_law_found"],1,b24⟩
noncomputable def b25:MSs:=
 (.cons (.asg (.name 4) (.tup (.cons (.blt .len (.cons (.var 1) .nil)) (.cons (.blt .len (.cons (.var 2) .nil)) (.cons (.var 3) .nil)))))
 (.cons (.asg (.tup (.cons (.name 5) (.cons (.name 6) (.cons (.name 7) .nil)))) (.tup (.cons (.dnew Up) (.cons (.dnew Up) (.cons (.int 0) .nil)))))
 (.cons (.for (.tup (.cons (.name 8) (.cons (.name 9) .nil))) (.enum (.var 0)) (.cons (.ite (.not (.tru (.call 1 (.cons (.var 9) (.cons (.var 5) (.cons (.var 6) (.cons (.var 4) .nil))))))) (.cons (.ite (.chain .le .le (.int 0) (.var 8) (.int 1000)) (.cons (.ret (.tup (.cons (.var 8) .nil))) .nil) (.cons .bot .nil)) .nil) .nil)
 (.cons (.drop (.call 3 (.cons (.var 9) (.cons (.var 5) (.cons (.var 6) (.cons (.var 1) (.cons (.var 2) .nil)))))))
 (.cons (.asg (.name 7) (.blt .max2 (.cons (.var 7) (.cons (.blt .lenK (.cons (.var 5) .nil)) .nil))))
 .nil))))
 (.cons (.asg (.name 10) (.blt .len (.cons (.comp [Z] ["step"] (.last (.seq (.var 0)) (.name 0) (.cons (.cmp .eq (.ix (.var 0) (.int 0)) (.str (i3 "times"))) .nil) (.var 0))) .nil)))
 (.cons (.asg (.name 10) (.tup (.cons (.comp [Z,(S 6)] ["k","told"] (.last (.rng1 (.var 3)) (.name 0) .nil (.dget (.var 1) (.var 0) (.int 0)))) (.cons (.var 10) (.cons (.blt .sum (.cons (.comp [Z] ["step"] (.last (.seq (.var 0)) (.name 0) .nil (.call 4 (.cons (.var 0) .nil)))) .nil)) (.cons (.var 7) .nil)))))) (.cons (.ret .non) .nil))))))
noncomputable def d25:FD:=⟨"run_program",am 11,["program","one","other","many","lengths","held","told","most","at","step","times"],4,b25⟩
noncomputable def tab:List FD:=[d0,d1,d2,d3,d4,d5,d6,d7,d8,d9,d10,d11,d12,d13,d14,d15,d16,d17,d18,d19,d20,d21,d22,d23,d24,d25]
noncomputable def qD:List (Str×D):=[]
theorem zK(us:List h6)(h:us.length=5):∃a b c d e,us=[a,b,c,d,e]:=by
 cases us with
 |nil=>cases h
 |cons a us=>obtain⟨b,c,d,e,rfl⟩:=jL us (TJ.inj h);exact⟨a,b,c,d,e,rfl⟩
noncomputable def xsF:List XL:=[.one (.pl (.asg (.name 4) (.tup (.cons (.blt .len (.cons (.var 1) .nil)) (.cons (.blt .len (.cons (.var 2) .nil)) (.cons (.var 3) .nil)))))),
 .one (.pl (.asg (.tup (.cons (.name 5) (.cons (.name 6) (.cons (.name 7) .nil)))) (.tup (.cons (.dnew Up) (.cons (.dnew Up) (.cons (.int 0) .nil)))))),
 .loop (.tup (.cons (.name 8) (.cons (.name 9) .nil))) (.enum (.var 0)) [.rs (.not (.tru (.call 1 (.cons (.var 9) (.cons (.var 5) (.cons (.var 6) (.cons (.var 4) .nil))))))) (.var 8),
 .pl (.drop (.call 3 (.cons (.var 9) (.cons (.var 5) (.cons (.var 6) (.cons (.var 1) (.cons (.var 2) .nil))))))),
 .pl (.asg (.name 7) (.blt .max2 (.cons (.var 7) (.cons (.blt .lenK (.cons (.var 5) .nil)) .nil))))],
 .one (.pl (.asg (.name 10) (.blt .len (.cons (.comp [Z] ["step"] (.last (.seq (.var 0)) (.name 0) (.cons (.cmp .eq (.ix (.var 0) (.int 0)) (.str (i3 "times"))) .nil) (.var 0))) .nil))))]
noncomputable def vF:ME:=(.tup (.cons (.comp [Z,(S 6)] ["k","told"] (.last (.rng1 (.var 3)) (.name 0) .nil (.dget (.var 1) (.var 0) (.int 0)))) (.cons (.var 10) (.cons (.blt .sum (.cons (.comp [Z] ["step"] (.last (.seq (.var 0)) (.name 0) .nil (.call 4 (.cons (.var 0) .nil)))) .nil)) (.cons (.var 7) .nil)))))
noncomputable def stI:Stmt:=CW (am 2) 0
end K26
end
section
namespace K26
theorem Dc:((L4 25).all λi=>i==23 || (tab[i]?).all (kB ((tab.take 25).map (·.name)) qD))=Uo:=by decide +kernel
noncomputable abbrev PA(K:Frag)(x:Str)(f:Uq):Prop:=ND K KR x=S (S (.ref f))
noncomputable abbrev PL(K:Frag)(f:Uq)(x:Str)(s:Stmt)(oc:h6)(od:Option Uq)(kV dc pm:h6)(an:Option Uq)(cd ct:h6)(sl:Array (Option h6)):Prop:=K.lookup f=S ⟨oc,od,.func (Ms x x (cR s) (bE s) (al s) .none kV dc pm an cd ct),sl⟩
noncomputable abbrev PC(K:Frag)(c:h6)(x:Str):Prop:=P8 K c x=Uo
noncomputable abbrev PK(K:Frag)(f:Uq):Prop:=Lw K (.ref f)=Uo
noncomputable abbrev PLI(K:Frag)(f:Uq)(x q:Str)(s:Stmt)(oc:h6)(od:Option Uq)(kV dc pm:h6)(an:Option Uq)(cd ct:h6)(sl:Array (Option h6)):Prop:=K.lookup f=S ⟨oc,od,.func (Ms x q (cR s) (bE s) (al s) .none kV dc pm an cd ct),sl⟩
theorem all_mk{l:QA}{w:K8}{K:Frag}{h:Heap}{mg:Str->Option h6}{fa:Uq}(X:K.In h)(G:h.Ns KR mg)(hfa:mg "law"=S (.ref fa))(z:∀x∈bltNames,ND K KR x=S Z)(a0:PA K "rooms_read" f0)(l0:PL K f0 "rooms_read" (am 6) oc0 od0 kV0 dc0 pm0 an0 cd0 ct0 sl0)(c0:PC K cd0 "rooms_read")(k0:PK K f0)(a1:PA K "can_be_done" f1)(l1:PL K f1 "can_be_done" (am 7) oc1 od1 kV1 dc1 pm1 an1 cd1 ct1 sl1)(c1:PC K cd1 "can_be_done")(k1:PK K f1)(a2:PA K "sum_of" f2)(l2:PL K f2 "sum_of" (am 8) oc2 od2 kV2 dc2 pm2 an2 cd2 ct2 sl2)(c2:PC K cd2 "sum_of")(k2:PK K f2)(a3:PA K "do_step" f3)(l3:PL K f3 "do_step" (am 9) oc3 od3 kV3 dc3 pm3 an3 cd3 ct3 sl3)(c3:PC K cd3 "do_step")(k3:PK K f3)(a4:PA K "sums_of" f4)(l4:PL K f4 "sums_of" (am 10) oc4 od4 kV4 dc4 pm4 an4 cd4 ct4 sl4)(c4:PC K cd4 "sums_of")(k4:PK K f4)(a5:PA K "run_program" f5)(l5:PL K f5 "run_program" (am 11) oc5 od5 kV5 dc5 pm5 an5 cd5 ct5 sl5)(c5:PC K cd5 "run_program")(k5:PK K f5)(a6:PA K "_law_cell_at" f6)(l6:PL K f6 "_law_cell_at" (am 13) oc6 od6 kV6 dc6 pm6 an6 cd6 ct6 sl6)(c6:PC K cd6 "_law_cell_at")(k6:PK K f6)(a7:PA K "_law_mixed" f7)(l7:PL K f7 "_law_mixed" (am 14) oc7 od7 kV7 dc7 pm7 an7 cd7 ct7 sl7)(c7:PC K cd7 "_law_mixed")(k7:PK K f7)(a8:PA K "_law_box" f8)(l8:PL K f8 "_law_box" (am 15) oc8 od8 kV8 dc8 pm8 an8 cd8 ct8 sl8)(c8:PC K cd8 "_law_box")(k8:PK K f8)(a9:PA K "_law_take" f9)(l9:PL K f9 "_law_take" (am 16) oc9 od9 kV9 dc9 pm9 an9 cd9 ct9 sl9)(c9:PC K cd9 "_law_take")(k9:PK K f9)(a10:PA K "_law_number" f10)(l10:PL K f10 "_law_number" (am 17) oc10 od10 kV10 dc10 pm10 an10 cd10 ct10 sl10)(c10:PC K cd10 "_law_number")(k10:PK K f10)(a11:PA K "_law_row" f11)(l11:PL K f11 "_law_row" (am 18) oc11 od11 kV11 dc11 pm11 an11 cd11 ct11 sl11)(c11:PC K cd11 "_law_row")(k11:PK K f11)(a12:PA K "_law_lengths" f12)(l12:PL K f12 "_law_lengths" (am 19) oc12 od12 kV12 dc12 pm12 an12 cd12 ct12 sl12)(c12:PC K cd12 "_law_lengths")(k12:PK K f12)(a13:PA K "_law_program" f13)(l13:PL K f13 "_law_program" (am 20) oc13 od13 kV13 dc13 pm13 an13 cd13 ct13 sl13)(c13:PC K cd13 "_law_program")(k13:PK K f13)(a14:PA K "_law_kept" f14)(l14:PL K f14 "_law_kept" (am 21) oc14 od14 kV14 dc14 pm14 an14 cd14 ct14 sl14)(c14:PC K cd14 "_law_kept")(k14:PK K f14)(a15:PA K "_law_room" f15)(l15:PL K f15 "_law_room" (am 22) oc15 od15 kV15 dc15 pm15 an15 cd15 ct15 sl15)(c15:PC K cd15 "_law_room")(k15:PK K f15)(a16:PA K "_law_parts" f16)(l16:PL K f16 "_law_parts" (am 23) oc16 od16 kV16 dc16 pm16 an16 cd16 ct16 sl16)(c16:PC K cd16 "_law_parts")(k16:PK K f16)(a17:PA K "_law_value" f17)(l17:PL K f17 "_law_value" (am 24) oc17 od17 kV17 dc17 pm17 an17 cd17 ct17 sl17)(c17:PC K cd17 "_law_value")(k17:PK K f17)(a18:PA K "_law_of_sort" f18)(l18:PL K f18 "_law_of_sort" (am 25) oc18 od18 kV18 dc18 pm18 an18 cd18 ct18 sl18)(c18:PC K cd18 "_law_of_sort")(k18:PK K f18)(a19:PA K "_law_step" f19)(l19:PL K f19 "_law_step" (am 26) oc19 od19 kV19 dc19 pm19 an19 cd19 ct19 sl19)(c19:PC K cd19 "_law_step")(k19:PK K f19)(a20:PA K "_law_sizes" f20)(l20:PL K f20 "_law_sizes" (am 27) oc20 od20 kV20 dc20 pm20 an20 cd20 ct20 sl20)(c20:PC K cd20 "_law_sizes")(k20:PK K f20)(a21:PA K "_law_odd" f21)(l21:PL K f21 "_law_odd" (am 28) oc21 od21 kV21 dc21 pm21 an21 cd21 ct21 sl21)(c21:PC K cd21 "_law_odd")(k21:PK K f21)(a22:PA K "_law_first" f22)(l22:PL K f22 "_law_first" (am 29) oc22 od22 kV22 dc22 pm22 an22 cd22 ct22 sl22)(c22:PC K cd22 "_law_first")(k22:PK K f22)(a23:PA K "_law_refused" f23)(l23:PL K f23 "_law_refused" (am 30) oc23 od23 kV23 dc23 pm23 an23 cd23 ct23 sl23)(c23:PC K cd23 "_law_refused")(k23:PK K f23)(a24:PA K "law" f24)(l24:PL K f24 "law" (am 31) oc24 od24 kV24 dc24 pm24 an24 cd24 ct24 sl24)(c24:PC K cd24 "law")(k24:PK K f24)(uC:PA K "BadStep" fC)(uD:PA K "TimesError" fD)(uE:PA K "NoFlip" fE)(uF:PA K "BadRow" fF)(uV:ND K KR "ValueError"=S Z)(lC:K.lookup fC=S ⟨.type "type",ddC,.cls cdC,slC⟩)(hC:kD fC fD cdC slC=Uo)(lN:K.lookup cdC.ns=S oNC)(hN:j3 oNC=Uo)(iC:ND K cdC.ns "__init__"=S (S (.ref fI)))(lI:PLI K fI "__init__" "BadStep.__init__" stI ocI odI kVI dcI pmI anI cdI ctI slI)(cI:PC K cdI "BadStep.__init__")(kI:PK K fI)(gI:PySem.W.isFn K (.ref fI)=Uo)(x2:PQ K fD [.type "ValueError",.type "Exception",.type "BaseException",.type "object"] "ValueError.__new__"=Uo)(x3:OD K (.ref fC) (.ref fD)=S Uo)(x4:Nq K (.ref fC) (.type "ValueError")=S Uo)(x5:QX K (.ref fC) [.ref fE,.ref fF]=S Up)(z1:KY K (.ref fC) "__setattr__"=S (S (.builtin "object.__setattr__")))(z2:KY K (.ref fC) "step"=S Z)(z3:Pw K (.ref fD) "__getattribute__"=S (S (.builtin "type.__getattribute__")))(z4:PySem.W.readsIn K fD (.type "type")=Uo)(z5:PySem.W.findCls K (.ref fD) (.type "type") "__init__"=S (.val (.builtin "ValueError.__init__")))(y1:KY K (.ref fC) "__getattribute__"=S (S (.builtin "BaseException.__getattribute__")))(y2:KY K (.ref fC) "__getattr__"=S Z)(y3:KY K (.ref fC) "__class__"=S (S (.builtin "object.__class__")))(y7:Pw K (.builtin "object.__class__") "__get__"=S (S (.builtin "getset_descriptor.__get__")))(y8:T8 K (.builtin "object.__class__")=S Uo)(y4:OC K fC (.type "object")=S Uo)(y5:OD K (.ref fC) (.type "BaseException")=S Uo)(y6:PySem.W.isClsIn K fC=Uo)
 : ∃fd:LB,(∀(s:i4) (v:h6),R5 s fd ⟨[v],[]⟩ [("_law_script",v)])/\∀base:Heap,K.In base->base.Ns KR mg->bF l.prog w K mg base CX0 40 fa fd ["_law_script"] (lSp K (phi tab 38 24)):=by
 have e:=hfa.symm.trans (JY X G a24)
 cases e
 have O:CV K mg tab 25 23 qD:=by
  refine⟨λx hx=>RG X G (z x hx),?_,E7 Dc,?_⟩
  ·intro i d hd
   match i,hd with
   |0,hd=>cases hd;exact⟨_,_,ak l0 c0 k0,JY X G a0,a0,(ak l0 c0 k0).binds λ_ _ _ _ _ _ us hl=>by obtain⟨u0,rfl⟩:=eY us hl;rfl⟩
   |1,hd=>cases hd;exact⟨_,_,ak l1 c1 k1,JY X G a1,a1,(ak l1 c1 k1).binds λ_ _ _ _ _ _ us hl=>by obtain⟨u0,u1,u2,u3,rfl⟩:=jL us hl;rfl⟩
   |2,hd=>cases hd;exact⟨_,_,ak l2 c2 k2,JY X G a2,a2,(ak l2 c2 k2).binds λ_ _ _ _ _ _ us hl=>by obtain⟨u0,u1,rfl⟩:=cq us hl;rfl⟩
   |3,hd=>cases hd;exact⟨_,_,ak l3 c3 k3,JY X G a3,a3,(ak l3 c3 k3).binds λ_ _ _ _ _ _ us hl=>by obtain⟨u0,u1,u2,u3,u4,rfl⟩:=zK us hl;rfl⟩
   |4,hd=>cases hd;exact⟨_,_,ak l4 c4 k4,JY X G a4,a4,(ak l4 c4 k4).binds λ_ _ _ _ _ _ us hl=>by obtain⟨u0,rfl⟩:=eY us hl;rfl⟩
   |5,hd=>cases hd;exact⟨_,_,ak l5 c5 k5,JY X G a5,a5,(ak l5 c5 k5).binds λ_ _ _ _ _ _ us hl=>by obtain⟨u0,u1,u2,u3,rfl⟩:=jL us hl;rfl⟩
   |6,hd=>cases hd;exact⟨_,_,ak l6 c6 k6,JY X G a6,a6,(ak l6 c6 k6).binds λ_ _ _ _ _ _ us hl=>by obtain⟨u0,u1,rfl⟩:=cq us hl;rfl⟩
   |7,hd=>cases hd;exact⟨_,_,ak l7 c7 k7,JY X G a7,a7,(ak l7 c7 k7).binds λ_ _ _ _ _ _ us hl=>by obtain⟨u0,u1,rfl⟩:=cq us hl;rfl⟩
   |8,hd=>cases hd;exact⟨_,_,ak l8 c8 k8,JY X G a8,a8,(ak l8 c8 k8).binds λ_ _ _ _ _ _ us hl=>by obtain⟨u0,u1,rfl⟩:=cq us hl;rfl⟩
   |9,hd=>cases hd;exact⟨_,_,ak l9 c9 k9,JY X G a9,a9,(ak l9 c9 k9).binds λ_ _ _ _ _ _ us hl=>by obtain⟨u0,u1,rfl⟩:=cq us hl;rfl⟩
   |10,hd=>cases hd;exact⟨_,_,ak l10 c10 k10,JY X G a10,a10,(ak l10 c10 k10).binds λ_ _ _ _ _ _ us hl=>by obtain⟨u0,rfl⟩:=eY us hl;rfl⟩
   |11,hd=>cases hd;exact⟨_,_,ak l11 c11 k11,JY X G a11,a11,(ak l11 c11 k11).binds λ_ _ _ _ _ _ us hl=>by obtain⟨u0,u1,rfl⟩:=cq us hl;rfl⟩
   |12,hd=>cases hd;exact⟨_,_,ak l12 c12 k12,JY X G a12,a12,(ak l12 c12 k12).binds λ_ _ _ _ _ _ us hl=>by obtain⟨u0,u1,rfl⟩:=cq us hl;rfl⟩
   |13,hd=>cases hd;exact⟨_,_,ak l13 c13 k13,JY X G a13,a13,(ak l13 c13 k13).binds λ_ _ _ _ _ _ us hl=>by obtain⟨u0,u1,u2,u3,rfl⟩:=jL us hl;rfl⟩
   |14,hd=>cases hd;exact⟨_,_,ak l14 c14 k14,JY X G a14,a14,(ak l14 c14 k14).binds λ_ _ _ _ _ _ us hl=>by obtain⟨u0,u1,u2,rfl⟩:=nL us hl;rfl⟩
   |15,hd=>cases hd;exact⟨_,_,ak l15 c15 k15,JY X G a15,a15,(ak l15 c15 k15).binds λ_ _ _ _ _ _ us hl=>by obtain⟨u0,rfl⟩:=eY us hl;rfl⟩
   |16,hd=>cases hd;exact⟨_,_,ak l16 c16 k16,JY X G a16,a16,(ak l16 c16 k16).binds λ_ _ _ _ _ _ us hl=>by obtain⟨u0,u1,rfl⟩:=cq us hl;rfl⟩
   |17,hd=>cases hd;exact⟨_,_,ak l17 c17 k17,JY X G a17,a17,(ak l17 c17 k17).binds λ_ _ _ _ _ _ us hl=>by obtain⟨u0,rfl⟩:=eY us hl;rfl⟩
   |18,hd=>cases hd;exact⟨_,_,ak l18 c18 k18,JY X G a18,a18,(ak l18 c18 k18).binds λ_ _ _ _ _ _ us hl=>by obtain⟨u0,u1,u2,rfl⟩:=nL us hl;rfl⟩
   |19,hd=>cases hd;exact⟨_,_,ak l19 c19 k19,JY X G a19,a19,(ak l19 c19 k19).binds λ_ _ _ _ _ _ us hl=>by obtain⟨u0,u1,u2,u3,u4,rfl⟩:=zK us hl;rfl⟩
   |20,hd=>cases hd;exact⟨_,_,ak l20 c20 k20,JY X G a20,a20,(ak l20 c20 k20).binds λ_ _ _ _ _ _ us hl=>by obtain⟨u0,rfl⟩:=eY us hl;rfl⟩
   |21,hd=>cases hd;exact⟨_,_,ak l21 c21 k21,JY X G a21,a21,(ak l21 c21 k21).binds λ_ _ _ _ _ _ us hl=>by obtain⟨u0,u1,rfl⟩:=cq us hl;rfl⟩
   |22,hd=>cases hd;exact⟨_,_,ak l22 c22 k22,JY X G a22,a22,(ak l22 c22 k22).binds λ_ _ _ _ _ _ us hl=>by obtain⟨u0,u1,rfl⟩:=cq us hl;rfl⟩
   |23,hd=>cases hd;exact⟨_,_,ak l23 c23 k23,JY X G a23,a23,(ak l23 c23 k23).binds λ_ _ _ _ _ _ us hl=>by obtain⟨u0,u1,u2,rfl⟩:=nL us hl;rfl⟩
   |24,hd=>cases hd;exact⟨_,_,ak l24 c24 k24,JY X G a24,a24,(ak l24 c24 k24).binds λ_ _ _ _ _ _ us hl=>by obtain⟨u0,rfl⟩:=eY us hl;rfl⟩
   |25,hd=>cases hd;exact⟨_,_,ak l5 c5 k5,JY X G a5,a5,(ak l5 c5 k5).binds λ_ _ _ _ _ _ us hl=>by obtain⟨u0,u1,u2,u3,rfl⟩:=jL us hl;rfl⟩
   |i+26,hd=>simp[tab]at hd
  ·intro x i hx;simp only[qD,JS,KL,or_false,Prod.mk.injEq]at hx
 refine⟨Ms "law" "law" (cR (am 31)) (bE (am 31)) (al (am 31)) .none kV24 dc24 pm24 an24 cd24 ct24,λs v=>.of_eq rfl,λbase _ _=>?_⟩;obtain⟨Sm,hm,_⟩:=gh (Γ:=[]) (cs:=[]) (d:={d25 with body:=.cons .bot (.cons .bot (.cons .bot (.cons .bot (.cons .bot .nil))))}) (by decide +kernel)
 obtain⟨Sr,hr,_⟩:=gh (Γ:=[]) (cs:=[]) (d:={d23 with body:=.cons .bot (.cons .bot (.cons .bot (.cons .bot (.cons .bot .nil))))}) (by decide +kernel)
 obtain⟨SI,_,_⟩:=gh (Γ:=[]) (cs:=[]) (d:={name:="__init__",st:=stI,N:=["self","step"],np:=2,body:=.cons .bot (.cons .bot .nil)}) (by decide +kernel)
 obtain⟨fm,fdm,Fm,mm,_,bm⟩:=O.fns 25 d25 rfl;have ZO:=Bd (fld:="step") lC hC lN hN iC x2 z1 z2 z3 z4 z5 gI;have ZC:=Bb y1 y2 y3 y7 y8 y4 y5 y6;have FI:=AZ (P:=l.prog) (w:=w) (mg:=mg) (base:=base) (k:=0) (slf:="self") (row:="step") (a:="step ") (b:=" can't be done") (xD:="TimesError") (ak lI cI kI) SI ZO.1 rfl (by decide +kernel) (JY X G uD) (by decide) (by decide) (by decide) (by decide) (by decide) (by decide +kernel) (by decide +kernel) (λ_=>rfl) (λ_=>rfl) (λ_=>rfl)
 have BI:=(ak lI cI kI).binds (ps:=["self","step"]) λ_ _ _ _ _ _ us hl=>by obtain⟨u0,u1,rfl⟩:=cq us hl;rfl
 refine(rV (m:=25) (r:=23) (dm:=d25) (dr:=d23) (C:=fC) (fld:="step") O rfl Sm.nd Sr.nd (λk f fd Gx F=>?_) (λk f fd Gx Fx F=>?_) 38).1 24 d24 _ _ rfl (by decide) (ak l24 c24 k24)
 ·exact CU (kk:=k+2) (d:=d25) rfl F Sm hm (λcdv A outer s H E M0 hr=>sX (xr:="BadStep") (Gx f cdv A outer s H E hr) Sm.kind (λe e1 np cpos pos a1 a2 a3=>B9 (E8 a3) (sE e (Gx f cdv A outer s H E hr) e1 a2) (by decide +kernel) (JY X G uC) ZO.1 FI (hr.mono (by omega)) BI (by decide) (by decide) (pZ a1) (wn a1)) PassesOwn.leaving rfl 10 vF xsF _ (by decide +kernel))
 ·exact Ba (kk:=k+2) (d:=d23) (d1:=d25) (m:=25) (i0:=23) (ie:=4) (i:=3) (C:=fC) (D:=fD) (n:="error") (xD:="TimesError") (x:="_law_caught") (fld:="step") rfl rfl rfl F Sr hr (fun cdv A outer s H E hr=>Gx f cdv A outer s H E hr)
   (λY e1 e2 e3=>⟨by show Y.env.scope.names.lookup _=_;rw[e3];decide +kernel,by rw[e1];exact JY X G uD,by decide,by rw[e2];exact x2,by rw[e2];exact x3⟩)
   (λY e1 e2 e3 e4 _=>yS (by rw[e4];rfl) (by rw[e3];decide +kernel) (by decide) (by decide) (by show Y.env.scope.names.lookup _=_;rw[e3];decide +kernel) (by rw[e1];exact O.blt _ (by decide)) (by show Y.env.scope.names.lookup _=_;rw[e3];decide +kernel) (by rw[e1];exact JY X G uC) (by decide) (by show Y.env.scope.names.lookup _=_;rw[e3];decide +kernel) (by rw[e1];exact RG X G uV) (by decide +kernel) (by decide) (by decide) (by show Y.env.scope.names.lookup _=_;rw[e3];decide +kernel) (by rw[e1];exact JY X G uE) (by decide) (by show Y.env.scope.names.lookup _=_;rw[e3];decide +kernel) (by rw[e1];exact JY X G uF) (by decide) (by rw[e2];exact ZC) (by rw[e2];exact ZO.2) (by rw[e2];exact z2) (by rw[e2];exact x4) (by rw[e2];exact x5) rfl)
   rfl (by decide +kernel) rfl (by decide +kernel) (by decide) (by decide) (by decide) (Fx fm fdm Fm) (by decide +kernel) mm Fm.kp bm (by decide +kernel) (by decide) (λ_=>rfl) (λ_=>rfl) (λ_=>rfl)
theorem walk {l:QA}{q:JR}{loose:List Str}{XP:(Str->Option h6)->Heap->Prop}{YP:K8->Heap->Prop}{d:DefRec}{K:Params->Frag}(hn:l.most=S 63)(hdf:d.params.defaults=[])(hlaw:∀ns:List Int,ns.length<=63->phi tab 38 24 [.con (ns.map D.int)] (fun _=>Z) fun d _=>d=.bl Uo)(hY:∀(w:K8) (h:Heap),YP w h->(K w.params).In h)(F:∀(w:K8) (mg:Str->Option h6) (fa:Uq) (h:Heap),(K w.params).In h->h.Ns KR mg->mg d.name=S (.ref fa)->
   ∃fd:LB,(∀(s:i4) (u:h6),R5 s fd ⟨[u],[]⟩ [("_law_script",u)])/\∀base:Heap,(K w.params).In base->base.Ns KR mg->bF l.prog w (K w.params) mg base CX0 40 fa fd ["_law_script"] (lSp (K w.params) (phi tab 38 24))):
 PySem.W.WalkO q loose XP YP l.row.toRowW d [] (λf vs=>Tv f vs):=
 L2.walk_of (n:=63) (k:=40) (x:="_law_script") (CX:=λ_=>CX0) (sp:=λw=>lSp (K w.params) (phi tab 38 24)) hn (by decide) hdf ⟨rfl,by decide,by decide⟩ hY F (λw H a ns hl hO hS=>CT hO hS (hlaw ns hl)) λ_ _ _ _ _ z=>z
end K26
end
section
namespace K26
noncomputable def fbP(L0 L1 L2:Nat):List Sp->List Int->List Int->Nat->Option Nat
 |[],_,_,_=>Z
 |x::r,ks,td,i=>if fq L0 L1 L2 ks td x=Uo then fbP L0 L1 L2 r (nk ks x) (nt td x) (i+1)else S i
noncomputable def dO:Option Nat->D
 |none=>.non
 |some i=>.int (i:Nat)
noncomputable def dR:Option Nat->D
 |none=>.non
 |some i=>.tup [.int (i:Nat)]
variable{n L2:Nat}{M:Mem}{Q:QD}{pg oA pA:Uq}{other:List Int}{xs:List Sq}
theorem Fl(hn:3<=n){one:List Int}(pi:PgI M pg xs)(mo:M oA=S (.lst (one.map .int)))(mp:M pA=S (.lst (other.map .int)))(b1:Big one)(b2:Big other)(nm:∀x∈xs,eO x.1)(hx:xs.length<=500)(hE:Eb xs.length (tc (xs.map (·.1)))<=2^20)(hL:L2<=1000)(h:∀M',Ge M M'->Q (dR (fbP one.length other.length L2 (xs.map (·.1)) [] [] 0)) M'):
 phi tab n 25 [.ref pg,.ref oA,.ref pA,.int L2] M Q:=by
 refine aB ∅ rfl rfl (ρ:=[S _,S _,S _,S _,Z,Z,Z,Z,Z,Z,Z]) rfl ?_
 unfold d25 b25;nofun;refine cc mo ?_;ac_nf;refine cc mp ?_;ac_nf;refine⟨by rw[D0];lia,?_⟩
 nofun;intro U Hf tA J;refine⟨by rw[D0];lia,?_⟩
 have L:U≠tA:=λz=>by rw[<-z,aa]at J;cases J
 have g0:Ge M (ag (ag M U (.dct Up [])) tA (.dct Up [])):=(Ge.new Hf).trans (Ge.new J);have Hg:M tA=Z:=by rw[ai (Ne.symm L)]at J;exact J
 rw[B2,B2];nofun;refine⟨_,ao (g0 _ _ pi.l),?_⟩;rw[qm];refine eK (I:=λl ρ M'=>(∃o8 o9:Option D,ρ=[S (.ref pg),S (.ref oA),S (.ref pA),S (.int L2),S (.tup [.int one.length,.int other.length,.int L2]),S (.ref U),S (.ref tA),S (.int (ex one other (l.map (·.1.1))).m),o8,o9,Z])/\Ge M M' /\
  M' U=S (.dct Up ((ex one other (l.map (·.1.1))).h.map (hD .int)))/\M' tA=S (.dct Up ((ex one other (l.map (·.1.1))).t.map (hD .int)))/\∃ks td,j7 one.length other.length L2 (l.map (·.1.1)) ks td /\
  ∀r:List Sp,xs.map (·.1)=l.map (·.1.1)++r->fbP one.length other.length L2 (xs.map (·.1)) [] [] 0=fbP one.length other.length L2 r ks td l.length) (ys:=xs.zipIdx) rfl
  ⟨⟨Z,Z,rfl⟩,g0,by rw[ai L];exact aa,aa,[],[],.nil,λr hr=>by rw[hr];rfl⟩ ?_ ?_ ?_
 ·rintro l ρ M' ⟨_,g,_⟩;exact ao (g _ _ pi.l)
 ·rintro l x r ρ M' e ⟨⟨o8,o9,rfl⟩,g,m1,m2,ks',td',Y,j⟩;have Um:=mG e;have e2:xs.map (·.1)=l.map (·.1.1)++x.1.1::r.map (·.1.1):=by
   rw[Um];simp;rfl
  have Hk:x.2=l.length:=by
   have hz:=Ls.mp (show x∈xs.zipIdx by rw[e];simp)
   have:=mD e;rw[OL]at this
   cases hx9:xs[l.length]? with
   |none=>rw[hx9]at this;cases this
   |some y=>rw[hx9]at this;simp at this;rw[<-this]
  have j:=j _ e2;have i:=Da b1 b2 Y;have Hl:(l.map (·.1.1)).length<=xs.length:=by have:=congrArg MQ Um;simp at this⊢;lia
  have Ho:l.length<xs.length:=by have:=congrArg MQ Um;simp at this⊢;lia
  have Hm:tc (l.map (·.1.1))<=tc (xs.map (·.1)):=by rw[e2];unfold tc;rw[LH,JG];lia
  have hB:∀p∈(ex one other (l.map (·.1.1))).h,fj p.2<=2^20:=λp hp=>Ka (i.bd p hp) (Ka (iu Hl Hm) hE);have Hn:(ex one other (l.map (·.1.1))).t.length<1000:=by have:=i.tl;lia
  have Hh:x.1∈xs:=by rw[Um];simp
  have Hi:=nm x.1 Hh;refine⟨_,rfl,λF hF=>?_⟩;nofun;have sm:spM M' x.1.2 x.1.1:=cN (pi.s x.1 Hh) g;refine Bl (T:=tab) (f:=1) (fr:=0) (s:=am 7) (sr:=am 6) (ks:=ks') (td:=td') rfl rfl ∅ m1 m2 (λr=>?_) (λr=>?_) Hi sm λM1 g1=>?_
  ·rw[dX,Mt,gQ,i.ks]
  ·rw[dX,Mt,gQ,i.td]
  refine⟨_,rfl,?_⟩;rw[fbP]at j
  cases hc:fq one.length other.length L2 ks' td' x.1.1 with
  |false=>
   rw[hc,if_neg q7]at j;rw[if_pos (by decide)]
   nofun;rw[if_pos ∅,if_pos ∅]
   nofun;refine⟨by rw[D0];lia,?_⟩
   rw[Hk];have:=h _ (g.trans g1);rw[j]at this;exact this
  |true=>
  rw[hc,if_pos rfl]at j;have ok:=qC Hi hc;rw[if_neg (by decide)]
  nofun;refine Em (T:=tab) (f:=3) (fs:=2) (s:=am 9) (ss:=am 8) rfl rfl ∅ (g1 _ _ m1) (g1 _ _ m2) (g1 _ _ (g _ _ mo)) (g1 _ _ (g _ _ mp)) L i.ks ok (cN sm g1) b1 b2 hB (by have:=i.ln;lia) Hn λM2 n1 n2 n3=>?_
  nofun;refine⟨U,_,rfl,n1,?_⟩;ac_nf;refine hF _ _ ⟨⟨S (.int (x.2:Nat)),S (sqD x.1),?_⟩,λa o ea=>?_,?_,?_,nk ks' x.1.1,nt td' x.1.1,?_,λr' Hj=>?_⟩
  ·rw[JX,K7,LZ,cy,B2];rfl
  ·have a1:a≠U:=λz=>by rw[z,Hf]at ea;cases ea
   have a2:a≠tA:=λz=>by rw[z,Hg]at ea;cases ea
   exact n3 a o a1 a2 (g1 _ _ (g _ _ ea))
  ·rw[JX,K7,LZ,cy];exact n1
  ·rw[JX,K7,LZ,cy];exact n2
  ·rw[JX,K7,LZ];exact .snoc Y ok
  ·have er:r'=r.map (·.1.1):=by
    rw[e2,JX,JQ]at Hj;have:=Qh Hj;exact(List.cons.inj this).2.symm
   rw[j,er,JG];rfl
 ·rintro ρ M' ⟨⟨o8,o9,rfl⟩,g,m1,m2,ks',td',Y,j⟩;have ez:xs.zipIdx.map (·.1.1)=xs.map (·.1):=by
   have:xs.zipIdx.map (·.1.1)=(xs.zipIdx.map (·.1)).map (·.1):=by rw[Mw];rfl
   rw[this];congr 1;exact NJ 0 xs
  have j:=j [] (by rw[ez];simp)
  rw[ez]at m1 m2⊢;rw[fbP]at j;rw[j]at h;ac_nf;nofun;refine⟨_,ao (g _ _ pi.l),?_⟩;refine ba (I:=λl ρ M2 acc=>∃o:Option D,ρ=[o]/\M2=M'/\acc=(l.filter λx:Sq=>aV x.1).map sqD) (ys:=xs) rfl ⟨Z,rfl,rfl,rfl⟩ ?_ ?_ ?_
  ·rintro l ρ M2 acc ⟨o,rfl,rfl,rfl⟩;exact ao (g _ _ pi.l)
  ·rintro l x r ρ M2 acc e ⟨o,rfl,rfl,rfl⟩;refine⟨_,rfl,λN' hN=>?_⟩;ac_nf;have hz:=aU e;have Hq:(l.filter λx:Sq=>aV x.1).length<=l.length:=Nf ..;obtain⟨ds,Um⟩:=fQ x.2 x.1;have e2:sqD x=.tup (.str (ws (wd x.1))::ds):=Um;rw[e2];ac_nf;refine⟨_,eN,?_⟩;simp only[<-aT,aD];ac_nf;rw[<-e2]
   split
   ·next hw=>
    have ht:aV x.1=Uo:=by
     cases hx1:x.1<;>rw[hx1]at hw<;>simp[wd,aV]at hw⊢
     case lin l _ _=>cases l<;>cases hw
    exact⟨by rw[B2,D0];lia,hN _ _ _ ⟨_,rfl,rfl,by rw[LH];simp[ht]⟩⟩
   ·next hw=>
    have ht:aV x.1=Up:=by cases hx1:x.1<;>rw[hx1]at hw<;>simp[wd,aV]at hw⊢
    exact hN _ _ _ ⟨_,rfl,rfl,by rw[LH];simp[ht]⟩
  ·rintro ρ M2 acc ⟨o,rfl,rfl,rfl⟩ Y hp1;refine cc aa ?_;ac_nf;have g1:=g.trans (Ge.new (o:=.lst ((xs.filter fun x:Sq=>aV x.1).map sqD)) hp1);have O:ag M2 Y (.lst ((xs.filter fun x:Sq=>aV x.1).map sqD)) tA=_:=Ge.new hp1 _ _ m2;have etc:(List.map sqD (xs.filter fun x:Sq=>aV x.1)).length=tc (xs.map (·.1)):=by
    unfold tc;rw[B2,OW,B2];rfl
   rw[etc];generalize ag M2 Y (.lst ((xs.filter λx:Sq=>aV x.1).map sqD))=M3 at g1 O;nofun;refine⟨∅,∅,?_⟩
   rw[Lh];refine ba (I:=λl ρ M4 acc=>∃o:Option D,ρ=[o,S (.ref tA)]/\M4=M3/\acc=(l.map λk:Nat=>gv (ex one other (xs.map (·.1))).t (k:Nat)).map .int) (ys:=L4 L2) cM ⟨Z,rfl,rfl,rfl⟩ (λ_ _ _ _ _=>trivial) ?_ ?_
   ·rintro l x r ρ M4 acc e ⟨o,rfl,rfl,rfl⟩;refine⟨_,rfl,λN' hN=>?_⟩;ac_nf;have hz:=aU e;rw[Nl]at hz;refine⟨⟨_,_,O⟩,_,_,O,rfl,by rw[B2,B2,D0];lia,hN _ _ _ ⟨_,rfl,rfl,?_⟩⟩
    rw[dX,JX,JX];unfold gv;congr 1;show _=[D.int ((ig (ex one other (xs.map (·.1))).t (x:Nat)).getD 0)]
    cases ig (ex one other (xs.map (·.1))).t (x:Nat)<;>rfl
   ·rintro ρ M4 acc ⟨o,rfl,rfl,rfl⟩ p2 hp2;ac_nf;have g2:=g1.trans (Ge.new (o:=.lst (((L4 L2).map fun k:Nat=>gv (ex one other (xs.map (·.1))).t (k:Nat)).map .int)) hp2);have mr:M p2=Z:=by
     cases z:M p2 with
     |none=>rfl
     |some o=>have:=g1 _ _ z;rw[hp2]at this;cases this
    have m5:=aa (M:=M4) (a:=p2) (o:=.lst (((L4 L2).map λk:Nat=>gv (ex one other (xs.map (·.1))).t (k:Nat)).map .int));generalize ag M4 p2 (.lst (((L4 L2).map λk:Nat=>gv (ex one other (xs.map (·.1))).t (k:Nat)).map .int))=M5 at g2 m5;refine⟨_,ao (g2 _ _ pi.l),?_⟩;refine ba (I:=λl ρ M6 acc=>∃o:Option D,ρ=[o]/\M6=M5/\acc=(l.map λx:Sq=>sms x.1).map .int) (ys:=xs) rfl ⟨Z,rfl,rfl,rfl⟩ ?_ ?_ ?_
    ·rintro l ρ M2 acc ⟨o,rfl,rfl,rfl⟩;exact ao (g2 _ _ pi.l)
    ·rintro l x r ρ M2 acc e ⟨o,rfl,rfl,rfl⟩;refine⟨_,rfl,λN' hN=>?_⟩;have hz:=aU e;ac_nf;refine yZ (T:=tab) (f:=4) (s:=am 10) rfl ∅ (cN (pi.s x (by rw[e];simp)) g2) ?_
     exact⟨by rw[B2,B2,D0];lia,hN _ _ _ ⟨_,rfl,rfl,by simp⟩⟩
    ·rintro ρ M6 acc ⟨o,rfl,rfl,rfl⟩ p3 hp3;refine rX (ao aa) ?_;refine⟨by rw[D0];lia,?_⟩
     nofun;exact h _ (g2.trans (Ge.new hp3))
variable{rA:Uq}{L0 L1:Nat}
theorem s9(hn:4<=n){lA:Uq}{one:List Int}(pi:PgI M pg xs)(mo:M oA=S (.lst (one.map .int)))(mp:M pA=S (.lst (other.map .int)))(ml:M lA=S (.lst [.int L0,.int L1,.int L2]))(mr:M rA=S (.lst [.ref oA,.ref pA]))(z:one.length=L0)(F:other.length=L1)(J:Big one)(L:Big other)(nm:∀x∈xs,eO x.1)(hx:xs.length<=500)(O:Eb xs.length (tc (xs.map (·.1)))<=2^20)(U:L2<=1000)(h:∀M',Ge M M'->Q (dO (fbP L0 L1 L2 (xs.map (·.1)) [] [] 0)) M'):phi tab n 23 [.ref pg,.ref lA,.ref rA] M Q:=by
 refine aB ∅ rfl rfl (ρ:=[S _,S _,S _,Z,Z]) rfl ?_
 unfold d23 b23;nofun;nofun;refine aw mr (d:=.ref oA) rfl ?_;refine aw mr (d:=.ref pA) rfl ?_;refine aw ml (d:=.int L2) rfl ?_;refine Fl ∅ pi mo mp J L nm hx O U λM1 g1=>?_
 have j:=h _ g1;rw[z,F]
 cases hR:fbP L0 L1 L2 (xs.map (·.1)) [] [] 0 with
 |none=>rw[hR]at j;unfold dR;nofun;refine⟨Uo,rfl,Uo,rfl,?_⟩;rw[if_pos rfl];nofun;exact j
 |some k=>rw[hR]at j;unfold dR;nofun;refine⟨Up,rfl,Up,rfl,?_⟩;rw[if_neg q7];nofun;exact⟨_,rfl,j⟩
noncomputable def rdI:W->List Int
 |.t=>[2,3]|.p=>[3]|.a=>[1,3]|.e=>[1]|.k=>[2]|_=>[]
noncomputable def rdK(p1 p2 p3 p4 p5:Uq):List (Str×D):=[(ws .t,.ref p1),(ws .p,.ref p2),(ws .a,.ref p3),(ws .e,.ref p4),(ws .k,.ref p5)]
theorem Bm{F p2 J L O j:Uq}(h1:M F=S (.lst [.int 2,.int 3]))(h2:M p2=S (.lst [.int 3]))(Y:M J=S (.lst [.int 1,.int 3]))(Um:M L=S (.lst [.int 1]))(h5:M O=S (.lst [.int 2]))(U:M j=S (.lst []))(w:W):
 ∃q,(dget ((rdK F p2 J L O).map kvS) (.str (ws w))).getD (.ref j)=.ref q/\M q=S (.lst ((rdI w).map .int)):=by
 have e:∀a b:W,decide ((D.str (ws a))=D.str (ws b))=decide (a=b):=λa b=>by
  have h:=qj a b
  by_cases hab:a=b
  ·subst hab;simp
  ·rw[decide_eq_false hab]at h⊢;exact decide_eq_false λz=>by rw[D.str.inj z]at h;simp at h
 unfold dget rdK;simp only[K7,LZ,kvS,Lm,List.find?_nil,e]
 cases w
 ·exact⟨j,rfl,U⟩
 ·exact⟨j,rfl,U⟩
 ·exact⟨F,rfl,h1⟩
 ·exact⟨p2,rfl,h2⟩
 ·exact⟨J,rfl,Y⟩
 ·exact⟨L,rfl,Um⟩
 ·exact⟨O,rfl,h5⟩
theorem Dd(q:Uq)(x:Sp):(rdI (wd x)).map D.int=((rdI (wd x)).zip (rr x)).map (λp=>.int p.1)/\((rdI (wd x)).zip (rr x)).map (·.2)=rr x/\∀p∈(rdI (wd x)).zip (rr x),∀(M:Mem) (Q:QD),Q (.int p.2) M->wIx (spD q x) (.int p.1) M Q:=by
 cases x with
 |lin l r ps=>cases l<;>exact⟨rfl,rfl,λp j=>by simp[wd,lr,rdI]at j⟩
 |tim r a b=>
  refine⟨rfl,rfl,λp j M Q h=>?_⟩;simp[wd,rdI,rr]at j
  rcases j with rfl|rfl
  ·exact⟨_,_,rfl,rfl,h⟩
  ·exact⟨_,_,rfl,rfl,h⟩
 |put r c b=>refine⟨rfl,rfl,λp j M Q h=>?_⟩;simp[wd,rdI,rr]at j;subst j;exact⟨_,_,rfl,rfl,h⟩
 |add a c b=>
  refine⟨rfl,rfl,λp j M Q h=>?_⟩;simp[wd,rdI,rr]at j
  rcases j with rfl|rfl
  ·exact⟨_,_,rfl,rfl,h⟩
  ·exact⟨_,_,rfl,rfl,h⟩
 |emp a=>refine⟨rfl,rfl,λp j M Q h=>?_⟩;simp[wd,rdI,rr]at j;subst j;exact⟨_,_,rfl,rfl,h⟩
 |tel k b=>refine⟨rfl,rfl,λp j M Q h=>?_⟩;simp[wd,rdI,rr]at j;subst j;exact⟨_,_,rfl,rfl,h⟩
theorem first{n:Nat}(hn:2<=n){M:Mem}{Q:QD}{pg lA:Uq}{L0 L1 L2:Nat}{xs:List Sq}(pi:PgI M pg xs)(ml:M lA=S (.lst [.int L0,.int L1,.int L2]))(nm:∀x∈xs,eO x.1)(hx:xs.length<=90)(h:∀M',Ge M M'->Q (dO (fbP L0 L1 L2 (xs.map (·.1)) [] [] 0)) M'):phi tab n 22 [.ref pg,.ref lA] M Q:=by
 refine aB ∅ rfl rfl (ρ:=[S _,S _,Z,Z,Z,Z,Z,Z]) rfl ?_
 unfold d22 b22;nofun;intro hA Hr;refine⟨by rw[D0];lia,λtA Hf=>?_⟩
 nofun;have Hm:hA≠tA:=λz=>by rw[<-z,aa]at Hf;cases Hf
 have g0:Ge M (ag (ag M hA (.dct Up [])) tA (.lst [])):=(Ge.new Hr).trans (Ge.new Hf);have Hs:M tA=Z:=by rw[ai (Ne.symm Hm)]at Hf;exact Hf
 refine⟨by rw[D0];lia,?_⟩
 refine⟨_,ao (g0 _ _ pi.l),?_⟩;rw[qm];refine eK (I:=λl ρ M'=>(∃o4 o5 o6 o7:Option D,ρ=[S (.ref pg),S (.ref lA),S (.ref hA),S (.ref tA),o4,o5,o6,o7])/\Ge M M'/\∃(Y:List (Int×Str)) (td:List Int),
  M' hA=S (.dct Up (Y.map (hD .str)))/\M' tA=S (.lst (td.map .int))/\Y.length<=l.length/\td.length<=l.length /\
  ∀r:List Sp,xs.map (·.1)=l.map (·.1.1)++r->fbP L0 L1 L2 (xs.map (·.1)) [] [] 0=fbP L0 L1 L2 r (Y.map (·.1)) td l.length) (ys:=xs.zipIdx) rfl
  ⟨⟨Z,Z,Z,Z,rfl⟩,g0,[],[],by rw[ai Hm];exact aa,aa,JL _,JL _,λr hr=>by rw[hr];rfl⟩ ?_ ?_ ?_
 ·rintro l ρ M' ⟨_,g,_⟩;exact ao (g _ _ pi.l)
 ·rintro l x r ρ M' e ⟨⟨o4,o5,o6,o7,rfl⟩,g,Y,td,m1,m2,Ht,HE,j⟩;have e1:=mG e;have e2:xs.map (·.1)=l.map (·.1.1)++x.1.1::r.map (·.1.1):=by
   rw[e1];simp;rfl
  have Hu:x.2=l.length:=by
   have:=mD e;rw[OL]at this
   cases hx9:xs[l.length]? with
   |none=>rw[hx9]at this;cases this
   |some y=>rw[hx9]at this;simp at this;rw[<-this]
  have j:=j _ e2;have HH:l.length<xs.length:=by have:=congrArg MQ e1;simp at this⊢;lia
  have Hn:x.1∈xs:=by rw[e1];simp
  have Ho:=nm x.1 Hn;have sm:spM M' x.1.2 x.1.1:=cN (pi.s x.1 Hn) g;refine⟨_,rfl,λF hF=>?_⟩;nofun;intro p hp;refine⟨by rw[D0];lia,λU Hv=>⟨by rw[D0];lia,λp2 Hw=>⟨by rw[D0];lia,λUm Hg=>⟨by rw[D0];lia,λp4 Hx=>⟨by rw[D0];lia,λp5 Hy=>?_⟩⟩⟩⟩⟩
  have k0:=Ge.new (o:=.dct Up []) hp;have k1:=Ge.new (o:=.lst [.int 2,.int 3]) Hv;have k2:=Ge.new (o:=.lst [.int 3]) Hw;have k3:=Ge.new (o:=.lst [.int 1,.int 3]) Hg;have k4:=Ge.new (o:=.lst [.int 1]) Hx;have k5:=Ge.new (o:=.lst [.int 2]) Hy;have f0:=k5 _ _ (k4 _ _ (k3 _ _ (k2 _ _ (k1 _ _ (aa (M:=M') (a:=p) (o:=.dct Up []))))));have f1:=k5 _ _ (k4 _ _ (k3 _ _ (k2 _ _ (aa (M:=ag M' p (.dct Up [])) (a:=U) (o:=.lst [.int 2,.int 3])))));have f2:=k5 _ _ (k4 _ _ (k3 _ _ (aa (M:=ag (ag M' p (.dct Up [])) U (.lst [.int 2,.int 3])) (a:=p2) (o:=.lst [.int 3]))));have f3:=k5 _ _ (k4 _ _ (aa (M:=ag (ag (ag M' p (.dct Up [])) U (.lst [.int 2,.int 3])) p2 (.lst [.int 3])) (a:=Um) (o:=.lst [.int 1,.int 3])));have f4:=k5 _ _ (aa (M:=ag (ag (ag (ag M' p (.dct Up [])) U (.lst [.int 2,.int 3])) p2 (.lst [.int 3])) Um (.lst [.int 1,.int 3])) (a:=p4) (o:=.lst [.int 1]));have f5:=aa (M:=ag (ag (ag (ag (ag M' p (.dct Up [])) U (.lst [.int 2,.int 3])) p2 (.lst [.int 3])) Um (.lst [.int 1,.int 3])) p4 (.lst [.int 1])) (a:=p5) (o:=.lst [.int 2]);have kk:=k0.trans ((k1.trans k2).trans ((k3.trans k4).trans k5));generalize ag (ag (ag (ag (ag (ag M' p (.dct Up [])) U (.lst [.int 2,.int 3])) p2 (.lst [.int 3])) Um (.lst [.int 1,.int 3])) p4 (.lst [.int 1])) p5 (.lst [.int 2])=M5 at f0 f1 f2 f3 f4 f5 kk;clear k0 k1 k2 k3 k4 k5 Hv Hw Hg Hx Hy;refine⟨rdK U p2 Um p4 p5,rfl,(by show[ws .t,ws .p,ws .a,ws .e,ws .k].Nodup;decide +kernel),(by show 5<=15;decide),f0,⟨_,_,aa⟩,?_⟩
  have nq:∀{q:Uq} {ds:List D},M5 q=S (.lst ds)->∀{o:O},ag M5 p o q=S (.lst ds):=λ{q ds} hq {o}=>by rw[ai (λz=>by rw[z,f0]at hq;cases hq)];exact hq
  have kg:Ge M' (ag M5 p (.dct Up ((rdK U p2 Um p4 p5).map kvS))):=λa o ea=>by rw[ai (λz=>by rw[z,hp]at ea;cases ea)];exact kk _ _ ea
  have f0:ag M5 p (.dct Up ((rdK U p2 Um p4 p5).map kvS)) p=_:=aa;replace f1:=nq f1 (o:=.dct Up ((rdK U p2 Um p4 p5).map kvS));replace f2:=nq f2 (o:=.dct Up ((rdK U p2 Um p4 p5).map kvS));replace f3:=nq f3 (o:=.dct Up ((rdK U p2 Um p4 p5).map kvS));replace f4:=nq f4 (o:=.dct Up ((rdK U p2 Um p4 p5).map kvS));replace f5:=nq f5 (o:=.dct Up ((rdK U p2 Um p4 p5).map kvS));generalize ag M5 p (.dct Up ((rdK U p2 Um p4 p5).map kvS))=M6 at f0 f1 f2 f3 f4 f5 kg;obtain⟨ds,eds⟩:=fQ x.1.2 x.1.1;have J:sqD x.1=.tup (.str (ws (wd x.1.1))::ds):=eds;rw[J];ac_nf;refine⟨_,eN,by rw[D0];lia,λp6 Hz=>?_⟩
  have k6:=Ge.new (o:=.lst []) Hz;have f6:ag M6 p6 (.lst []) p6=S (.lst []):=aa;have Hh:=kg.trans k6;replace f0:=k6 _ _ f0;obtain⟨q6,HA,Hj⟩:=Bm (k6 _ _ f1) (k6 _ _ f2) (k6 _ _ f3) (k6 _ _ f4) (k6 _ _ f5) f6 (wd x.1.1);generalize ag M6 p6 (.lst [])=M7 at f0 f6 Hh Hj;refine⟨_,_,f0,rfl,?_⟩;rw[HA,<-J];clear f0 f1 f2 f3 f4 f5 f6 kg k6 nq kk HA Hz hp;nofun;obtain⟨z1,z2,z3⟩:=Dd x.1.2 x.1.1;refine⟨_,ao Hj,?_⟩;rw[z1];have n1:=Hh _ _ m1;have n2:=Hh _ _ m2;have gM:=g.trans Hh;refine ba (I:=λl ρ M8 acc=>∃o:Option D,ρ=[o,S (sqD x.1),S (.ref hA)]/\M8=M7/\acc=l.map λp=>.bl (decide (p.2∈Y.map (·.1)))) (ys:=(rdI (wd x.1.1)).zip (rr x.1.1)) rfl ⟨_,rfl,rfl,rfl⟩ ?_ ?_ ?_
  ·rintro l ρ M' acc ⟨o,rfl,rfl,rfl⟩;rw[<-z1];exact ao Hj
  ·rintro l y r ρ M8 acc ey ⟨o,rfl,rfl,rfl⟩;refine⟨_,rfl,λN' hN=>?_⟩;ac_nf;refine z3 y (by rw[ey];simp) _ _ ?_
   refine⟨hA,Up,_,rfl,.inl n1,rfl,?_⟩;rw[if_neg q7,dX,Mt,gQ];refine⟨?_,hN _ _ _ ⟨_,rfl,rfl,by rw[JX];rfl⟩⟩
   have:=aU ey;have h2:(rr x.1.1).length<=2:=by cases x.1.1<;>simp[rr]
   rw[List.length_zip]at this;rw[B2,D0];lia
  ·rintro ρ M8 acc ⟨o,rfl,rfl,rfl⟩ p8 hp8;refine all_map (f:=fun p:Int×Int=>decide (p.2∈Y.map (·.1))) aa ?_;have k8:=Ge.new (o:=.lst (((rdI (wd x.1.1)).zip (rr x.1.1)).map fun p=>D.bl (decide (p.2∈Y.map (·.1))))) hp8;replace n1:=k8 _ _ n1;replace n2:=k8 _ _ n2;replace gM:=gM.trans k8;generalize ag M8 p8 (.lst (((rdI (wd x.1.1)).zip (rr x.1.1)).map fun p=>D.bl (decide (p.2∈Y.map (·.1)))))=M9 at n1 n2 gM;have ea:(((rdI (wd x.1.1)).zip (rr x.1.1)).all fun p=>decide (p.2∈Y.map (·.1)))=(rr x.1.1).all fun r=>decide (r∈Y.map (·.1)):=by
    conv=>rhs;rw[<-z2,Sa]
    rfl
   rw[ea];clear Hj Hh k8 hp8 ea z1 z2 z3;rw[fbP]at j;unfold fq at j;have bad:fbP L0 L1 L2 (xs.map (·.1)) [] [] 0=S l.length->Q (.int (x.2:Nat)) M9:=λe=>by have:=h _ gM;rw[e]at this;rw[Hu];exact this
   cases hr:(rr x.1.1).all λr=>decide (r∈Y.map (·.1))with
   |false=>
    rw[hr,Bool.false_and,if_neg q7]at j;refine⟨Up,rfl,?_⟩;rw[if_pos (by decide)]
    nofun;exact bad j
   |true=>
   rw[hr,Rm]at j;refine⟨Uo,rfl,?_⟩;rw[if_neg (by decide)]
   have HB:=cN (pi.s x.1 Hn) gM;obtain⟨ds,eds⟩:=fQ x.1.2 x.1.1;have J:sqD x.1=.tup (.str (ws (wd x.1.1))::ds):=eds;refine cw (I:=λρ' M'=>ρ'=[S (.ref pg),S (.ref lA),S (.ref hA),S (.ref tA),S (.int (x.2:Nat)),S (sqD x.1),S (.ref q6),o7]/\M'=M9/\(∀k b,x.1.1=.tel k b->qB L0 L1 L2 td x.1.1=Uo)) (λR Hi=>?_) ?_
   ·rw[J];ac_nf;refine⟨_,eN,?_⟩;simp only[<-aW,aD];ac_nf;rw[<-J]
    split
    ·next hw=>
     obtain⟨k,b,ex⟩:∃k b,x.1.1=.tel k b:=by
      cases hx1:x.1.1<;>rw[hx1]at hw<;>simp[wd]at hw
      case lin l _ _=>cases l<;>simp[lr]at hw
      case tel k b=>exact⟨k,b,rfl⟩
     have es:sqD x.1=.tup [.str (ws .k),.int k,.int b]:=by unfold sqD;rw[ex];rfl
     have HF:(D.str (ws (wd x.1.1))::ds)=[.str (ws .k),.int k,.int b]:=by
      have:=J.symm.trans es
      injection this
     rw[HF];refine⟨_,rfl,?_⟩;refine⟨td,ao n2,_,rfl,?_⟩;have L:qB L0 L1 L2 td x.1.1=decide (0<=k/\k<(L2:Nat)/\k∉td):=by rw[ex];rfl
     rw[L]at j
     by_cases h9:k∈td
     ·rw[if_pos (decide_eq_true h9)];nofun;rw[decide_eq_false (λz=>z.2.2 h9),if_neg q7]at j;exact bad j
     ·rw[if_neg (by simpa using h9)]
      refine⟨_,rfl,?_⟩;rw[Ea];refine⟨_,rfl,?_⟩
      by_cases Hk:0<=k
      ·rw[if_pos (decide_eq_true Hk)];refine aw (gM _ _ ml) (d:=.int L2) rfl ?_;rw[E9];refine⟨_,rfl,?_⟩
       by_cases Hl:k<(L2:Nat)
       ·rw[if_neg (by simp[Hl])]
        exact Hi _ _ ⟨rfl,rfl,λ_ _ _=>by rw[L];exact decide_eq_true ⟨Hk,Hl,h9⟩⟩
       ·rw[if_pos (by simp[Hl])]
        nofun;rw[decide_eq_false (λz=>Hl z.2.1),if_neg q7]at j;exact bad j
      ·rw[if_neg (by simp[Hk]),if_pos (by decide)]
       nofun;rw[decide_eq_false (λz=>Hk z.1),if_neg q7]at j;exact bad j
    ·next hw=>exact Hi _ _ ⟨rfl,rfl,λk b ex=>by rw[ex]at hw;exact absurd (show wd (Sp.tel k b)=W.k from rfl) (by simpa using hw)⟩
   ·rintro ρ M10 ⟨rfl,rfl,hT⟩;refine cw (I:=λρ' M'=>(∃HC,ρ'=[S (.ref pg),S (.ref lA),S (.ref hA),S (.ref tA),S (.int (x.2:Nat)),S (sqD x.1),S (.ref q6),HC])/\Ge M10 M'/\qB L0 L1 L2 td x.1.1=Uo) (λR Hi=>?_) ?_
    ·rw[J];ac_nf;refine⟨_,eN,?_⟩;simp only[<-aK,<-aM];refine⟨by rw[D0];lia,eL ?_⟩
     ac_nf;rw[<-J]
     split
     ·next hw=>
      obtain⟨lf,rm,ps,ex⟩:∃lf rm ps,x.1.1=.lin lf rm ps:=by
       cases hx1:x.1.1<;>rw[hx1]at hw<;>simp[wd]at hw
       exact⟨_,_,_,rfl⟩
      have es:sqD x.1=.tup [.str (ws (lr lf)),.int rm,.ref x.1.2]:=by unfold sqD;rw[ex];rfl
      have mq:M10 x.1.2=S (.lst (ps.map ptD)):=by rw[ex]at HB;exact HB
      have HI:ps.length<=20:=by rw[ex]at Ho;exact Ho.1
      rw[es];nofun;refine⟨_,rfl,?_⟩;rw[aD];ac_nf;refine aw (gM _ _ ml) (d:=.int (if lf then L0 else L1:Nat)) (by cases lf<;>rfl) ?_
      nofun;refine⟨_,rfl,_,ao mq,?_⟩;generalize HG:(if lf then L0 else L1:Nat)=LL
      have L:qB L0 L1 L2 td x.1.1=ps.all λp=>decide (0<=p.2/\p.2<(LL:Int)):=by rw[ex,<-HG];rfl
      rw[L]at j;refine ba (I:=λl ρ M' acc=>∃o o2:Option D,ρ=[o,o2,S (.int LL)]/\M'=M10/\acc=l.map λp=>.bl (decide (0<=p.2/\p.2<(LL:Int)))) (ys:=ps) rfl ⟨Z,Z,rfl,rfl,rfl⟩ ?_ ?_ ?_
      ·rintro l ρ M' acc ⟨o,o2,rfl,rfl,rfl⟩;exact ao mq
      ·rintro l y r ρ M' acc ey ⟨o,o2,rfl,rfl,rfl⟩;refine⟨_,rfl,λN' hN=>?_⟩;ac_nf;have:=aU ey;have sz:(l.map λp=>D.bl (decide (0<=p.2/\p.2<(LL:Int)))).length<D2:=by rw[B2,D0];lia
       split
       ·next y0=>exact⟨sz,hN _ _ _ ⟨_,_,rfl,rfl,by rw[JX];simp[y0]⟩⟩
       ·next y0=>exact⟨sz,hN _ _ _ ⟨_,_,rfl,rfl,by rw[JX];simp[y0]⟩⟩
      ·rintro ρ M' acc ⟨o,o2,rfl,rfl,rfl⟩ Um Hg;refine all_map (f:=λp:Int×Int=>decide (0<=p.2/\p.2<(LL:Int))) aa ?_;refine⟨_,rfl,?_⟩
       cases hal:ps.all λp=>decide (0<=p.2/\p.2<(LL:Int))with
       |false=>
        rw[if_pos (by decide)]
        nofun;rw[hal,if_neg q7]at j;have:=h _ (gM.trans (Ge.new (o:=.lst (ps.map λp=>.bl (decide (0<=p.2/\p.2<(LL:Int))))) Hg));rw[j]at this;rw[Hu];exact this
       |true=>
        rw[if_neg (by decide),<-es]
        exact Hi _ _ ⟨⟨_,rfl⟩,Ge.new Hg,by rw[L];exact hal⟩
     ·next hw=>
      refine Hi _ _ ⟨⟨_,rfl⟩,Ge.refl,?_⟩
      cases hx1:x.1.1 with
      |lin l _ _=>rw[hx1]at hw;cases l<;>simp[wd,lr]at hw
      |tel k b=>exact hx1▸hT k b hx1
      |tim r a b=>rfl
      |put r a b=>rfl
      |add r a b=>rfl
      |emp r=>rfl
    ·rintro ρ M11 ⟨⟨HC,rfl⟩,Hq,L⟩;have ok:=qC (L0:=L0) (L1:=L1) (L2:=L2) (ks:=Y.map (·.1)) (td:=td) Ho (by unfold fq;rw[hr,L];rfl)
     rw[L,if_pos rfl]at j;nofun;refine rZ (T:=tab) (f:=14) (s:=am 21) (hn:="_law_held") rfl ∅ (Hq _ _ n1) (Hq _ _ n2) Hm ok ∅ ∅ λHJ a1 a2 a3 a4=>?_
     ac_nf;refine hF _ _ ⟨⟨_,_,_,_,rfl⟩,λa o ea=>?_,kn Y x.1.1,nt td x.1.1,a1,a2,?_,?_,λr' HD=>?_⟩
     ·have b1:a≠hA:=λz=>by rw[z,Hr]at ea;cases ea
      have b2:a≠tA:=λz=>by rw[z,Hs]at ea;cases ea
      exact a3 a o b1 b2 (Hq _ _ (gM _ _ ea))
     ·rw[JG]
      cases x.1.1<;>simp only[kn]<;>first
       |exact Ka jP (by simpa using Ht)
       |exact Ka kJ (by simp;lia)
       |(simp;lia)
     ·rw[JG]
      cases x.1.1<;>simp[nt]<;>lia
     ·have er:r'=r.map (·.1.1):=by
       rw[e2,JX,JQ]at HD;have:=Qh HD;exact(List.cons.inj this).2.symm
      rw[j,er,JG,s8 ok];rfl
 ·rintro ρ M' ⟨⟨o4,o5,o6,o7,rfl⟩,g,Y,td,m1,m2,Ht,HE,j⟩;have ez:xs.zipIdx.map (·.1.1)=xs.map (·.1):=by
   have:xs.zipIdx.map (·.1.1)=(xs.zipIdx.map (·.1)).map (·.1):=by rw[Mw];rfl
   rw[this];congr 1;exact NJ 0 xs
  have j:=j [] (by rw[ez];simp)
  rw[fbP]at j;rw[j]at h;nofun;exact h _ g
theorem sd{k:Nat}(hk:1<=k):zI tab k 7:=λq=>yU (s:=am 14) rfl hk q
theorem b6{k:Nat}(hk:2<=k):cL tab k 9:=λj h1 h2 q=>Bf (s:=am 16) (fm:=7) rfl (sd ∅) hk j h1 h2 q
theorem Bn{k:Nat}(hk:3<=k):qh tab k 10:=λj q=>wq (s:=am 17) (ft:=9) rfl (b6 ∅) ∅ j q
theorem se{k:Nat}(hk:3<=k):zJ tab k 11:=D6 (s:=am 18) (ft:=9) rfl (b6 ∅) ∅
theorem za{k:Nat}(hk:3<=k):wx tab k 12:=Bi (s:=am 19) (ft:=9) rfl (b6 ∅) ∅
theorem mJ{k:Nat}(hk:4<=k):iA tab k 17:=wv (s:=am 24) (ft:=9) (fn:=10) rfl (b6 ∅) (Bn ∅) ∅
theorem zb{k:Nat}(hk:6<=k):qA tab k 19:=Bj (s:=am 26) (hn:="_law_held") (ft:=9) (fr:=15) (fp:=16) (fv:=17) (fo:=18) rfl (b6 ∅) (Bh (s:=am 22) (ft:=9) rfl (b6 ∅) ∅)
 (z8 (s:=am 23) (ft:=9) (fv:=17) rfl (b6 ∅) (mJ ∅) ∅) (mJ ∅) (z9 (s:=am 25) (hn:="_law_held") rfl ∅) ∅
theorem zc{k:Nat}(hk:7<=k):wF tab k 13:=Bk (s:=am 20) (hn:="_law_held") (fs:=19) (fk:=14) rfl (zb ∅) (rZ (s:=am 21) (hn:="_law_held") rfl ∅) ∅
theorem qE{p z:Uq}{ys:List Sq}(h:M p=S (.lst (xs.map sqD)))(h1:M z=S (.lst (ys.map sqD)))(F:xs.length+ys.length<=5000)(q:∀p2 M',Ge M M'->M' p2=S (.lst ((xs++ys).map sqD))->Q (.ref p2) M'):eh (.ref p) (.ref z) M Q:=by
 rw[CZ];refine⟨_,_,h,h1,by rw[B2,B2,D0];lia,λp2 j=>?_⟩
 rw[<-JX];exact q p2 _ (Ge.new j) aa
variable{b:Uq}
theorem odd(hn:3<=n){lA:Uq}(hb:Box b M)(ml:M lA=S (.lst [.int L0,.int L1,.int L2]))(nl:lA≠b)(z2:1<=L2/\L2<=100)(h:∀x q M',eO x->Bx b M M'->spM M' q x->(∀l r ps,x=.lin l r ps->M q=Z)->Q (spD q x) M'):phi tab n 21 [.ref b,.ref lA] M Q:=by
 refine aB ∅ rfl rfl (ρ:=[S _,S _,Z,Z,Z,Z,Z,Z]) rfl ?_
 unfold d21 b21;nofun;refine b6 ∅ hb (by decide) (by decide) λe0 M1 a0 a1 x1=>?_
 ac_nf;refine b6 ∅ x1.box (by decide) (by decide) λrm M2 b0 b1 x2=>?_
 have Hm:=x1.trans x2;have Hz:=Hm.keep _ _ nl ml;refine aw Hz (d:=.int L2) rfl ?_;refine b6 ∅ Hm.box ∅ ∅ λk M3 c0 c1 x3=>?_
 have U:=Hm.trans x3;have Hh:=U.keep _ _ nl ml;nofun;refine aw Hh (d:=.int L0) rfl ?_;refine aw Hh (d:=.int L0) rfl ?_;rw[q9];refine⟨by rw[D0];lia,λp hp=>?_⟩
 have np:=ay U.box hp;have g1:=Ge.new (o:=.lst [.int L0,.int (-1),.int (L0+3)]) hp;have f1:=aa (M:=M3) (a:=p) (o:=.lst [.int L0,.int (-1),.int (L0+3)]);generalize ag M3 p (.lst [.int L0,.int (-1),.int (L0+3)])=N1 at g1 f1;refine aw (g1 _ _ Hh) (d:=.int L1) rfl ?_;refine aw (g1 _ _ Hh) (d:=.int L1) rfl ?_;rw[q9];refine⟨by rw[D0];lia,λp1 Hn=>?_⟩
 have HI:=ay (U.ge g1).box Hn;have g2:=g1.trans (Ge.new (o:=.lst [.int L1,.int (-1),.int (L1+3)]) Hn);replace f1:=(Ge.new (o:=.lst [.int L1,.int (-1),.int (L1+3)]) Hn) _ _ f1;have f2:=aa (M:=N1) (a:=p1) (o:=.lst [.int L1,.int (-1),.int (L1+3)]);generalize ag N1 p1 (.lst [.int L1,.int (-1),.int (L1+3)])=N2 at g2 f1 f2;refine aw (g2 _ _ Hh) (d:=.int L2) rfl ?_;refine⟨by rw[D0];lia,λp2 Ht=>?_⟩
 have HJ:=ay (U.ge g2).box Ht;have k3:=Ge.new (o:=.lst [.int L2,.int (-1),.int 99]) Ht;have g3:=g2.trans k3;replace f1:=k3 _ _ f1;replace f2:=k3 _ _ f2;have f3:=aa (M:=N2) (a:=p2) (o:=.lst [.int L2,.int (-1),.int 99]);generalize ag N2 p2 (.lst [.int L2,.int (-1),.int 99])=N3 at g3 f1 f2 f3 k3;clear k3;refine⟨by rw[D0];lia,λp3 Hu=>?_⟩
 have HK:=ay (U.ge g3).box Hu;have k4:=Ge.new (o:=.lst [.ref p,.ref p1,.ref p2]) Hu;have g4:=g3.trans k4;replace f1:=k4 _ _ f1;replace f2:=k4 _ _ f2;replace f3:=k4 _ _ f3;have f4:=aa (M:=N3) (a:=p3) (o:=.lst [.ref p,.ref p1,.ref p2]);generalize ag N3 p3 (.lst [.ref p,.ref p1,.ref p2])=N4 at g4 f1 f2 f3 f4 k4;clear k4 g1 g2 g3;have Y:=U.ge g4;nofun;refine b6 ∅ Y.box (by decide) (by decide) λj M5 d0 d1 x5=>?_
 have Hj:=Y.trans x5;replace f1:=x5.keep _ _ np f1;replace f2:=x5.keep _ _ HI f2;replace f3:=x5.keep _ _ HJ f3;replace f4:=x5.keep _ _ HK f4;obtain⟨v0,HL⟩:∃v:Int,atI [D.int L0,.int (-1),.int (L0+3)] j=S (.int v):=by rcases(by lia:j=0∨j=1∨j=2)with rfl|rfl|rfl<;>exact⟨_,rfl⟩
 obtain⟨v1,HM⟩:∃v:Int,atI [D.int L1,.int (-1),.int (L1+3)] j=S (.int v):=by rcases(by lia:j=0∨j=1∨j=2)with rfl|rfl|rfl<;>exact⟨_,rfl⟩
 obtain⟨v2,HN⟩:∃v:Int,atI [D.int L2,.int (-1),.int 99] j=S (.int v):=by rcases(by lia:j=0∨j=1∨j=2)with rfl|rfl|rfl<;>exact⟨_,rfl⟩
 clear Y g4 Hm x1 x2 x3 Hz Hh hp Hn Ht Hu U;nofun;have s4:0+1+1+1+1<=D2:=by rw[D0];lia
 have s3:0+1+1+1<=D2:=by rw[D0];lia
 have s2:0+1+1<=D2:=by rw[D0];lia
 have s1:0+1<=D2:=by rw[D0];lia
 generalize (500:Int)+e0=e;refine⟨s4,s4,s4,s3,λp4 HA=>?_⟩;have k5:=Ge.new (o:=.lst (([(.tim rm e rm,b),(.tim rm rm e,b),(.put rm 2 e,b)]:List Sq).map sqD)) HA;have f5:=aa (M:=M5) (a:=p4) (o:=.lst (([(.tim rm e rm,b),(.tim rm rm e,b),(.put rm 2 e,b)]:List Sq).map sqD));show wSs _ _ _ [_,_,_,_,_,_,_,_] (ag M5 p4 (.lst (([(.tim rm e rm,b),(.tim rm rm e,b),(.put rm 2 e,b)]:List Sq).map sqD)));generalize ag M5 p4 (.lst (([(.tim rm e rm,b),(.tim rm rm e,b),(.put rm 2 e,b)]:List Sq).map sqD))=M6 at k5 f5;clear HA;nofun;refine⟨s4,s4,s2,s3,λp5 HB=>?_⟩;have k6:=Ge.new (o:=.lst (([(.add e 1 rm,b),(.add rm 1 e,b),(.emp e,b)]:List Sq).map sqD)) HB;refine qE (k6 _ _ f5) (ys:=[(.add e 1 rm,b),(.add rm 1 e,b),(.emp e,b)]) aa (by simp) λp6 M7 k7 f7=>?_
 replace k7:=k5.trans (k6.trans k7);clear k5 k6 f5 HB;nofun;refine⟨s3,aw (k7 _ _ f4) (d:=.ref p2) rfl (aw (k7 _ _ f3) HN ⟨s3,s2,λp8 HC=>?_⟩)⟩;have k8:=Ge.new (o:=.lst (([(.tel k e,b),(.tel v2 rm,b)]:List Sq).map sqD)) HC;refine qE (k8 _ _ f7) (ys:=[(.tel k e,b),(.tel v2 rm,b)]) aa (by simp) λp9 M9 k9 f9=>?_
 replace k9:=k7.trans (k8.trans k9);clear k7 k8 f7 HC;nofun;refine⟨s2,aw (k9 _ _ f4) (d:=.ref p) rfl (aw (k9 _ _ f1) HL ⟨s2,s2,λF Hf=>?_⟩)⟩;have L:=Ge.new (o:=.lst (([(1,0),(0,v0)]:List (Int×Int)).map ptD)) Hf;have Um:=aa (M:=M9) (a:=F) (o:=.lst (([(1,0),(0,v0)]:List (Int×Int)).map ptD));have Hv:M9 F=Z:=Hf;have HD:=ay (Hj.ge k9).box Hf;replace Hv:=(Hj.ge k9).none Hv HD;show _/\wIx _ _ (ag M9 F (.lst (([(1,0),(0,v0)]:List (Int×Int)).map ptD))) _;generalize ag M9 F (.lst (([(1,0),(0,v0)]:List (Int×Int)).map ptD))=Ho at L Um;clear Hf;refine⟨s3,aw (L _ _ (k9 _ _ f4)) (d:=.ref p1) rfl (aw (L _ _ (k9 _ _ f2)) HM ⟨s2,s1,λJ Hg=>?_⟩)⟩;have Hk:=Ge.new (o:=.lst (([(1,v1)]:List (Int×Int)).map ptD)) Hg;have Hq:=aa (M:=Ho) (a:=J) (o:=.lst (([(1,v1)]:List (Int×Int)).map ptD));have HE:=ay ((Hj.ge k9).ge L).box Hg;have HP:=((Hj.ge k9).ge L).none Hg HE;replace Um:=Hk _ _ Um;refine⟨s3,s3,s3,?_⟩;show ∀HF,ag Ho J (.lst (([(1,v1)]:List (Int×Int)).map ptD)) HF=Z->eh _ _ (ag (ag Ho J (.lst (([(1,v1)]:List (Int×Int)).map ptD))) HF _) _;have Hw:=k9.trans (L.trans Hk);replace f9:=Hk _ _ (L _ _ f9);generalize ag Ho J (.lst (([(1,v1)]:List (Int×Int)).map ptD))=M11 at Hk Hq Um Hw f9;clear k9 L Hk Hg f1 f2 f3 f4;intro HX Hs;have Hx:=Ge.new (o:=.lst (([(.lin Uo rm [(1,0),(0,v0)],F),(.lin Up rm [(1,v1)],J),(.tel k rm,b)]:List Sq).map sqD)) Hs;refine qE (Hx _ _ f9) (ys:=[(.lin Uo rm [(1,0),(0,v0)],F),(.lin Up rm [(1,v1)],J),(.tel k rm,b)]) aa (by simp) λHQ HR Hi Hl=>?_
 replace Hi:=Hx.trans Hi;replace Um:=Hi _ _ Um;replace Hq:=Hi _ _ Hq;have Y:=Hj.ge (Hw.trans Hi);clear Hw Hx Hi f9 Hs;have Hr:bW 1:=by unfold bW;decide
 have HS:bW 2:=by unfold bW;decide
 have HU:bW 0:=by unfold bW;decide
 have all:∀y∈([(.tim rm e rm,b),(.tim rm rm e,b),(.put rm 2 e,b)]:List Sq)++([(.add e 1 rm,b),(.add rm 1 e,b),(.emp e,b)]:List Sq)++([(.tel k e,b),(.tel v2 rm,b)]:List Sq)++([(.lin Uo rm [(1,0),(0,v0)],F),(.lin Up rm [(1,v1)],J),(.tel k rm,b)]:List Sq),
  eO y.1/\spM HR y.2 y.1/\∀l r ps,y.1=.lin l r ps->M y.2=Z/\y.2≠b:=by
  intro y hy;simp only[Sz,Ml,JS,KL,or_false]at hy
  rcases hy with rfl|rfl|rfl|rfl|rfl|rfl|rfl|rfl|rfl|rfl|rfl
  ·exact⟨trivial,trivial,λ_ _ _ z=>by cases z⟩
  ·exact⟨trivial,trivial,λ_ _ _ z=>by cases z⟩
  ·exact⟨HS,trivial,λ_ _ _ z=>by cases z⟩
  ·exact⟨Hr,trivial,λ_ _ _ z=>by cases z⟩
  ·exact⟨Hr,trivial,λ_ _ _ z=>by cases z⟩
  ·exact⟨trivial,trivial,λ_ _ _ z=>by cases z⟩
  ·exact⟨trivial,trivial,λ_ _ _ z=>by cases z⟩
  ·exact⟨trivial,trivial,λ_ _ _ z=>by cases z⟩
  ·refine⟨⟨by simp,λp hp=>?_⟩,Um,λ_ _ _ _=>⟨Hv,HD⟩⟩
   simp only[JS,KL,or_false]at hp
   rcases hp with rfl|rfl
   ·exact Hr
   ·exact HU
  ·refine⟨⟨by simp,λp hp=>?_⟩,Hq,λ_ _ _ _=>⟨HP,HE⟩⟩
   rw[RH.mp hp];exact Hr
  ·exact⟨trivial,trivial,λ_ _ _ z=>by cases z⟩
 have hlen:(([(.tim rm e rm,b),(.tim rm rm e,b),(.put rm 2 e,b)]:List Sq)++([(.add e 1 rm,b),(.add rm 1 e,b),(.emp e,b)]:List Sq)++([(.tel k e,b),(.tel v2 rm,b)]:List Sq)++([(.lin Uo rm [(1,0),(0,v0)],F),(.lin Up rm [(1,v1)],J),(.tel k rm,b)]:List Sq)).length=11:=rfl;have HG:HQ≠b:=λz=>by obtain⟨u,v,w,eb⟩:=Y.box;rw[z,eb]at Hl;exact absurd (congrArg (λo=>match o with|some (O.lst l)=>l.length|_=>0) Hl) (by simp)
 generalize ([(.tim rm e rm,b),(.tim rm rm e,b),(.put rm 2 e,b)]:List Sq)++([(.add e 1 rm,b),(.add rm 1 e,b),(.emp e,b)]:List Sq)++([(.tel k e,b),(.tel v2 rm,b)]:List Sq)++([(.lin Uo rm [(1,0),(0,v0)],F),(.lin Up rm [(1,v1)],J),(.tel k rm,b)]:List Sq)=zs at all hlen Hl⊢;nofun;refine cc Hl ?_;rw[B2,hlen];refine b6 ∅ Y.box (by decide) (by decide) λr HV r0 r1 Hy=>?_
 obtain⟨d,HW,hd2⟩:=gi (xs:=zs.map sqD) r0 (by rw[B2,hlen];exact r1)
 obtain⟨y,hy,rfl⟩:=KD.mp (Kg hd2);refine aw (Hy.keep _ _ HG Hl) HW ?_;obtain⟨y1,y2,y3⟩:=all y hy;have xx:=Y.trans Hy;refine h y.1 y.2 HV y1 xx ?_ λl r ps z=>(y3 l r ps z).1
 cases HH:y.1 with
 |lin l r ps=>rw[HH]at y2;exact Hy.keep _ _ (y3 l r ps HH).2 y2
 |_=>trivial
theorem fb{n:Nat}{M:Mem}(ih:∀d p,rb n M d=S p->Kk p p=Uo):∀{ds:List D} {ps:List KQ},aA (rb n M) ds=S ps->NR ps ps=Uo
 |[],ps,h=>by simp[aA]at h;subst h;rfl
 |d::ds,ps,h=>by
  simp only[aA]at h
  cases j:rb n M d with
  |none=>rw[j]at h;cases h
  |some p=>
   cases z:aA (rb n M) ds with
   |none=>rw[j,z]at h;cases h
   |some r=>rw[j,z]at h;cases h;simp[NR,ih d p j,fb ih z]
theorem Bo:∀(n:Nat) (d:D) (p:KQ),rb n M d=S p->Kk p p=Uo:=by
 intro n
 induction n with
 |zero=>
  intro d p h
  cases d<;>simp[rb]at h<;>first
   |(subst h;simp[Kk])
   |(obtain⟨_,rfl⟩:=h;simp[Kk])
 |succ n ih=>
  intro d p h
  cases d<;>simp only[rb]at h<;>first
   |(cases h;simp[Kk];done)
   |skip
  case fn=>cases h
  case str x=>split at h<;>cases h;simp[Kk]
  case tup ds=>
   cases e:aA (rb n M) ds with
   |none=>rw[e]at h;cases h
   |some r=>rw[e]at h;cases h;simp[Kk,fb ih e]
  case con ds=>
   cases e:aA (rb n M) ds with
   |none=>rw[e]at h;cases h
   |some r=>rw[e]at h;cases h;simp[Kk,fb ih e]
  case ref a=>
   split at h
   ·next ds _=>
    cases e:aA (rb n M) ds with
    |none=>rw[e]at h;cases h
    |some r=>rw[e]at h;cases h;simp[Kk,fb ih e]
   ·cases h
theorem qF{k:Nat}{M:Mem}:∀ps:List (Int×Int),aA (rb (k+1) M) (ps.map ptD)=S (ps.map λp=>.tuple [.int p.1,.int p.2])
 |[]=>rfl
 |p::ps=>by
  have e:rb (k+1) M (ptD p)=S (.tuple [.int p.1,.int p.2]):=by simp[ptD,rb,aA]
  simp only[K7,aA,e,qF ps,KN,Lz]
theorem Eo{k:Nat}{x:Sq}(h:spM M x.2 x.1):∃p,rb (k+3) M (sqD x)=S p:=by
 obtain⟨x,q⟩:=x
 cases x with
 |lin l r ps=>
  have mq:M q=S (.lst (ps.map ptD)):=h;have e:rb (k+2) M (.ref q)=S (.list (ps.map λp=>.tuple [.int p.1,.int p.2])):=by rw[gP mq,qF];rfl
  exact⟨_,by simp only[sqD,spD,rb,aA,jN,if_true,mq,qF,Lz,KN,Option.map_none];rfl⟩
 |_=>exact⟨_,by simp only[sqD,spD,rb,aA,jN,if_true,Lz,KN];rfl⟩
theorem wG{k:Nat}{M:Mem}:∀{xs:List Sq},(∀x∈xs,spM M x.2 x.1)->∃ps,aA (rb (k+3) M) (xs.map sqD)=S ps
 |[],_=>⟨[],rfl⟩
 |x::xs,h=>by obtain⟨p,j⟩:=Eo (k:=k) (h x Ks);obtain⟨ps,z⟩:=wG (k:=k) (xs:=xs) λy F=>h y (K5 _ F);exact⟨p::ps,by simp only[K7,aA,j,z,KN,Lz]⟩
def Fr(b:Uq)(xs:List Sq):Prop:=∀x∈xs,∀l r ps,x.1=.lin l r ps->x.2≠b
theorem fR{M':Mem}(h:PgI M pg xs)(np:pg≠b)(j:Fr b xs)(g:Bx b M M'):PgI M' pg xs:=
 ⟨g.keep _ _ np h.l,fun x hx=>by
  have:=h.s x hx
  cases e:x.1 with
  |lin l r ps=>rw[e]at this;exact g.keep _ _ (j x hx l r ps e) this
  |_=>trivial⟩
theorem Ep{ks td:List Int}{x:Sp}(h:gk L0 L1 L2 ks td x):eO x/\fq L0 L1 L2 ks td x=Uo:=by
 have hr:=El h;have h1:((rr x).all λr=>decide (r∈ks))=Uo:=Lu.mpr λr hx=>decide_eq_true (hr r hx);unfold fq;rw[h1,Rm]
 cases x with
 |lin l r ps=>exact⟨⟨h.1,λp j=>(h.2 p j).1⟩,Lu.mpr λp j=>decide_eq_true (h.2 p j).2⟩
 |tim r a b=>exact⟨trivial,rfl⟩
 |put r c b=>exact⟨h.1,rfl⟩
 |add a c b=>exact⟨h.2.1,rfl⟩
 |emp a=>exact⟨trivial,rfl⟩
 |tel k b=>exact⟨trivial,decide_eq_true h.1⟩
theorem wH{xs:List Sp}{ks td:List Int}(h:j7 L0 L1 L2 xs ks td):(∀x∈xs,eO x)/\∀r i,fbP L0 L1 L2 (xs++r) [] [] i=fbP L0 L1 L2 r ks td (i+xs.length):=by
 induction h with
 |nil=>exact⟨λ_ h=>by simp at h,λr i=>rfl⟩
 |@snoc ss ks td s h hs ih=>
  obtain⟨j,z⟩:=ih;obtain⟨F,J⟩:=Ep hs;refine⟨λx hx=>?_,λr i=>?_⟩
  ·rcases K0.mp hx with hx|hx
   ·exact j x hx
   ·rw[RH.mp hx];exact F
  ·rw[JQ,z,JG];show fbP L0 L1 L2 (s::r) ks td _=_;rw[fbP,J,if_pos rfl];rfl
structure SA(b lA pg oA pA rA:Uq)(L0 L1 L2:Nat)(one other:List Int)(xs:List Sq)(M:Mem):Prop where
 box:Box b M
 ml:M lA=S (.lst [.int L0,.int L1,.int L2])
 pi:PgI M pg xs
 mo:M oA=S (.lst (one.map .int))
 mp:M pA=S (.lst (other.map .int))
 mr:M rA=S (.lst [.ref oA,.ref pA])
theorem SA.bx{lA:Uq}{one:List Int}{M':Mem}(h:SA b lA pg oA pA rA L0 L1 L2 one other xs M)(j:lA≠b)(z:pg≠b)(F:oA≠b)(J:pA≠b)(L:rA≠b)(hf:Fr b xs)(g:Bx b M M'):SA b lA pg oA pA rA L0 L1 L2 one other xs M':=⟨g.box,g.keep _ _ j h.ml,fR h.pi z hf g,g.keep _ _ F h.mo,g.keep _ _ J h.mp,g.keep _ _ L h.mr⟩
theorem kN{a:Uq}{o:O}{x:Sq}(h:spM M x.2 x.1)(ne:∀l r ps,x.1=.lin l r ps->x.2≠a):spM (ag M a o) x.2 x.1:=by
 cases e:x.1 with
 |lin l r ps=>rw[e]at h;show ag M a o x.2=_;rw[ai (ne l r ps e)];exact h
 |_=>trivial
theorem SA.upd{lA a1:Uq}{one:List Int}{o:O}(h:SA b lA pg oA pA rA L0 L1 L2 one other xs M)(nb:a1≠b)(d:a1≠lA/\a1≠pg/\a1≠oA/\a1≠pA/\a1≠rA/\∀x∈xs,∀l r ps,x.1=.lin l r ps->x.2≠a1):SA b lA pg oA pA rA L0 L1 L2 one other xs (ag M a1 o):=by
 obtain⟨j,z,F,J,L,U⟩:=d;refine⟨?_,by rw[ai j.symm];exact h.ml,⟨by rw[ai z.symm];exact h.pi.l,λx hx=>kN (h.pi.s x hx) (U x hx)⟩,by rw[ai F.symm];exact h.mo,by rw[ai J.symm];exact h.mp,by rw[ai L.symm];exact h.mr⟩
 obtain⟨u,v,w,e⟩:=h.box;exact⟨u,v,w,by rw[ai nb.symm];exact e⟩
theorem De{zs:List Sq}{y:Sq}{i:Nat}:tc ((zs.take i++y::zs.drop i).map (·.1))<=tc (zs.map (·.1))+1:=by
 have ta:∀a b:List Sp,tc (a++b)=tc a+tc b:=λa b=>by unfold tc;rw[LH,JG]
 conv=>rhs;rw[<-Li i zs]
 rw[JX,JX,ta,ta,K7];have:tc (y.1::(zs.drop i).map (·.1))<=tc ((zs.drop i).map (·.1))+1:=by
  unfold tc;rw[Q5]
  split<;>simp
 lia
theorem Er(o:Option Nat)(M:Mem):∃t,tyN M (dO o)=S t/\tf "bool" t=Up:=by
 cases o with
 |none=>exact⟨"NoneType",rfl,by decide⟩
 |some i=>exact⟨"int",rfl,by decide⟩
theorem Es(o:Option Nat)(q:Q (.bl Up) M):wNe (dO o) (dO o) M Q:=by
 cases o with
 |none=>exact⟨.none,.none,rfl,rfl,q⟩
 |some i=>exact⟨.int (i:Nat),.int (i:Nat),rfl,rfl,by simp[Kk];exact q⟩
theorem law_holds(ns:List Int)(hl:ns.length<=63):phi tab 38 24 [.con (ns.map D.int)] (λ_=>Z) λd _=>d=.bl Uo:=by
 refine aB ∅ (d:=d24) rfl rfl (ρ:=[S _,Z,Z,Z,Z,Z,Z,Z,Z,Z,Z]) rfl ?_
 unfold d24 b24;nofun;rw[B2];refine⟨by split<;>split<;>lia,by split<;>split<;>lia,?_⟩
 refine eK (I:=λl ρ M'=>∃o1 o2 o3 o4 o5 o6 o7 o8 o9 Hf,ρ=[S (.con (ns.map D.int)),o1,o2,o3,o4,o5,o6,o7,o8,o9,Hf]) cM ⟨_,_,_,_,_,_,_,_,_,_,rfl⟩ (λ_ _ _ hI=>trivial) ?_ ?_
 ·rintro l k r ρ M8 e ⟨o1,o2,o3,o4,o5,o6,o7,o8,o9,Hf,rfl⟩;refine⟨_,rfl,λF hF=>?_⟩;nofun;refine D5 (s:=am 15) (fc:=6) (fm:=7) (sc:=am 13) rfl rfl (sd ∅) ∅ ∅ λb x y Ii=>?_
  nofun;refine aB ∅ (d:=d20) rfl rfl (ρ:=[S _]) rfl ?_
  unfold d20 b20;nofun;refine za ∅ (by decide) (by decide) ⟨_,_,_,aa⟩ λL0 L1 L2 lA M1 h0 h1 h2 x1 flA mlA=>?_
  have h5:(5:Int).toNat=5:=rfl;rw[h5]at h0 h1 h2;nofun;refine b6 ∅ x1.box (by decide) (by decide) λsz M2 z0 z1 x2=>?_
  obtain⟨sz,rfl⟩:∃n:Nat,sz=n:=⟨sz.toNat,∅⟩
  have nlA:lA≠b:=λz=>by rw[z,aa]at flA;cases flA
  have Hg:=x2.keep _ _ nlA mlA;refine zc ∅ x2.box Hg nlA ∅ ∅ ∅ ∅ λxs hh td pg M3 lp Ij HE x3 fpg pi HF=>?_
  have npg:=ay x2.box fpg;have Hh:=x3.keep _ _ nlA Hg;have HG:=x2.box;have J:Fr b xs:=λx hx l r ps e=>ay HG (HF x hx l r ps e);clear x1 mlA HF;nofun;refine aw Hh (d:=.int L0) rfl ?_;refine se ∅ ∅ x3.box λone oA M4 l1 b1 x4 fo mo=>?_
  have noA:=ay x3.box fo;have HH:=fR pi npg J x4;have Hi:=x4.keep _ _ nlA Hh;refine aw Hi (d:=.int L1) rfl ?_;refine se ∅ ∅ x4.box λother pA M5 l2 b2 x5 fp mp=>?_
  have npA:=ay x4.box fp;have HI:=fR HH npg J x5;have Hs:=x5.keep _ _ nlA Hi;have HJ:=x5.keep _ _ noA mo;have Hv:=x5.box;clear pi HH x2 x3 x4 x5 Hg Hh Hi mo;ac_nf;refine⟨by rw[D0];lia,λrA Hw=>?_⟩
  have nrA:=ay Hv Hw;have g6:=Ge.new (o:=.lst [.ref oA,.ref pA]) Hw;have S6:SA b lA pg oA pA rA L0 L1 L2 one other xs (ag M5 rA (.lst [.ref oA,.ref pA])):=⟨((Bx.refl Hv).ge g6).box,g6 _ _ Hs,HI.ge g6,g6 _ _ HJ,g6 _ _ mp,aa⟩;generalize ag M5 rA (.lst [.ref oA,.ref pA])=M6 at S6;clear g6 Hw Hv HJ mp HI Hs HG;have pr:=lp.prog;have HU:=HE rfl;obtain⟨nmx,fbx⟩:=wH pr;have HV:fbP L0 L1 L2 (xs.map (·.1)) [] [] 0=Z:=by have:=fbx [] 0;rw[Kw]at this;exact this
  have nmx':∀x∈xs,eO x.1:=λx hx=>nmx _ (Ly hx);clear HE lp pr fbx nmx;have hE:∀{zs:List Sq},zs.length<=24->tc (zs.map (·.1))<=6->Eb zs.length (tc (zs.map (·.1)))<=2^20:=λh1 h2=>Ka (iu h1 h2) (by decide)
  nofun;refine s9 ∅ S6.pi S6.mo S6.mp S6.ml S6.mr l1 l2 b1 b2 nmx' ∅ (hE ∅ ∅) ∅ λM7 g7=>?_
  rw[HV];have S7:=S6.bx nlA npg noA npA nrA J ((Bx.refl S6.box).ge g7);clear S6 g7;refine⟨Uo,rfl,?_⟩;ac_nf;rw[if_neg (by decide)]
  nofun;refine⟨by decide,by decide,?_⟩
  refine eK (I:=λl ρ M'=>(∃o6 o7 o8 o9 Hf,ρ=[S (.con (ns.map D.int)),S (.int (k:Nat)),S (.ref b),S (.ref lA),S (.ref pg),S (.ref rA),o6,o7,o8,o9,Hf])/\SA b lA pg oA pA rA L0 L1 L2 one other xs M') cM ⟨⟨_,_,_,_,_,rfl⟩,S7⟩ (λ_ _ _ hI=>trivial) ?_ ?_
  ·rintro lt t rt ρ M9 et ⟨⟨u6,u7,u8,u9,HK,rfl⟩,S9⟩;refine⟨_,rfl,fun F2 HW=>?_⟩;nofun;refine⟨_,_,rfl,ao S9.pi.l,fun a1 j=>?_⟩;have O:=ay S9.box j;have HL:=Ge.new (o:=.lst (xs.map sqD)) j;have Hj:=S9.bx nlA npg noA npA nrA J ((Bx.refl S9.box).ge HL);have Hn:ag M9 a1 (.lst (xs.map sqD)) a1=S (.lst (xs.map sqD)):=aa;have Hx:∀x∈xs,spM (ag M9 a1 (.lst (xs.map sqD))) x.2 x.1:=fun x hx=>Hj.pi.s x hx;have d1:a1≠lA/\a1≠pg/\a1≠oA/\a1≠pA/\a1≠rA/\∀x∈xs,∀l r ps,x.1=.lin l r ps->x.2≠a1:=by
    refine⟨λz=>?_,λz=>?_,λz=>?_,λz=>?_,λz=>?_,λx hx l r ps ex z=>?_⟩
    ·rw[z,S9.ml]at j;cases j
    ·rw[z,S9.pi.l]at j;cases j
    ·rw[z,S9.mo]at j;cases j
    ·rw[z,S9.mp]at j;cases j
    ·rw[z,S9.mr]at j;cases j
    ·have:=S9.pi.s x hx;rw[ex]at this;have h9:M9 x.2=S (.lst (ps.map ptD)):=this;rw[z,j]at h9;cases h9
   generalize ag M9 a1 (.lst (xs.map sqD))=M10 at Hj Hn Hx;clear HL j S9;nofun;refine b6 ∅ Hj.box (by decide) (by decide) λw Ik w0 w1 Ho=>?_
   have HX:=Hj.bx nlA npg noA npA nrA J Ho;have HY:=Ho.keep _ _ O Hn;have HZ:=(fR ⟨Hn,Hx⟩ O J Ho).s;clear Ho Hj Hn Hx;ac_nf;refine⟨by split<;>decide,by split<;>decide,?_⟩
   have Hy:(1+if(w==0)=Uo then(1:Int)else 0).toNat<=2:=by split<;>decide
   generalize (1+if(w==0)=Uo then(1:Int)else 0).toNat=many at Hy⊢
   refine eK (I:=λl ρ M'=>∃(zs:List Sq) (o8:Option D),ρ=[S (.con (ns.map D.int)),S (.int (k:Nat)),S (.ref b),S (.ref lA),S (.ref pg),S (.ref rA),S (.int (t:Nat)),S (.ref a1),o8,u9,HK]/\SA b lA pg oA pA rA L0 L1 L2 one other xs M'/\M' a1=S (.lst (zs.map sqD))/\(∀x∈zs,spM M' x.2 x.1) /\
    Fr b zs/\(∀x∈zs,eO x.1)/\(∀x∈zs,∀l r ps,x.1=.lin l r ps->x.2≠a1)/\zs.length<=20+l.length/\tc (zs.map (·.1))<=4+l.length) cM ⟨xs,_,rfl,HX,HY,HZ,J,nmx',d1.2.2.2.2.2,by simp;lia,by simpa using HU⟩ (λ_ _ _ hI=>trivial) ?_ ?_
   ·rintro l2 x2 r2 ρ Hq e2 ⟨zs,o8,rfl,Hk,U,Hz,Y,Um,Hl,Ht,Hu⟩;have I0:=aU e2;rw[Nl]at I0;refine⟨_,rfl,λF3 Ia=>?_⟩;nofun;refine⟨⟨_,U⟩,cc U ?_⟩;rw[q9,B2];refine b6 ∅ Hk.box ∅ ∅ λi0 HM i1 i2 HA=>?_
    obtain⟨i,hi⟩:∃i:Nat,i0=(i:Int):=⟨i0.toNat,∅⟩
    subst hi;have L:=Hk.bx nlA npg noA npA nrA J HA;have HB:=HA.keep _ _ O U;have Ib:=(fR ⟨U,Hz⟩ O Y HA).s;refine odd ∅ L.box L.ml nlA ∅ λy q HN ny HC sy fy=>?_
    have Hm:=L.bx nlA npg noA npA nrA J HC;have Ic:=HC.keep _ _ O HB;have Id:=(fR ⟨HB,Ib⟩ O Y HC).s;have qb:∀l r ps,y=.lin l r ps->q≠b:=λl r ps e=>ay L.box (fy l r ps e);have qa:∀l r ps,y=.lin l r ps->q≠a1:=λl r ps e z=>by have:=fy l r ps e;rw[z,HB]at this;cases this
    refine⟨a1,_,(i:Nat),spD q y,rfl,rfl,Ic,∅,by rw[B2];lia,by rw[B2,D0];lia,?_⟩
    have ez:(zs.map sqD).take (i:Int).toNat++spD q y::(zs.map sqD).drop (i:Int).toNat=(zs.take i++(y,q)::zs.drop i).map sqD:=by rw[Lh,JX,K7,List.map_take,List.map_drop];rfl
    rw[ez];have mem:∀x∈zs.take i++(y,q)::zs.drop i,x=(y,q)∨x∈zs:=λx hx=>by
     rcases K0.mp hx with h|h
     ·exact .inr (Nx h)
     ·rcases JS.mp h with h|h
      ·exact .inl h
      ·exact .inr (Nw h)
    refine Ia _ _ ⟨_,_,rfl,Hm.upd O d1,aa,λx hx=>?_,λx hx=>?_,λx hx=>?_,λx hx=>?_,?_,?_⟩
    ·rcases mem x hx with rfl|hx
     ·exact kN (x:=(y,q)) sy qa
     ·exact kN (Id x hx) (Hl x hx)
    ·rcases mem x hx with rfl|hx
     ·exact qb
     ·exact Y x hx
    ·rcases mem x hx with rfl|hx
     ·exact ny
     ·exact Um x hx
    ·rcases mem x hx with rfl|hx
     ·exact qa
     ·exact Hl x hx
    ·simp only[JG,Kq,Kf,Ox,Ln];lia
    ·have:=@De zs (y,q) i;rw[JG,Nc];lia
   ·rintro ρ Hq ⟨zs,o8,rfl,Hk,U,Hz,Y,Um,Hl,Ht,Hu⟩;rw[Nl]at Ht Hu;nofun;refine⟨_,_,rfl,ao U,λa2 Ie=>?_⟩;have Hr:=Ge.new (o:=.lst (zs.map sqD)) Ie;have HP:ag Hq a2 (.lst (zs.map sqD)) a2=S (.lst (zs.map sqD)):=aa;have L:=Hk.bx nlA npg noA npA nrA J ((Bx.refl Hk.box).ge Hr);have pz:PgI (ag Hq a2 (.lst (zs.map sqD))) a1 zs:=⟨Hr _ _ U,λx hx=>cN (Hz x hx) Hr⟩;generalize ag Hq a2 (.lst (zs.map sqD))=HM at Hr HP L pz;have ph:PgI HM a2 zs:=⟨HP,pz.s⟩;nofun;refine s9 ∅ ph L.mo L.mp L.ml L.mr l1 l2 b1 b2 Um ∅ (hE ∅ ∅) ∅ λHN HD=>?_
    nofun;obtain⟨ty,Ig,Ih⟩:=Er (fbP L0 L1 L2 (zs.map (·.1)) [] [] 0) HN;refine⟨ty,Ig,Up,by rw[Ih];rfl,?_⟩
    rw[if_neg q7];have Hm:=L.bx nlA npg noA npA nrA J ((Bx.refl L.box).ge HD);refine first ∅ (pz.ge HD) Hm.ml Um ∅ λHQ HR=>?_
    refine Es _ ⟨Up,rfl,?_⟩;rw[if_neg q7];have HS:=HD.trans HR;have p1:=pz.ge HS;have p2:=ph.ge HS;obtain⟨ps,eps⟩:=wG (k:=12) p1.s;have r1:rb 16 HQ (.ref a1)=S (.list ps):=by rw[gP p1.l,eps];rfl
    have r2:rb 16 HQ (.ref a2)=S (.list ps):=by rw[gP p2.l,eps];rfl
    refine⟨_,_,r2,r1,?_⟩;rw[Bo 16 _ _ r1];refine⟨Up,rfl,?_⟩;rw[if_neg q7];exact HW _ _ ⟨⟨_,_,_,_,_,rfl⟩,Hm.bx nlA npg noA npA nrA J ((Bx.refl Hm.box).ge HR)⟩
  ·rintro ρ M9 ⟨⟨u6,u7,u8,u9,HK,rfl⟩,S9⟩;exact hF _ _ ⟨_,_,_,_,_,_,_,_,_,_,rfl⟩
 ·rintro ρ M8 ⟨o1,o2,o3,o4,o5,o6,o7,o8,o9,Hf,rfl⟩;dsimp only;nofun
end K26
end
end
end Mi
end L2
end
namespace PySem.W.Fast
theorem tw1113403498567482647:True:=trivial
theorem tw12894103659558116246:True:=trivial
theorem tw3338111081951857476:True:=trivial
theorem tw4791664367443371658:True:=trivial
theorem tw5522496317508571745:True:=trivial
theorem tw8496418365279417107:True:=trivial
theorem tw13245534574058325577:True:=trivial
theorem tw12564597812704689623:True:=trivial
theorem tw8755043477342975620:True:=trivial
theorem tw8522225724809487096:True:=trivial
theorem tw13774615807871627759:True:=trivial
theorem tw9154546460260171013:True:=trivial
theorem tw1890654552488414697:True:=trivial
theorem tw11691115627207137761:True:=trivial
theorem tw13730492007213742773:True:=trivial
theorem tw4718638464638555852:True:=trivial
theorem tw13247369387279250410:True:=trivial
theorem tw13481044546843632906:True:=trivial
theorem tw13206098414137645748:True:=trivial
theorem tw13276729294785319338:True:=trivial
theorem tw13889127291977818453:True:=trivial
theorem tw18403373030969407981:True:=trivial
theorem tw7533108059906702327:True:=trivial
theorem tw5442871589526954333:True:=trivial
theorem tw4011815219455047395:True:=trivial
theorem tw12890120313702802431:True:=trivial
theorem tw487319471509670797:True:=trivial
theorem tw4291060167723381469:True:=trivial
theorem tw9096925904320257648:True:=trivial
theorem tw11305969270833587107:True:=trivial
theorem tw13200645916841837441:True:=trivial
theorem tw8487746566794372515:True:=trivial
theorem tw12084589662680509254:True:=trivial
theorem tw3954011682656905215:True:=trivial
theorem tw3804322591859368388:True:=trivial
theorem tw370377502174945959:True:=trivial
theorem tw9621122884299121390:True:=trivial
theorem tw7795835300508203068:True:=trivial
theorem tw6840428404480837082:True:=trivial
theorem tw13106825197859612514:True:=trivial
theorem tw9968864319995775040:True:=trivial
theorem tw9689803626338445029:True:=trivial
theorem tw14303793663382011073:True:=trivial
theorem tw18363861255413574734:True:=trivial
theorem tw1514224093970436508:True:=trivial
theorem tw16995015205431493949:True:=trivial
theorem tw14748069851987119520:True:=trivial
theorem tw6477799427805916631:True:=trivial
theorem tw16393204446895839575:True:=trivial
theorem tw16987603518304153240:True:=trivial
theorem tw16256090227558994314:True:=trivial
theorem tw15395093390262776802:True:=trivial
theorem tw11091684443256408388:True:=trivial
theorem tw1972487010945349100:True:=trivial
theorem tw7575203097226095049:True:=trivial
theorem tw10610577074042278255:True:=trivial
theorem tw12334803943277947001:True:=trivial
theorem tw2933807787958241188:True:=trivial
theorem tw2730851290145126602:True:=trivial
theorem tw9581028347564978891:True:=trivial
theorem tw13625718612831726519:True:=trivial
theorem tw23641039321539374:True:=trivial
theorem tw6891613702724270006:True:=trivial
theorem tw7443343921322736899:True:=trivial
theorem tw8986988214727668388:True:=trivial
theorem tw11110191325758292220:True:=trivial
theorem tw15384286244219329295:True:=trivial
theorem tw4938733421110121277:True:=trivial
theorem tw16768970537585164634:True:=trivial
theorem tw15332315334939699166:True:=trivial
theorem tw10096942343117919652:True:=trivial
theorem tw7802869901965433096:True:=trivial
theorem tw2273257134442469420:True:=trivial
theorem tw10059618063626943105:True:=trivial
theorem tw2193835587553783446:True:=trivial
theorem tw16408153682336920262:True:=trivial
theorem tw16770433372571025207:True:=trivial
theorem tw12094420377529470321:True:=trivial
theorem tw13828698375670329008:True:=trivial
theorem tw16130164536866655648:True:=trivial
theorem tw439945617723133676:True:=trivial
theorem tw9675259165451296009:True:=trivial
end PySem.W.Fast
open PySem.W in
set_option maxRecDepth 100000 in
set_option maxHeartbeats 0 in
theorem PySem.Challenge.cw_fewtimes_k26_steps_that_can_not_be_done_holds : PySem.Challenge.rw_fewtimes_k26_steps_that_can_not_be_done.Holds := by
 w_on;o_law;k_head;(case hw=>w_witness2)
 k_fill
 refine L2.Mi.K26.walk (l:=PySem.Challenge.rw_fewtimes_k26_steps_that_can_not_be_done) rfl rfl L2.Mi.K26.law_holds (fun w h Y=>PySem.W.kIn_of Y) ?F
 case F =>
  intro w mg fa h KX G hmg;refine' L2.Mi.K26.all_mk KX G hmg ?z ?_ ?_ ?_ ?_ ?_ ?_ ?_ ?_ ?_ ?_ ?_ ?_ ?_ ?_ ?_ ?_ ?_ ?_ ?_ ?_ ?_ ?_ ?_ ?_ ?_ ?_ ?_ ?_ ?_ ?_ ?_ ?_ ?_ ?_ ?_ ?_ ?_ ?_ ?_ ?_ ?_ ?_ ?_ ?_ ?_ ?_ ?_ ?_ ?_ ?_ ?_ ?_ ?_ ?_ ?_ ?_ ?_ ?_ ?_ ?_ ?_ ?_ ?_ ?_ ?_ ?_ ?_ ?_ ?_ ?_ ?_ ?_ ?_ ?_ ?_ ?_ ?_ ?_ ?_ ?_ ?_ ?_ ?_ ?_ ?_ ?_ ?_ ?_ ?_ ?_ ?_ ?_ ?_ ?_ ?_ ?_ ?_ ?_ ?_ ?_ ?_ ?_ ?_ ?_ ?_ ?_ ?_ ?_ ?_ ?_ ?_ ?_ ?_ ?_ ?_ ?_ ?_ ?_ ?_ ?_ ?_ ?_ ?_ ?_ ?_ ?_ ?_ ?_ ?_ ?_ ?_
  case z =>
   intro x hx;simp only [L2.Mi.bltNames,List.mem_cons,List.not_mem_nil,or_false] at hx
   rcases hx with rfl | rfl | rfl | rfl | rfl | rfl | rfl | rfl | rfl | rfl | rfl | rfl | rfl | rfl | rfl | rfl | rfl | rfl | rfl | rfl <;> k_is
  all_goals try (show _=_;first | k_is | k_exc | kit_is | rfl | decide +kernel)
