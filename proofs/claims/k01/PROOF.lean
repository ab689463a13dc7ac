import PyProof.Rows.All
import Wide.All
import OpenK.AllK
import Wide.FinOn
import Lean
import PyProof.EqAt
import PyProof.EqKinds
import PyProof.TupleCall
import PyProof.ZipIter
import PyProof.EnumMake
import PyProof.EnumFor
import PyProof.CollectIter
import PyProof.TupleKey
import PyProof.DictRoadsH
import PyProof.P3Eq
import PyProof.Rows.SeqMore
import PyProof.ConsumeWalk
import PyProof.Rows.SortShellK
import PyProof.DictItems
import PyProof.DictWalks
import PyProof.AttrMissHeap
import PyProof.DictIter
import PyProof.MaxThree
import PyProof.SeqI3
import PyProof.DictTruth
import PyProof.Rows.TupDisplay
import PyProof.ListCopy
import PyProof.NeKinds
import PyProof.SetKind
import PyProof.IsRules
import PyProof.Rows.SetFrom
import PyProof.SetRoads
import PyProof.RaisesDict
import KE.KDictOf
import PyProof.Rows.CallKwBuiltin
import PyProof.DelItemList
import PySem.Challenge.RW_fewtimes_k01_tasks_put_together
set_option Elab.async false
set_option linter.all false
set_option compiler.extract_closed false
set_option genSizeOf false
set_option bootstrap.genMatcherCode false
set_option maxRecDepth 100000
set_option maxHeartbeats 4000000
open PySem.W (Frag)
open PySem renaming wpAny_bind->b3,Value->gV,Shared->q7,wpAny_pure->r4,sizeLine->D2,wpAny->DU,model->E9,Program->Eg,sizeLine_eq->Ek,World->Ez,starEach->EA,Around->ED,wpAny_call_entry->EH,wpAny_setField_rec->EM,wpAny_callSpecial?_slot->EO,wpAny_holding->ES,Comprehension->ET,wpAny_newObj_type->EX,Paired->EZ,wpAny_mono->F2,PyData->F3,builtinLookup_eq_fast->F6,Builtin->Fc,mainGlobals->Fd,wpAny_Call_Name_kw->Fe,codeAny_builtin->Fi,mem_of_lookup->Fk,binaryOp->Fo,isSubtype_type->Fq,DictEntry->FC,wpAny_setState_of->FL,sysModules->FV,assignEach->FX,codeAny_mono->FY,foldedSetIterable->G3,cellsFrom->G5,typeLookup_type->Gb,codeAny->Gj,wpAny_field->Gs,wpAny_passesOwn->Gz,compareOp->GA,wpAny_ite_false->GC,wpAny_typeOf->GF,wpAny_of_eq->GG,pyNext->GH,NameKind->GR,wpAny_askSetting->GW,wpAny_isInstance->GX,cLine->GZ,bootBuiltins->H0,wpAny_rule->Ha,FuncData->Hi,HeapKind->Hl,tupleKind->Hm,wpAny_attempt->Ho,wpAny_truthy_bool->Hs,codeAny_call_builtin->Hz,firstArgMember->HA,rawInt->HJ,wpAny_standAt->HR,behindInMarks->HS,plainId_quiet->HW,Reads->HX,wpAny_specialOf->I8,backTo->Ic,swapsWith->Ig,sliceBounds->Ii,wpAny_pyIter_slot->Iq,ofAClassStatement->Iz,Model->IC,entryFor_of_tree->IK,swapsWithSole->IT,swappedStores->IU,wpAny_newList->IV,letOwnedTupleGo->J1,codeAny_of_tree->J6,wpAny_setEntries_of->J9,tupleKind_room_in1->Jk,wpAny_seqItems->Jm,wpAny_ite_true->Jr,wpAny_binaryOp_repeat_ref->Jt,standAt->Jy,wpAny_pyIter_list->Jz,pyIter->JC,attributeBase->JD,wpAny_comprehension_free->JE,setSearchFrom->JG,noFill_tuple_add->JI,entryFor->JL,checkBuiltinCall->JM,wpAny_forIn_list->JS,builtinsNs->JY,wpAny_load->K0,IsPart->K1,getItem->K2,typeIs_int->K5,Keyword->K6,call_meets->K7,argsOk->Ka,wpAny_execs_nil->Kf,pushCells_keeps->Ki,wpAny_loadPart'->Kj,weight_type_call_type->Kl,GenState->Ko,Result->Kr,newFunctionEnv->Kw,entryFor_alias->Kx,isSubtype_stop->Kz,codeAny_extend_loopS->KA,ReadsAll->KD,wpAny_newTuple->KH,wpAny_runValue->KI,carriedByValue->KJ,intKind->KO,BindsTo->KP,callerA->KQ,valueAt->KR,seq_tuple_add->L3,wpAny_handled->L5,wpAny_call->Ld,typeLookup->Lf,wpAny_pyIter_tuple->Li,Operator->Lq,concat_meets->Lv,wpAny_sequenceKey->Lw,seqIndex_neg->Lx,searchCouldBeSeen->LN,wpAny_storeSet_of->LO,wpAny_Dict_empty->Ma,pushCells->Mb,putSet_of->Ml,seqIndex_of->Ms,keywordEach->Mt,atKey->Mu,wpAny_throw->Mv,richCompare->Mx,hashByValue->MB,wpAny_Name->MX,bindL->MY,bindC->MZ,call->N1,newExc->N3,setsByText->N6,fieldsOf->N7
open PySem.Heap renaming get?_push_of_some->i2,lt_size->D0,get?_push_size->DW,get?_update_ne->EL,size_push->Fp,SameBut->Gi,get?_update_self->Hq,get?_update_other->Il
open Bool renaming and_eq_true->tv,false_ne_true->E5,false_eq_true->Ec,not_eq_true'->G8,not_true->HZ,and_eq_true_iff->IY,not_eq_true->JK,or_eq_true->Kk,false_or->L4,eq_iff_iff->MR
open List renaming getElem?_append_right->y1,pairwise_append->z3,getElem?_eq_getElem->z4,getElem?_eq_some_iff->DT,mem_cons->DX,length_map->DY,length_append->DZ,mem_map_of_mem->E6,getElem?_append_left->E7,size_toArray->E8,append_assoc->Ea,mem_append_right->Ed,mem_cons_of_mem->Ee,mem_append->Ef,mem_of_getElem?->Eh,mem_map->Ej,replicate->El,getElem?_map->Em,length_eq_zero_iff->Eo,length_take->Et,map_cons->Eu,toList_toArray->Ex,mem_cons_self->Ey,pairwise_map->EF,length_pos_iff->EI,not_mem_nil->EU,mem_append_left->EV,flatten_cons->EY,drop_eq_getElem_cons->F1,append_nil->F5,take_append_drop->F7,nodup_iff_pairwise_ne->Fg,replicate_succ->Fm,dropLast_concat_getLast->Fv,mem_singleton->FA,mem_iff_getElem->FE,mem_range->FH,nodup_cons->FN,find?_cons->FO,mem_iff_getElem?->FR,length_filter_le->FT,range->FW,Perm->G7,mem_filter->G9,length_nil->Ga,flatten_append->Gg,drop_eq_nil_of_le->Gk,take_of_length_le->Gm,map_map->Gq,length->Gr,lookup_cons->Gv,getElem?_drop->Gx,map_append->GD,getElem?_take_of_lt->GJ,filterMap_cons->GP,getElem?_cons_succ->GY,getElem?_set_self->H8,pairwise_cons->Hb,find?_cons_of_neg->Hf,filter_append->Hh,any_cons->Hn,perm_append_comm->Hr,reverse_cons->Ht,reverse_perm->Hw,mem_of_mem_take->HB,mem_reverse->HF,all_eq_true->HH,length_reverse->HM,filter_sublist->HN,extract->Ir,ext_getElem?->Iu,nodup_append->Iw,find?_cons_of_pos->IA,length_singleton->ID,getElem?_eq_none->IF,length_drop->IG,foldl->IH,length_cons->II,any_eq_true->IS,all_cons->IW,getElem?_set_ne->IX,mem_of_mem_drop->IZ,foldl_cons->J2,nil_append->J3,forIn_cons->J5,map_congr_left->Ja,mem_filterMap->Jf,drop_drop->Jo,pairwise_iff_getElem->Jv,getElem?_replicate->JH,perm_middle->JQ,getElem?_cons_zero->JT,filter_cons_of_pos->JU,filter_cons_of_neg->JV,map_nil->K8,of_mem_zip->Kg,pairwise_reverse->Km,nodup_nil->Kv,reverse_reverse->KG,getElem?_range->KW,map_singleton->Lm,set_cons_zero->Lo,set_cons_succ->Lp,take_sublist->Lu,take_add_one->LD,foldl_append->LQ,length_range->LU,drop_length->Mc,getElem_mem->Md,cons_append->Me,map_snd_zip->Mg,map_id->My,cons->Ni
open PyProof.Rows renaming wpS_bind->y2,Keyed->D1,pendingOf->E1,arrOf->Es,wpS_forRange->EJ,SortSt->EN,kindOf->Fj,callWith_type1->FF,failedOf->FI,wpS_modify->FJ,slot_tuple_getitem->FP,get?_update_seq->Gf,listUpdate_at->GN,wpS_get->GQ,callWith_builtin1->GS,setPending->HD,SortKind->HY,mem_zip_self->Jd,AllBare->Jx,seqSlot_of->JN,subscriptTail_builtinR->K4,envOfC->Ks,entry_tuple_getitem->KS,args_tuple_getitem->Le,seqObj->Ll,listItems_at->LG,entry_list_iadd'->Mh,keyKind'_eq->Mz,seqEpoch_at->MA,IntsAre->MW,mergeAt'->N4
open Array renaming getElem?_toList->DS,getElem?_eq_getElem->DV,toList_append->E3,toList_push->E4,length_toList->Ei,getD_eq_getD_getElem?->Ew,toList_reverse->EE,toList_extract->G1,getElem?_eq_none->He,size_append->Hv,getElem?_eq_some_iff->HE,toList_inj->HG,replicate->Ib,map->IM,size_push->J7,toList_setIfInBounds->Jp,toList->JZ,getElem?_map->Lk,forIn_toList->Ln,all_eq_true->LH,toList_map->Mk,filterMap->MQ
open Nat renaming le_refl->E2,ne_of_lt->Ep,lt_of_lt_of_le->Er,lt_irrefl->EB,zero_le->ER,ne_of_gt->F8,le_trans->Fu,not_lt_zero->Fx,le_of_lt->H4,zero_add->Hc,lt_succ_of_lt->Hu,min_eq_left->I9,le_add_right->IQ,sub_self->Jc,lt_trichotomy->JB,succ_le_succ->JO,lt_succ_self->JP,succ_pos->Kd,add_assoc->L6,mul_comm->Lz,lt_trans->LA,succ_add->LL,le_of_lt_succ->LM,div_eq_of_lt->Mj,not_lt->N2,mod_lt->N5
open PySem.Value renaming ref->Eb,type->EG,none->FU,bool->Lc,int->LV,str->LW,isInt->Mq
open PySem.NameKind renaming free->EC,cell->FZ
open List.Perm renaming append_left->EK,append_right->EW,of_eq->Hk,refl->HC
open PySem.PyData renaming eqv->F4,canLayAll0->Fb,depthAll->Gc,eqvAll->GL,depth->Hd,canLay0->Iv,list->Mw
open PySem.Str renaming ofString->F9
open PySem.SetTable renaming turns->Ff,leap->Fs,below->Ft,runEnd->Fy,bits->G0,insertAt->Hx,advance->IP,probeStart->J8,sizeAbove->Js,layClean->JA,fits->L7,tooFull->Mm
open PySem.W renaming kia_one->Fh,mg_of->FG,keepIn->Gw,fnOf->H9,cellsFrom_some->Ij,nsIn->Jb,codeIn->Jg,methodObj->Jw,instObj->Ke,OpenLaw->Kh,lookIn->Kq,kitx_list->Lr,kitx_dict->Ls,plainGet->LX
open PySem.Obj renaming mapSeq->Fl,putSet->GO
open Option renaming some->Fn,isSome_iff_exists->GI,map_some->I0,map_eq_some_iff->Ip,bind_some->JR,isSome_some->Lg,map->Lj,getD_none->LY,join_some->Mn,bind_none->Mo,join_none->Mp
open PySem.SeqAt renaming readOf->Fw,readOf_eq->Gd,eqAt_reads->Mf
open PySem.Calls renaming spliced_cons->Fz,spliced_nil->G4,callWith_builtin->Im,Name_function_global->Je,evalArgs_plain->Ku
open PySem.Builtin.Dict_items renaming pairFromOwner->FK,ownedTupleIsFree->Gu,isOneOf->Jq
open Classical renaming byContradiction->FQ
open Int renaming toNat_natCast->G6,emod_lt_of_pos->Hg,emod_nonneg->Ia
open PyProof.Rows.F renaming plain_set_update_loop->Gh,entry_set_update_loop->HP
open PySem.Builtin.List renaming listLengthHint->Gn,listTooLong->HV,listItems->Kb
open PySem.SetTable.layClean renaming free->Gp
open PySem.Builtin.Slice renaming slicePlaces->Gy,sliceAdjust->HI,sliceApplied->Jh
open LawfulBEq renaming eq_of_beq->GB
open PySem.Builtin.Tuple renaming tupleExact->GK,tupleCompareSizes->IB,tupleItemsOf->Ji,tupleIsExact->Jj,tupleTooMany->Jn,tupleHashOf->Ju
open PySem.Data renaming seq->GU,fields->Mr
open ForInStep renaming yield->Hj
open True renaming intro->Hy
open PySem.F renaming plain_extend_loop->HK,args_tuple_add_2->HU,entry_tuple_add->Ih,slot_tuple_add->Ik,slot_dict_get->IE,slot_int_rmul->J4,args_dict_get_3->JJ,entry_dict_get->K9,slot_dict_items_iter->Kc,entry_proto_collect->Kn,entry_extend_loop->KY,args_int_rmul_2->Ly,entry_type_call->LB,slot_dict_items->LK,entry_int_rmul->LZ,fills_int_mul->MM,slot_tuple_lt->MP,plain_set_new->MU,slot_set_iter->MV
open PySem.Paired renaming length->HQ
open PySem.Code renaming quiet_builtin->Ie,builtin->LJ
open List.Pairwise renaming nil->Io
open PySem.SetTable.probe renaming go->Iy
open And renaming intro->IJ
open PyProof.Rows.SortSt renaming mk'->IL
open PySem.Around renaming under_plainId->J0,under_plain->Jl,in1_handled->Lh
open PySem.Shared renaming TypeIs->JF
open Sum renaming inl->JW,inr->JX
open PySem.Expr renaming Subscript->KL,Attribute->KN,Constant->L8,ListComp->L9,UnaryOp->LR,Compare->LS,BoolOp->MD,BinOp->N8,IfExp->N9,Tuple->Na,Slice->Nb,Name->Nj,List->Nk,Call->Nl,Dict->Nm
open PySem.Builtin.Int renaming intBits->KU
open PySem.Heap.SameBut renaming update->KZ,refl->LI
open PySem.Stmt renaming Continue->La,Assign->MJ,Return->MK,While->Nc,Break->Nf,Expr->Np,Pass->Nq
open PySem.Env renaming blockKind->Lb,kindOf->Ng
open Iff renaming rfl->LC
open Exists renaming intro->LF
open PySem.IsTupleKey renaming typeIs->LP
open List.cons renaming injEq->MN
open PyProof.Rows.IsTup renaming new->Nh
open Option renaming some->Z,none->Y
open Bool renaming true->NQ,false->NR
open PySem renaming Addr->NS
section
theorem NT{a b c:Nat}(h:b<=c)(k:a<=b):a<=c:=Nat.le_trans k h
theorem NU{a b c:Nat}(h:b<=c)(k:a+1<=b):a<=c-1:=Nat.le_sub_of_add_le (Nat.le_trans k h)
theorem NV{a b:Nat}(h:Nat.ble (a+1) b=true):a<b:=Nat.le_of_ble_eq_true h
local macro_rules|`(∅)=>`(by first|with_reducible assumption|with_reducible exact Nat.le_of_ble_eq_true rfl|with_reducible exact NV rfl|exact NT (by with_reducible assumption) (by with_reducible exact Nat.le_of_ble_eq_true rfl)|exact NU (by with_reducible assumption) (by with_reducible exact Nat.le_of_ble_eq_true rfl)|lia)
namespace L2
open PySem PySem.Spec PyProof.Rows
section
noncomputable abbrev Key:=Sum Int Str
noncomputable def eI:Key->gV->Bool
 |.inl k,v=>Mq k v
 |.inr x,v=>Value.isStrOf x v
noncomputable def zz(w:Ez):Key->Int
 |.inl k=>hashInt k
 |.inr x=>hashStr w x
theorem aD:∀{k:Key} {v:gV},eI k v=NQ->(∃i t,k=JW i/\v=LV i t)∨(∃x t,k=JX x/\v=LW x t)
 |.inl i,v,h=>by obtain⟨t,e⟩:=Value.isInt_shape (k:=i) (v:=v) h;exact .inl ⟨i,t,rfl,e⟩
 |.inr x,v,h=>by obtain⟨t,e⟩:=Value.isStrOf_shape (x:=x) (v:=v) h;exact .inr ⟨x,t,rfl,e⟩
theorem oJ(i:Int)(t:Tok):eI (.inl i) (.int i t)=NQ:=by simp[eI,Mq]
theorem oK(x:Str)(t:Tok):eI (.inr x) (.str x t)=NQ:=by simp[eI,Value.isStrOf]
theorem wg(a b:Int):decide ((JW a:Key)=JW b)=(a==b):=by
 by_cases e:a=b
 ·subst e;simp
 ·have h:¬(JW a:Key)=JW b:=λq=>e (JW.inj q);rw[decide_eq_false h];exact(beq_eq_false_iff_ne.mpr e).symm
theorem wj(a b:Str):decide ((JX a:Key)=JX b)=decide (a=b):=by
 by_cases e:a=b
 ·subst e;simp
 ·have h:¬(JX a:Key)=JX b:=λq=>e (JX.inj q);rw[decide_eq_false h,decide_eq_false e]
theorem wk(a:Int)(b:Str):decide ((JW a:Key)=JX b)=NR:=decide_eq_false (λq=>nomatch q)
theorem wl(a:Str)(b:Int):decide ((JX a:Key)=JW b)=NR:=decide_eq_false (λq=>nomatch q)
noncomputable def ay(prog:Eg)(w:Ez):PySem.KeyKind prog w Key where
 is:=eI
 hash:=zz w
 inj:=λv a b ha hb=>by
  rcases aD ha with⟨i,t,rfl,rfl⟩|⟨x,t,rfl,rfl⟩
  ·rcases aD hb with⟨j,u,rfl,e⟩|⟨y,u,rfl,e⟩
   ·injection e with e1 _;rw[e1]
   ·exact nomatch e
  ·rcases aD hb with⟨j,u,rfl,e⟩|⟨y,u,rfl,e⟩
   ·exact nomatch e
   ·injection e with e1 _;rw[e1]
 byValue:=λk v h=>by rcases aD h with⟨i,t,rfl,rfl⟩|⟨x,t,rfl,rfl⟩<;>rfl
 pyHash:=λhv h=>by
  rcases aD hv with⟨i,t,rfl,rfl⟩|⟨x,t,rfl,rfl⟩
  ·exact wpAny_pyHash_int h
  ·exact wpAny_pyHash_str h
 eqBool:=λhu hv h=>by
  rcases aD hu with⟨i,t,rfl,rfl⟩|⟨x,t,rfl,rfl⟩
  ·rcases aD hv with⟨j,u,rfl,rfl⟩|⟨y,u,rfl,rfl⟩
   ·rw[wg]at h;exact wpAny_eqBool_int h
   ·rw[wk]at h;exact SeqAt.EqAt.int_str i t y u _ _ _ _ h
  ·rcases aD hv with⟨j,u,rfl,rfl⟩|⟨y,u,rfl,rfl⟩
   ·rw[wl]at h;exact SeqAt.EqAt.str_int x t j u _ _ _ _ h
   ·rw[wj]at h;exact wpAny_eqBool_str h
 «strs»:=λk x t v h=>by
  rcases aD h with⟨i,u,rfl,e⟩|⟨y,u,rfl,e⟩
  ·exact nomatch e
  ·injection e with e1 _
   subst e1
   cases v<;>rfl
theorem lq(prog:Eg)(w:Ez)(i:Int)(t:Tok):(ay prog w).is (.inl i) (.int i t)=NQ:=oJ i t
theorem lr(prog:Eg)(w:Ez)(x:Str)(t:Tok):(ay prog w).is (.inr x) (.str x t)=NQ:=oK x t
end
variable{us:List gV}{a b:NS}{P:Eg}{w:Ez}{h:Heap}
section
inductive V where
 |non|bl (b:Bool)|int (i:Int)|str (x:Str)|byt (b:Array UInt8)|flt (b:UInt64)|ref (a:NS)|ty (n:String)
 deriving DecidableEq
noncomputable def RelV:V->gV->Prop
 |.non,u=>u=FU
 |.bl b,u=>u=Lc b
 |.int i,u=>∃t,u=LV i t
 |.str x,u=>∃t,u=LW x t
 |.byt b,u=>∃t,u=Value.bytes b t
 |.flt b,u=>∃t,u=Value.float b t
 |.ref a,u=>u=Eb a
 |.ty n,u=>u=EG n
noncomputable abbrev Vals:List V->List gV->Prop:=EZ RelV
theorem Vals.length{xs:List V}(r:Vals xs us):xs.length=us.length:=HQ r
theorem Vals.get:∀{xs:List V} {us:List gV} {i:Nat} {x:V},Vals xs us->xs[i]?=Z x->∃u,us[i]?=Z u/\RelV x u
 |_,_,_,_,.nil,e=>by simp at e
 |_,_,0,_,.cons r _,e=>by simp at e;subst e;exact⟨_,rfl,r⟩
 |_,_,i+1,x,.cons _ t,e=>by
  obtain⟨u,h1,h2⟩:=Vals.get (i:=i) (x:=x) t (by simpa using e)
  exact⟨u,by simpa using h1,h2⟩
theorem Vals.set{x:V}{u:gV}(r:RelV x u):∀{xs:List V} {us:List gV} (i:Nat),Vals xs us->Vals (xs.set i x) (us.set i u)
 |_,_,_,.nil=>.nil
 |_,_,0,.cons _ t=>.cons r t
 |_,_,i+1,.cons q t=>.cons q (Vals.set r i t)
theorem Vals.append:∀{xs ys:List V} {us ws:List gV},Vals xs us->Vals ys ws->Vals (xs++ys) (us++ws)
 |_,_,_,_,.nil,s=>s
 |_,_,_,_,.cons r t,s=>.cons r (Vals.append t s)
theorem Vals.take:∀{xs:List V} {us:List gV} (n:Nat),Vals xs us->Vals (xs.take n) (us.take n)
 |_,_,0,_=>.nil
 |_,_,_+1,.nil=>.nil
 |_,_,n+1,.cons r t=>.cons r (Vals.take n t)
theorem Vals.drop:∀{xs:List V} {us:List gV} (n:Nat),Vals xs us->Vals (xs.drop n) (us.drop n)
 |_,_,0,r=>r
 |_,_,_+1,.nil=>.nil
 |_,_,n+1,.cons _ t=>Vals.drop n t
noncomputable def RelO:Option V->Option gV->Prop
 |some v,Z u=>RelV v u
 |none,Y=>True
 |_,_=>False
noncomputable def KV{κ:Type}:List (κ×V)->List (κ×gV)->Prop:=EZ λ(p:κ×V) (q:κ×gV)=>p.1=q.1/\RelV p.2 q.2
noncomputable def kV:Key->V
 |.inl i=>.int i
 |.inr x=>.str x
inductive HO where
 |lst (xs:List V)
 |tup (xs:List V)
 |dK (kvs:List (Key×V))|dT (kvs:List (List Key×V))
 |set (S:Int->Bool) (n:Nat)
 |ins (C dx:NS) (fs:List (Str×V))
 |own (x:NS)
 |xd (fs:List (Str×V))
 |met (f x:NS)
 |rng (lo hi:Int)
 |frz (o:Obj) (u:HO)
 |tbl (ps:Array gV)
 |ext (φ:Heap->Prop)
noncomputable abbrev Hp:=NS->Option HO
noncomputable def upd(H:Hp)(a:NS)(o:HO):Hp:=λb=>if b=a then Z o else H b
theorem aH{H:Hp}{o:HO}:upd H a o a=Z o:=by unfold upd;rw[if_pos rfl]
theorem aj{H:Hp}{o:HO}(h:b≠a):upd H a o b=H b:=by unfold upd;rw[if_neg h]
theorem yo{H:Hp}{o u:HO}(h:H a=Z o)(h':H b=Z u)(d:o≠u):a≠b:=by intro e;subst e;rw[h]at h';exact d (Fn.inj h')
theorem aJ{H:Hp}{o:HO}(h:H a=Z o)(h':H b=Y):a≠b:=by intro e;subst e;rw[h]at h';cases h'
section
variable(P:Eg)(w:Ez)
noncomputable def ObjOk(H:Hp)(h:Heap)(a:NS):HO->Prop
 |.lst xs=>xs.length<=D2/\∃(its:List gV) (n:Nat),Vals xs its/\h.get? a=Z {cls:=.type "list",data:=.seq its.toArray n}
 |.tup xs=>xs.length<=D2/\∃its:List gV,Vals xs its/\IsTup h a its.toArray
 |.dK kvs=>kvs.length<=D2/\(a==FV)=NR/\∃vs,KV kvs vs/\h.DictOf (ay P w) a vs
 |.dT kvs=>kvs.length<=D2/\(a==FV)=NR/\∃xs:List (List Key×NS×gV),
  EZ (λ(p:List Key×V) (q:List Key×NS×gV)=>p.1=q.1/\H q.2.1=Z (.tup (p.1.map kV))/\RelV p.2 q.2.2) kvs xs /\
  ∃o es ep,h.get? a=Z o/\o.ExactDict/\o.data=.dict es ep/\es.toList=xs.map (entryOfKey (Hm (ay P w)))/\(xs.map (·.1)).Nodup
 |.set S n=>h.SetOf (KO P w) a S n
 |.ins C dx fs=>H dx=Z (.own a)/\fs.length<=1000/\dx≠a/\h.get? a=Z (Ke C dx) /\
  ∃mA,h.Ns1 dx mA/\(∀f,RelO (fs.lookup f) (mA f))/\PySem.Within mA (fs.map (·.1))
 |.own _=>∃o,h.get? a=Z o
 |.xd fs=>∃mA,h.Ns1 a mA/\∀f,RelO (fs.lookup f) (mA f)
 |.rng lo hi=>∃t u v,h.get? a=Z {cls:=.type "range",data:=.fields #[.int lo t,.int hi u,.int 1 v]}
 |.frz o u=>h.get? a=Z o/\ObjOk H h a u
 |.tbl ps=>h.get? a=Z {cls:=.none,data:=.fields ps}
 |.met f x=>h.get? a=Z (Jw (.ref f) (.ref x))
 |.ext φ=>φ h/\(∃o,h.get? a=Z o)/\∀h1 h2:Heap,φ h1->(∀o,h1.get? a=Z o->h2.get? a=Z o)->φ h2
def HOk(H:Hp)(h:Heap):Prop:=∀a o,H a=Z o->ObjOk P w H h a o
end
section
variable{P:Eg}{w:Ez}{H H':Hp}{h h':Heap}{a:NS}{o:HO}
theorem ObjOk.lt(x:ObjOk P w H h a o):a<h.objs.size:=by
 cases o with
 |lst xs=>obtain⟨_,_,_,_,e⟩:=x;exact D0 e
 |tup xs=>obtain⟨_,_,_,p⟩:=x;exact p.lt
 |dK kvs=>obtain⟨_,_,_,_,o,_,_,e,_⟩:=x;exact D0 e
 |dT kvs=>obtain⟨_,_,_,_,o,_,_,e,_⟩:=x;exact D0 e
 |set S n=>obtain⟨o,_,_,_,e,_⟩:=x;exact D0 e
 |ins C dx fs=>obtain⟨_,_,_,e,_⟩:=x;exact D0 e
 |own y=>obtain⟨_,e⟩:=x;exact D0 e
 |xd fs=>obtain⟨_,⟨_,_,_,e,_⟩,_⟩:=x;exact D0 e
 |rng lo hi=>obtain⟨_,_,_,e⟩:=x;exact D0 e
 |frz ob u=>obtain⟨e,_⟩:=x;exact D0 e
 |tbl ps=>exact D0 (show h.get? a=Z _ from x)
 |met f y=>exact D0 (show h.get? a=Z _ from x)
 |ext φ=>obtain⟨_,⟨_,e⟩,_⟩:=x;exact D0 e
theorem Nw{α β:Type}{F G:α->β->Prop}:∀{l₁:List α} {l₂:List β},EZ F l₁ l₂->(∀a b,F a b->G a b)->EZ G l₁ l₂
 |_,_,.nil,_=>.nil
 |_,_,.cons r t,f=>.cons (f _ _ r) (Nw t f)
theorem ObjOk.stay(x:ObjOk P w H h a o)(k:∀b u,(b=a∨H b=Z (.own a))->h.get? b=Z u->h'.get? b=Z u)(ho:∀b,H b=Z (.own a)->H' b=Z (.own a))(j:∀b xs,H b=Z (.tup xs)->H' b=Z (.tup xs)):ObjOk P w H' h' a o:=by
 induction o with
 |lst xs=>obtain⟨z,its,n,r,e⟩:=x;exact⟨z,its,n,r,k _ _ (.inl rfl) e⟩
 |tup xs=>obtain⟨z,its,r,ob,e,c⟩:=x;exact⟨z,its,r,ob,k _ _ (.inl rfl) e,c⟩
 |dK kvs=>obtain⟨z,y,vs,r,ob,es,ep,e,c⟩:=x;exact⟨z,y,vs,r,ob,es,ep,k _ _ (.inl rfl) e,c⟩
 |dT kvs=>obtain⟨z,y,xs,r,ob,es,ep,e,c⟩:=x;exact⟨z,y,xs,Nw r λp q z=>⟨z.1,j _ _ z.2.1,z.2.2⟩,ob,es,ep,k _ _ (.inl rfl) e,c⟩
 |set S n=>obtain⟨ob,es,ep,t,e,c⟩:=x;exact⟨ob,es,ep,t,k _ _ (.inl rfl) e,c⟩
 |ins C dx fs=>obtain⟨d,z,ne,e,mA,⟨od,es,ep,B,c⟩,r⟩:=x;exact⟨ho _ d,z,ne,k _ _ (.inl rfl) e,mA,⟨od,es,ep,k _ _ (.inr d) B,c⟩,r⟩
 |own y=>obtain⟨ob,e⟩:=x;exact⟨ob,k _ _ (.inl rfl) e⟩
 |xd fs=>obtain⟨mA,⟨od,es,ep,e,c⟩,r⟩:=x;exact⟨mA,⟨od,es,ep,k _ _ (.inl rfl) e,c⟩,r⟩
 |rng lo hi=>obtain⟨t,u,v,e⟩:=x;exact⟨t,u,v,k _ _ (.inl rfl) e⟩
 |frz ob u ih=>obtain⟨e,q⟩:=x;exact⟨k _ _ (.inl rfl) e,ih q⟩
 |tbl ps=>have e:h.get? a=Z {cls:=.none,data:=.fields ps}:=x;show h'.get? a=Z {cls:=.none,data:=.fields ps};exact k a _ (.inl rfl) e
 |met f y=>have e:h.get? a=Z (Jw (.ref f) (.ref y)):=x;show h'.get? a=Z (Jw (.ref f) (.ref y));exact k a _ (.inl rfl) e
 |ext φ=>obtain⟨p,⟨o,e⟩,st⟩:=x;exact⟨st _ _ p λo q=>k _ _ (.inl rfl) q,⟨o,k _ _ (.inl rfl) e⟩,st⟩
theorem HOk.lt(x:HOk P w H h)(e:H a=Z o):a<h.objs.size:=(x a o e).lt
theorem HOk.fresh(x:HOk P w H h)(e:h.objs.size<=a):H a=Y:=by
 cases q:H a with
 |none=>rfl
 |some u=>exact absurd (Er (x.lt q) e) (EB _)
theorem HOk.kept(x:HOk P w H h)(k:∀b u,h.get? b=Z u->h'.get? b=Z u):HOk P w H h':=λa o e=>(x a o e).stay (λb u _ q=>k b u q) (λ_ q=>q) λ_ _ q=>q
theorem HOk.laid(x:HOk P w H h)(k:∀b u,h.get? b=Z u->h'.get? b=Z u)(z:h.objs.size<=a)(new:ObjOk P w (upd H a o) h' a o):HOk P w (upd H a o) h':=λb u e=>by
 have j:=x.fresh z
 by_cases hb:b=a
 ·subst hb;rw[aH]at e;cases e;exact new
 ·rw[aj hb]at e;exact(x b u e).stay (λc v _ q=>k c v q) (λc q=>by rw[aj (aJ q j)];exact q) λc xs q=>by rw[aj (aJ q j)];exact q
end
def Rd(H:Hp)(a:NS)(u:HO):Prop:=H a=Z u∨∃o,H a=Z (.frz o u)
theorem Rd.of{H:Hp}{u:HO}(h:H a=Z u):Rd H a u:=.inl h
theorem Rd.ok{H:Hp}{u:HO}(r:Rd H a u)(x:HOk P w H h):ObjOk P w H h a u:=by
 rcases r with r|⟨o,r⟩
 ·exact x a u r
 ·obtain⟨_,q⟩:=x a _ r;exact q
noncomputable def Mut:Option HO->Prop
 |some (.lst _)=>True
 |some (.dK _)=>True
 |some (.dT _)=>True
 |some (.set _ _)=>True
 |some (.ins _ _ _)=>True
 |some (.ext _)=>True
 |_=>False
section
variable{P:Eg}{w:Ez}{H:Hp}{h h':Heap}{x e:NS}{o':HO}
theorem HOk.write(ok:HOk P w H h)(mu:Mut (H x))(he:e=x∨H e=Z (.own x))(k:∀b u,b≠e->h.get? b=Z u->h'.get? b=Z u)(F:∃u,h'.get? e=Z u)(new:ObjOk P w (upd H x o') h' x o'):HOk P w (upd H x o') h':=λb u q=>by
 have nown:∀c y,H c=Z (.own y)->c≠x:=λc y r z=>by subst z;rw[r]at mu;exact mu
 have ntup:∀c xs,H c=Z (.tup xs)->c≠x:=λc xs r z=>by subst z;rw[r]at mu;exact mu
 by_cases hb:b=x
 ·subst hb;rw[aH]at q;cases q;exact new
 ·rw[aj hb]at q
  by_cases j:b=e
  ·have q':H b=Z (.own x):=by
    rcases he with z|z
    ·exact absurd (j.trans z) hb
    ·rw[j];exact z
   rw[q]at q';cases q';obtain⟨v,J⟩:=F;exact⟨v,by rw[j];exact J⟩
  ·refine(ok b u q).stay (λc v B r=>k c v ?_ r) (λc r=>by rw[aj (nown c b r)];exact r) λc xs r=>by rw[aj (ntup c xs r)];exact r
   rcases B with rfl|B
   ·exact j
   ·rintro rfl
    rcases he with z|z
    ·exact nown c b B z
    ·rw[B]at z;cases z;exact hb rfl
end
structure Un(fs ex:List NS)(H H':Hp)(h h':Heap):Prop where
 keep:∀b o,h.get? b=Z o->H b=Y->b∉fs->b∉ex->h'.get? b=Z o
 slot:∀b o,h.get? b=Z o->H b=Y->b∈fs->b∉ex->∃sl,h'.get? b=Z {o with slots:=sl}
 free:∀b o,h.get? b=Z o->H b=Y->b∉ex->H' b=Y
 there:∀b o,h.get? b=Z o->b∉ex->∃o',h'.get? b=Z o'
 tups:∀b xs,H b=Z (.tup xs)->H' b=Z (.tup xs)
 frzs:∀b o u,H b=Z (.frz o u)->H' b=Z (.frz o u)
 tbls:∀b ps,H b=Z (.tbl ps)->∃more,H' b=Z (.tbl (ps++more))
section
variable{fs fs' ex ex':List NS}{H H1 H2:Hp}{h h1 h2 h':Heap}{a x e:NS}{o:HO}
theorem Un.any(u:Un fs ex H H1 h h1){ob:Obj}(q:h.get? b=Z ob)(n:H b=Y)(hx:b∉ex):∃sl,h1.get? b=Z {ob with slots:=sl}:=by
 by_cases j:b∈fs
 ·exact u.slot b ob q n j hx
 ·exact⟨ob.slots,u.keep b ob q n j hx⟩
theorem Un.kept(k:∀b u,h.get? b=Z u->h'.get? b=Z u):Un fs ex H H h h':=⟨λb ob q _ _ _=>k b ob q,λb ob q _ _ _=>⟨ob.slots,k b ob q⟩,λ_ _ _ n _=>n,λb ob q _=>⟨ob,k b ob q⟩,λ_ _ q=>q,λ_ _ _ q=>q,λ_ ps q=>⟨#[],by rw[q];simp⟩⟩
theorem Un.refl:Un fs ex H H h h:=Un.kept λ_ _ q=>q
theorem Un.laid(k:∀b u,h.get? b=Z u->h'.get? b=Z u)(z:h.objs.size<=a)(j:H a=Y):Un fs ex H (upd H a o) h h' where
 keep:=λb u q _ _ _=>k b u q
 slot:=λb u q _ _ _=>⟨u.slots,k b u q⟩
 free:=λb u q n _=>by rw[aj (Ep (Er (D0 q) z))];exact n
 there:=λb u q _=>⟨u,k b u q⟩
 tups:=λb xs q=>by rw[aj (aJ q j)];exact q
 frzs:=λb u xs q=>by rw[aj (aJ q j)];exact q
 tbls:=λb ps q=>⟨#[],by rw[aj (aJ q j),q];simp⟩
theorem Un.write(mu:Mut (H x))(he:e=x∨H e=Z (.own x))(k:∀b u,b≠e->h.get? b=Z u->h'.get? b=Z u)(B:∃u,h'.get? e=Z u):Un fs ex H (upd H x o) h h':=by
 have hx:∀b,H b=Y->b≠x:=λb n z=>by subst z;rw[n]at mu;exact mu
 have F:∀b,H b=Y->b≠e:=λb n z=>by
  subst z
  rcases he with r|r
  ·exact hx b n r
  ·rw[n]at r;cases r
 have hm:∀b u,H b=Z u->¬Mut (Z u)->b≠x:=λb u q nm z=>by subst z;rw[q]at mu;exact nm mu
 refine⟨λb u q n _ _=>k b u (F b n) q,λb u q n _ _=>⟨u.slots,k b u (F b n) q⟩,λb u q n _=>by rw[aj (hx b n)];exact n,λb u q _=>?_,
  λb xs q=>by rw[aj (hm b _ q λz=>z)];exact q,λb u xs q=>by rw[aj (hm b _ q λz=>z)];exact q,λb ps q=>⟨#[],by rw[aj (hm b _ q λz=>z),q];simp⟩⟩
 by_cases j:b=e
 ·subst j;exact B
 ·exact⟨u,k b u j q⟩
end
noncomputable def trk(h:Heap)(H:Hp):List NS:=(FW h.objs.size).filter λa=>(H a).isSome
noncomputable def dr(h:Heap)(H:Hp):Heap:=PySem.W.hideAll h (trk h H)
theorem oM(h:Heap)(H:Hp):(dr h H).objs.size=h.objs.size:=PySem.W.hideAll_size _ _
theorem qT{H:Hp}{o:Obj}(e:h.get? b=Z o)(n:H b=Y):(dr h H).get? b=Z o:=
 PySem.W.hideAll_get _ e λhm=>by have q:(H b).isSome=NQ:=(G9.mp hm).2;rw[n]at q;simp at q
theorem uy{H:Hp}{o:Obj}(e:(dr h H).get? b=Z o):h.get? b=Z o/\H b=Y:=by
 have e':h.get? b=Z o:=PySem.W.of_hideAll (trk h H) e;refine⟨e',?_⟩
 cases q:H b with
 |none=>rfl
 |some x=>
  have hm:b∈trk h H:=G9.mpr ⟨FH.mpr (D0 e'),by simp[q]⟩
  have z:(dr h H).get? b=Y:=PySem.W.hideAll_none (trk h H) hm;rw[z]at e;cases e
noncomputable def uz(g h:Heap)(L:NS):List (NS×Obj):=(FW h.objs.size).filterMap λa=>if a=L∨(g.get? a).isSome=NQ then Y else(h.get? a).map λo=>(a,o)
noncomputable def rest(g h:Heap)(L d:NS):List (NS×Obj):=(uz g h L).filter λp=>decide (p.1≠d)
end
variable{H:Hp}{o:HO}{u:gV}{t' i:Nat}{ch:List NS}{x:Str}{e:Expr}{N:List Str}{M:IC}{A:ED}{v:V}{s:q7}
section
structure Mod(K:Frag)(mg:Str->Option gV)(base:Heap):Prop where
 kin:K.In base
 glob:base.Ns Fd mg
 blt:∃mb,base.Ns JY mb/\∀x:Str,x≠"__name__"->mb x=H0 x
 nolimit:base.NoLimit
structure Cx where
 prog:Eg
 w:Ez
 K:Frag
 mg:Str->Option gV
 base:Heap
 A:ED
 N:List Str
 s₀:q7
 H₀:Hp
 env:Env
 outer:List Env
 stack:List Env
 ex:List NS
 fn:Str->Bool
 calm:Bool
 pn:List (NS×Obj)
 xe:gV->q7->Prop
noncomputable def frs(l:List Env):List NS:=l.filterMap (·.frame)
noncomputable abbrev Cx.fs(X:Cx):List NS:=frs X.outer
def Vis(sc:Scope)(x:Str):Prop:=sc.names.lookup x=Z .local∨sc.names.lookup x=Z .cell∨sc.names.lookup x=Z .free
def Loc(sc:Scope)(x:Str):Prop:=sc.names.lookup x=Z .local∨sc.names.lookup x=Z .cell
def zA(env:Env)(h:Heap)(m:Str->Option gV)(x:Str)(u:gV):Prop:=(env.kindOf x=Z .local/\m x=Z u)∨((env.kindOf x=Z .cell∨env.kindOf x=Z .free)/\∃c,env.cells.lookup x=Z c/\h.IsCell c (Z u))
structure Cx.Ok(X:Cx):Prop where
 mod:Mod X.K X.mg X.base
 kind:X.env.scope.kind=.function
 glob:X.env.globals=Fd
 blt:X.env.builtins=JY
 above:X.s₀.heap.objs.size<=X.env.locals
 inj:∀x y c,X.env.cells.lookup x=Z c->X.env.cells.lookup y=Z c->x=y
 has:∀x,(X.env.kindOf x=Z .cell∨X.env.kindOf x=Z .free)->∃c,X.env.cells.lookup x=Z c
 cab:∀x c,X.fn x=NQ->X.env.cells.lookup x=Z c->X.s₀.heap.objs.size<=c
 hd:X.calm=NQ->X.A.handled=Y
 frames:X.A.frames=Z X.stack
 stk:X.stack=X.outer∨(X.stack=X.env::X.outer/\X.env.frame=Z X.env.locals)
 exf:∀b∈X.ex,b≠X.env.locals/\∀x c,X.env.cells.lookup x=Z c->c≠b
 bs:∀b o,X.base.get? b=Z o->X.s₀.heap.get? b=Z o/\X.H₀ b=Y
 bsz:X.base.objs.size<=X.s₀.heap.objs.size
 noex:∀b o,X.base.get? b=Z o->b∉X.ex
 exfs:∀b∈X.ex,b∉X.fs
 funs:X.s₀.heap.FunFrames X.base X.outer
 frf:∀b∈X.fs,X.H₀ b=Y
structure Inv(X:Cx)(pins:List (NS×Obj))(σ:List (Option V))(H:Hp)(s:q7):Prop where
 ok:X.Ok
 os:s.os=X.s₀.os
 bare:Jx s.gens
 base:Un X.fs X.ex X.H₀ H X.s₀.heap s.heap
 loc:∃m,s.heap.Ns X.env.locals m/\∀(i:Nat) (x:Str) (v:V),X.N[i]?=Z x->σ[i]?=Z (Z v)->Vis X.env.scope x->∃u,RelV v u/\zA X.env s.heap m x u
 cell:∀x c,X.env.cells.lookup x=Z c->∃v,s.heap.IsCell c v
 free:H X.env.locals=Y
 freeC:∀x c,X.env.cells.lookup x=Z c->H c=Y
 pin:∀p∈X.pn++pins,s.heap.get? p.1=Z p.2/\H p.1=Y/\p.1≠X.env.locals/\p.1∉X.fs/\∀v,p.2.data≠.cell v
 hok:HOk X.prog X.w H s.heap
 len:σ.length=X.N.length
section
variable{X:Cx}{pins:List (NS×Obj)}{σ:List (Option V)}{H H':Hp}{s:q7}{h':Heap}
theorem Cx.Ok.nofr(ok:X.Ok){o:Obj}(e:X.base.get? b=Z o):b∉X.fs:=λj=>by have:=(ok.funs.mem j).1;rw[e]at this;cases this
theorem Inv.bs(I:Inv X pins σ H s):∀b o,X.base.get? b=Z o->s.heap.get? b=Z o/\H b=Y:=λb o e=>⟨I.base.keep b o (I.ok.bs b o e).1 (I.ok.bs b o e).2 (I.ok.nofr e) (I.ok.noex b o e),I.base.free b o (I.ok.bs b o e).1 (I.ok.bs b o e).2 (I.ok.noex b o e)⟩
theorem Inv.bk(I:Inv X pins σ H s):∀b o,X.base.get? b=Z o->s.heap.get? b=Z o:=λb o e=>(I.bs b o e).1
theorem Inv.mod(I:Inv X pins σ H s):Mod X.K X.mg X.base:=I.ok.mod
theorem Inv.kIn(I:Inv X pins σ H s):X.K.In s.heap:=I.ok.mod.kin.keeps I.bk
theorem Inv.lt(I:Inv X pins σ H s):X.env.locals<s.heap.objs.size:=let⟨_,j,_⟩:=I.loc;j.lt
theorem Inv.sz(I:Inv X pins σ H s):X.s₀.heap.objs.size<=s.heap.objs.size:=Fu I.ok.above (H4 I.lt)
theorem Inv.nofs(I:Inv X pins σ H s)(h:s.heap.objs.size<=a):a∉X.fs:=λj=>by obtain⟨_,o,ho,_⟩:=I.ok.funs.mem j;exact absurd (Er (D0 ho) (Fu I.sz h)) (EB _)
theorem Inv.cne(I:Inv X pins σ H s):∀x c,X.env.cells.lookup x=Z c->c≠X.env.locals:=λx c e z=>by obtain⟨v,o,ho,hd⟩:=I.cell x c e;obtain⟨m,⟨o',es,ep,j,B,_⟩,_⟩:=I.loc;rw[z,j]at ho;cases ho;rw[B]at hd;cases hd
theorem Inv.funs(I:Inv X pins σ H s):s.heap.FunFrames X.base X.outer:=by
 have all:∀(l:List Env),(∀b∈frs l,b∈X.fs)->X.s₀.heap.FunFrames X.base l->s.heap.FunFrames X.base l:=by
  intro l
  induction l with
  |nil=>intro _ _;trivial
  |cons env r ih=>
   intro hs F;obtain⟨J,⟨L,o,hf,O,ho,hd⟩,U⟩:=F;have j:L∈X.fs:=hs L (by unfold frs;rw[GP,hf];exact Ey)
   obtain⟨sl,e⟩:=I.base.slot L o ho (I.ok.frf L j) j λz=>I.ok.exfs L z j;exact⟨J,⟨L,_,hf,O,e,hd⟩,ih (λb B=>hs b (by unfold frs;rw[GP,hf];exact Ee _ B)) U⟩
 exact all X.outer (λ_ B=>B) I.ok.funs
theorem Inv.stack(I:Inv X pins σ H s):s.heap.FunFrames X.base X.stack:=by
 rcases I.ok.stk with e|⟨e,hf⟩
 ·rw[e];exact I.funs
 ·rw[e];obtain⟨m,j,_⟩:=I.loc;refine .cons (by rw[I.ok.kind];decide) hf j ?_ I.funs
  exact Heap.get?_none_of_le (Fu I.ok.bsz I.ok.above)
theorem Inv.stkSub(I:Inv X pins σ H s):∀b∈frs X.stack,b∈X.env.locals::X.fs:=λb j=>by
 rcases I.ok.stk with e|⟨e,hf⟩
 ·rw[e]at j;exact Ee _ j
 ·rw[e]at j;unfold frs at j;rw[GP,hf]at j;exact j
theorem Inv.stkFree(I:Inv X pins σ H s):∀b∈frs X.stack,H b=Y:=λb j=>by
 rcases DX.mp (I.stkSub b j)with e|j
 ·rw[e];exact I.free
 ·obtain⟨_,o,ho,_⟩:=I.ok.funs.mem j;exact I.base.free b o ho (I.ok.frf b j) λz=>I.ok.exfs b z j
theorem Inv.step{g':Array Ko}{d':Drawn}(I:Inv X pins σ H s)(j:∀b∈ch,(b∈X.ex∨X.s₀.heap.objs.size<=b)/\b≠X.env.locals/\(∀x c,X.env.cells.lookup x=Z c->c≠b)/\∀p∈X.pn++pins,p.1≠b)(keep:∀b o,b≠X.env.locals->b∉X.fs->b∉ch->s.heap.get? b=Z o->H b=Y->h'.get? b=Z o)(slot:∀b o,b≠X.env.locals->b∈X.fs->b∉ch->s.heap.get? b=Z o->H b=Y->∃sl,h'.get? b=Z {o with slots:=sl})(free:∀b o,b∉ch->s.heap.get? b=Z o->H b=Y->H' b=Y)(there:∀b o,b∉ch->s.heap.get? b=Z o->∃o',h'.get? b=Z o')(tups:∀b xs,H b=Z (.tup xs)->H' b=Z (.tup xs))(frzs:∀b o u,H b=Z (.frz o u)->H' b=Z (.frz o u))(tbls:∀b ps,H b=Z (.tbl ps)->∃more,H' b=Z (.tbl (ps++more)))(ns:∀m,s.heap.Ns X.env.locals m->h'.Ns X.env.locals m)(hok:HOk X.prog X.w H' h')(U:Jx g'):
 Inv X pins σ H' {s with heap:=h',gens:=g',drawn:=d',toks:=t'}:=by
 have neL:∀b o,X.s₀.heap.get? b=Z o->b≠X.env.locals:=λb o e=>Ep (Er (D0 e) I.ok.above);have neC:∀b o,X.s₀.heap.get? b=Z o->b∉X.ex->b∉ch:=λb o e hx F=>by
  rcases(j b F).1 with z|z
  ·exact hx z
  ·exact absurd (Er (D0 e) z) (EB _)
 have cellK:∀x c,X.env.cells.lookup x=Z c->∀v,s.heap.IsCell c v->h'.IsCell c v:=λx c e v ⟨o,ho,hd⟩=>by
  have nch:c∉ch:=λz=>(j c z).2.2.1 x c e rfl
  by_cases L:c∈X.fs
  ·obtain⟨sl,q⟩:=slot c o (I.cne x c e) L nch ho (I.freeC x c e);exact⟨_,q,hd⟩
  ·exact⟨o,keep c o (I.cne x c e) L nch ho (I.freeC x c e),hd⟩
 refine⟨I.ok,I.os,U,⟨λb o e n F hx=>?_,λb o e n F hx=>?_,λb o e n hx=>?_,λb o e hx=>?_,λb xs e=>tups b xs (I.base.tups b xs e),λb o xs e=>frzs b o xs (I.base.frzs b o xs e),λb ps e=>?_⟩,?_,λx c e=>?_,?_,λx c e=>?_,λp O=>?_,hok,I.len⟩
 ·exact keep b o (neL b o e) F (neC b o e hx) (I.base.keep b o e n F hx) (I.base.free b o e n hx)
 ·obtain⟨sl,B⟩:=I.base.slot b o e n F hx;obtain⟨sl',J⟩:=slot b _ (neL b o e) F (neC b o e hx) B (I.base.free b o e n hx);exact⟨sl',J⟩
 ·obtain⟨o',B⟩:=I.base.there b o e hx;exact free b o' (neC b o e hx) B (I.base.free b o e n hx)
 ·obtain⟨o',B⟩:=I.base.there b o e hx;exact there b o' (neC b o e hx) B
 ·obtain⟨NP,B⟩:=I.base.tbls b ps e;obtain⟨fv,J⟩:=tbls b _ B;exact⟨NP++fv,by rw[J,Array.append_assoc]⟩
 ·obtain⟨m,hn,hl⟩:=I.loc;refine⟨m,ns m hn,λi x v B J e3=>?_⟩;obtain⟨u,r,l⟩:=hl i x v B J e3;refine⟨u,r,?_⟩
  rcases l with l|⟨k,c,e,z⟩
  ·exact .inl l
  ·exact .inr ⟨k,c,e,cellK x c e _ z⟩
 ·obtain⟨v,z⟩:=I.cell x c e;exact⟨v,cellK x c e v z⟩
 ·obtain⟨m,⟨o,_,_,ho,_⟩,_⟩:=I.loc;exact free _ o (λz=>(j _ z).2.1 rfl) ho I.free
 ·obtain⟨v,o,ho,hd⟩:=I.cell x c e;exact free c o (λz=>(j c z).2.2.1 x c e rfl) ho (I.freeC x c e)
 ·obtain⟨e,n,ne,nf,d⟩:=I.pin p O;have nch:p.1∉ch:=λz=>(j p.1 z).2.2.2 p O rfl;exact⟨keep p.1 p.2 ne nf nch e n,free p.1 p.2 nch e n,ne,nf,d⟩
theorem Inv.un(I:Inv X pins σ H s)(u:Un X.fs [] H H' s.heap h')(hok:HOk X.prog X.w H' h'):Inv X pins σ H' {s with heap:=h',toks:=t'}:=by
 obtain⟨m,⟨o,es,ep,ho,r⟩,_⟩:=id I.loc;obtain⟨sl,F⟩:=u.any ho I.free (by simp)
 exact I.step (g':=s.gens) (d':=s.drawn) (ch:=[]) (λ_ z=>nomatch z) (λb o _ B _ e n=>u.keep b o e n B (by simp)) (λb o _ B _ e n=>u.slot b o e n B (by simp)) (λb o _ e n=>u.free b o e n (by simp)) (λb o _ e=>u.there b o e (by simp)) u.tups u.frzs u.tbls (λm' hm=>by obtain⟨o',es',ep',j,r'⟩:=hm;rw[ho]at j;cases j;exact⟨_,es',ep',F,r'⟩) hok I.bare
theorem Inv.call{g':Array Ko}{d':Drawn}(I:Inv X pins σ H s)(u:Un (frs X.stack) ch H H' s.heap h')(hok:HOk X.prog X.w H' h')(L:Jx g')(B:∀b∈ch,(b∈X.ex∨X.s₀.heap.objs.size<=b)/\b≠X.env.locals/\(∀x c,X.env.cells.lookup x=Z c->c≠b)/\∀p∈X.pn++pins,p.1≠b):
 Inv X pins σ H' {s with heap:=h',gens:=g',drawn:=d',toks:=t'}:=by
 obtain⟨m,⟨o,es,ep,ho,r⟩,_⟩:=id I.loc;obtain⟨sl,J⟩:=u.any ho I.free λz=>(B _ z).2.1 rfl;exact I.step (ch:=ch) B (λb o J O j e n=>u.keep b o e n (λz=>(DX.mp (I.stkSub b z)).elim J O) j) (λb o _ _ j e n=>u.any e n j) (λb o j e n=>u.free b o e n j) (λb o j e=>u.there b o e j) u.tups u.frzs u.tbls (λm' hm=>by obtain⟨o',es',ep',F,r'⟩:=hm;rw[ho]at F;cases F;exact⟨_,es',ep',J,r'⟩) hok L
theorem Inv.turned{it:NS}(I:Inv X pins σ H s)(k:∀b o,b≠it->s.heap.get? b=Z o->h'.get? b=Z o)(F:H it=Y)(B:it≠X.env.locals)(h1:it∈X.ex∨X.s₀.heap.objs.size<=it)(h2:∀x c,X.env.cells.lookup x=Z c->c≠it)(J:∀p∈X.pn++pins,p.1≠it):Inv X pins σ H {s with heap:=h',toks:=t'}:=by
 have nit:∀b u,H b=Z u->b≠it:=λb u e z=>by rw[z,F]at e;cases e
 refine I.step (g':=s.gens) (d':=s.drawn) (ch:=[it]) (λb L=>?_) (λb o _ _ j e _=>k b o (λz=>j (by simp[z])) e) (λb o _ _ j e _=>⟨o.slots,k b o (λz=>j (by simp[z])) e⟩) (λ_ _ _ _ n=>n)
  (λb o j e=>⟨o,k b o (λz=>j (by simp[z])) e⟩) (λ_ _ e=>e) (λ_ _ _ e=>e) (λb ps e=>⟨#[],by rw[e];simp⟩) (λm hm=>?_) (λb u e=>?_) I.bare
 ·have e:b=it:=by simpa using L
  subst e;exact⟨h1,B,h2,J⟩
 ·obtain⟨o,es,ep,ho,r⟩:=hm;exact⟨o,es,ep,k _ o (Ne.symm B) ho,r⟩
 ·refine(I.hok b u e).stay (λc v j q=>k c v ?_ q) (λ_ q=>q) λ_ _ q=>q
  rcases j with z|z
  ·rw[z];exact nit b u e
  ·exact nit c _ z
theorem Inv.tok(I:Inv X pins σ H s)(t:Nat):Inv X pins σ H {s with toks:=t}:=I.un (h':=s.heap) (t':=t) Un.refl I.hok
theorem Inv.kept(I:Inv X pins σ H s)(k:∀b u,s.heap.get? b=Z u->h'.get? b=Z u):Inv X pins σ H {s with heap:=h',toks:=t'}:=I.un (Un.kept k) (I.hok.kept k)
theorem Inv.laid(I:Inv X pins σ H s)(k:∀b u,s.heap.get? b=Z u->h'.get? b=Z u)(j:s.heap.objs.size<=a)(new:ObjOk X.prog X.w (upd H a o) h' a o):Inv X pins σ (upd H a o) {s with heap:=h',toks:=t'}:=I.un (Un.laid k j (I.hok.fresh j)) (I.hok.laid k j new)
theorem Inv.write{x e:NS}(I:Inv X pins σ H s)(mu:Mut (H x))(he:e=x∨H e=Z (.own x))(k:∀b u,b≠e->s.heap.get? b=Z u->h'.get? b=Z u)(j:∃u,h'.get? e=Z u)(new:ObjOk X.prog X.w (upd H x o) h' x o):Inv X pins σ (upd H x o) {s with heap:=h',toks:=t'}:=I.un (Un.write mu he k j) (I.hok.write mu he k j new)
theorem Inv.pins_of{pins':List (NS×Obj)}(I:Inv X pins σ H s)(h:∀p∈pins',s.heap.get? p.1=Z p.2/\H p.1=Y/\p.1≠X.env.locals/\p.1∉X.fs/\∀v,p.2.data≠.cell v):Inv X pins' σ H s:=⟨I.ok,I.os,I.bare,I.base,I.loc,I.cell,I.free,I.freeC,λp j=>(Ef.mp j).elim (λz=>I.pin p (EV _ z)) (h p),I.hok,I.len⟩
theorem jK(z:N.Nodup){j:Nat}(a:N[i]?=Z x)(b:N[j]?=Z x):i=j:=by obtain⟨h1,B⟩:=DT.mp a;obtain⟨h2,F⟩:=DT.mp b;exact(List.getElem_inj z).mp (B.trans F.symm)
theorem oO{E:gV->q7->Prop}{Q:Unit->q7->Prop}(I:Inv X pins σ H s)(hN:X.N.Nodup)(hi:X.N[i]?=Z x)(hx:Loc X.env.scope x)(r:RelV v u)(h:∀s',Inv X pins (σ.set i (Z v)) H s'->(∃a,Gi a s.heap s'.heap/\(a=X.env.locals∨X.env.cells.lookup x=Z a))->Q () s')(hf:X.fn x=NQ∨X.env.scope.names.lookup x=Z .local:=by first|exact .inl rfl|exact .inr rfl|assumption):DU M A (storeName X.env x u) Q E s:=by
 obtain⟨m,hn,hl⟩:=id I.loc;have BG:(X.env.scope.kind==.class || (X.env.scope.kind==.module&&X.env.locals != X.env.globals))=NR:=by rw[I.ok.kind];rfl
 have BH:i<σ.length:=by rw[I.len];exact(DT.mp hi).1
 have cne:=I.cne;have tracked:∀{a:NS} {h':Heap},(∃o,s.heap.get? a=Z o/\H a=Y)->Gi a s.heap h'->HOk X.prog X.w H h':=λ{a h'} ha hs b ob e=>by
  obtain⟨_,_,J⟩:=ha;refine(I.hok b ob e).stay (λc w' F q=>(hs.2 c ?_).trans q) (λ_ q=>q) λ_ _ q=>q;rintro rfl
  rcases F with rfl|F
  ·rw[J]at e;cases e
  ·rw[J]at F;cases F
 rcases hx with O|O
 ·refine wpAny_storeName_local O hn (λh' BM hs=>?_) BG;obtain⟨oL,_,_,BN,_⟩:=id hn;refine h _ ⟨I.ok,I.os,I.bare,⟨λb o e n U hx=>?_,λb o e n U hx=>?_,I.base.free,λb o e hx=>?_,I.base.tups,I.base.frzs,I.base.tbls⟩,⟨_,BM,λj y v' B L e3=>?_⟩,λy c e=>?_,I.free,I.freeC,λp hp=>?_,tracked ⟨oL,BN,I.free⟩ hs,by simpa using I.len⟩ ⟨_,hs,.inl rfl⟩
  ·exact(hs.2 b (Ep (Er (D0 e) I.ok.above))).trans (I.base.keep b o e n U hx)
  ·obtain⟨sl,B⟩:=I.base.slot b o e n U hx;exact⟨sl,(hs.2 b (Ep (Er (D0 e) I.ok.above))).trans B⟩
  ·obtain⟨o',B⟩:=I.base.there b o e hx;exact⟨o',(hs.2 b (Ep (Er (D0 e) I.ok.above))).trans B⟩
  ·by_cases NP:j=i
   ·subst NP;rw[hi]at B;cases B;rw[H8 BH]at L
    cases L
    exact⟨u,r,.inl ⟨O,by simp⟩⟩
   ·rw[IX (Ne.symm NP)]at L;obtain⟨u',r',q⟩:=hl j y v' B L e3;refine⟨u',r',?_⟩
    rcases q with⟨k,e⟩|⟨k,c,e,z⟩
    ·refine .inl ⟨k,?_⟩;have:y≠x:=λe=>NP (jK hN B (e▸hi));simp[this,e]
    ·exact .inr ⟨k,c,e,z.sameBut hs (cne y c e)⟩
  ·obtain⟨w',z⟩:=I.cell y c e;exact⟨w',z.sameBut hs (cne y c e)⟩
  ·obtain⟨e,n,ne,nf,d⟩:=I.pin p hp;exact⟨(hs.2 p.1 ne).trans e,n,ne,nf,d⟩
 ·have fv:X.fn x=NQ:=by
   rcases hf with z|z
   ·exact z
   ·rw[z]at O;cases O
  obtain⟨c,F⟩:=I.ok.has x (.inl O);obtain⟨w',z⟩:=I.cell x c F;refine wpAny_storeName_cell I.ok.kind O F z (λh' BI hs=>?_);obtain⟨oc,BJ,BK⟩:=id z;refine h {s with heap:=h'} ⟨I.ok,I.os,I.bare,⟨λb o e n U hx=>?_,λb o e n U hx=>?_,I.base.free,λb o e hx=>?_,I.base.tups,I.base.frzs,I.base.tbls⟩,⟨m,hn.sameBut hs (Ne.symm (cne x c F)),λj y v' B L e3=>?_⟩,λy c' e=>?_,I.free,I.freeC,λp hp=>?_,tracked ⟨oc,BJ,I.freeC x c F⟩ hs,by simpa using I.len⟩ ⟨c,hs,.inr F⟩
  ·exact(hs.2 b (Ep (Er (D0 e) (I.ok.cab x c fv F)))).trans (I.base.keep b o e n U hx)
  ·obtain⟨sl,B⟩:=I.base.slot b o e n U hx;exact⟨sl,(hs.2 b (Ep (Er (D0 e) (I.ok.cab x c fv F)))).trans B⟩
  ·obtain⟨o',B⟩:=I.base.there b o e hx;exact⟨o',(hs.2 b (Ep (Er (D0 e) (I.ok.cab x c fv F)))).trans B⟩
  ·by_cases NP:j=i
   ·subst NP;rw[hi]at B;cases B;rw[H8 BH]at L
    cases L
    exact⟨u,r,.inr ⟨.inl O,c,F,BI⟩⟩
   ·rw[IX (Ne.symm NP)]at L;obtain⟨u',r',q⟩:=hl j y v' B L e3;refine⟨u',r',?_⟩
    rcases q with q|⟨k,c',e,z'⟩
    ·exact .inl q
    ·refine .inr ⟨k,c',e,z'.sameBut hs ?_⟩;rintro rfl;exact NP (jK hN B (I.ok.inj _ _ _ e F▸hi))
  ·by_cases BL:c'=c
   ·subst BL;exact⟨_,BI⟩
   ·obtain⟨w2,z2⟩:=I.cell y c' e;exact⟨w2,z2.sameBut hs BL⟩
  ·obtain⟨e,n,ne,nf,d⟩:=I.pin p hp;refine⟨(hs.2 p.1 ?_).trans e,n,ne,nf,d⟩;intro q;rw[q,BJ]at e;have q':oc=p.2:=Fn.inj e;exact d w' (by rw[<-q'];exact BK)
theorem qU{E:gV->q7->Prop}{Q:Unit->q7->Prop}(I:Inv X pins σ H s)(j:X.N.Nodup)(hi:X.N[i]?=Z x)(hx:Loc X.env.scope x)(r:RelV v u)(h:∀s',Inv X pins (σ.set i (Z v)) H s'->Q () s')(hf:X.fn x=NQ∨X.env.scope.names.lookup x=Z .local:=by first|exact .inl rfl|exact .inr rfl|assumption):DU M A (storeName X.env x u) Q E s:=oO I j hi hx r (λs' I' _=>h s' I') hf
theorem Inv.call'{s':q7}(I:Inv X pins σ H s)(ho:s'.os=s.os)(u:Un (frs X.stack) ch H H' s.heap s'.heap)(hok:HOk X.prog X.w H' s'.heap)(z:Jx s'.gens)(j:∀b∈ch,(b∈X.ex∨X.s₀.heap.objs.size<=b)/\b≠X.env.locals/\(∀x c,X.env.cells.lookup x=Z c->c≠b)/\∀p∈X.pn++pins,p.1≠b):Inv X pins σ H' s':=by obtain⟨h',g',d',t',o'⟩:=s';have e:o'=s.os:=ho;subst e;exact I.call (g':=g') (t':=t') (d':=d') u hok z j
end
noncomputable abbrev XK:=gV->Option NS->Hp->Prop
noncomputable abbrev St:=List (Option V)
noncomputable abbrev VK:=V->Hp->Prop
noncomputable abbrev TE:=St->Hp->VK->Prop
noncomputable abbrev TT:=St->Hp->(Bool->Hp->Prop)->Prop
noncomputable abbrev TA:=St->Hp->(List V->Hp->Prop)->Prop
structure bi where
 nx:St->Hp->Prop
 rt:VK
 bk:St->Hp->Prop:=λ_ _=>False
 ct:St->Hp->Prop:=λ_ _=>False
noncomputable abbrev TS:=bi->St->Hp->Prop
def EP(X:Cx)(pins:List (NS×Obj))(σ:St)(Q:VK)(u:gV)(s':q7):Prop:=∃v H',Inv X pins σ H' s'/\RelV v u/\Q v H'
def TP(X:Cx)(pins:List (NS×Obj))(σ:St)(Q:Bool->Hp->Prop)(b:Bool)(s':q7):Prop:=∃H',Inv X pins σ H' s'/\Q b H'
def AP(X:Cx)(pins:List (NS×Obj))(σ:St)(Q:List V->Hp->Prop)(us:List gV)(s':q7):Prop:=∃vs H',Inv X pins σ H' s'/\Vals vs us/\Q vs H'
def SP(X:Cx)(pins:List (NS×Obj))(D:bi)(f:Flow)(s':q7):Prop:=
 match f with
 |.next=>∃σ' H',Inv X pins σ' H' s'/\D.nx σ' H'
 |.brk=>∃σ' H',Inv X pins σ' H' s'/\D.bk σ' H'
 |.cont=>∃σ' H',Inv X pins σ' H' s'/\D.ct σ' H'
 |.ret u=>∃v σ' H',Inv X pins σ' H' s'/\RelV v u/\D.rt v H'
def PE(X:Cx)(e:Expr)(t:TE):Prop:=∀(pins:List (NS×Obj)) (s:q7) (σ:St) (H:Hp) (Q:VK),Inv X pins σ H s->t σ H Q->DU (model X.prog X.w) X.A (eval e X.env) (EP X pins σ Q) X.xe s
def PT(X:Cx)(e:Expr)(t:TT):Prop:=∀(pins:List (NS×Obj)) (s:q7) (σ:St) (H:Hp) (Q:Bool->Hp->Prop),Inv X pins σ H s->t σ H Q->DU (model X.prog X.w) X.A (isTrue e X.env (eval e X.env)) (TP X pins σ Q) X.xe s
def PW(X:Cx)(e:Expr)(t:TT):Prop:=∀(whole:Sem gV) (pins:List (NS×Obj)) (s:q7) (σ:St) (H:Hp) (Q:Bool->Hp->Prop),Inv X pins σ H s->t σ H Q->DU (model X.prog X.w) X.A (isTrue e X.env whole) (TP X pins σ Q) X.xe s
theorem PW.pt{X:Cx}{t:TT}(h:PW X e t):PT X e t:=h _
def PA(X:Cx)(es:List Expr)(t:TA):Prop:=∀(pos:Pos) (pins:List (NS×Obj)) (s:q7) (σ:St) (H:Hp) (Q:List V->Hp->Prop),Inv X pins σ H s->t σ H Q->DU (model X.prog X.w) X.A (spliced (Ic pos (EA es X.env))) (AP X pins σ Q) X.xe s
def PS(X:Cx)(st:Stmt)(t:TS):Prop:=∀(pins:List (NS×Obj)) (s:q7) (σ:St) (H:Hp) (D:bi),Inv X pins σ H s->t D σ H->DU (model X.prog X.w) X.A (exec st X.env) (SP X pins D) X.xe s
def PSs(X:Cx)(st:List Stmt)(t:TS):Prop:=∀(pins:List (NS×Obj)) (s:q7) (σ:St) (H:Hp) (D:bi),Inv X pins σ H s->t D σ H->DU (model X.prog X.w) X.A (execs st X.env) (SP X pins D) X.xe s
theorem thn{α:Type}{t:Sem α}{Q Q':α->q7->Prop}{E:gV->q7->Prop}(h:DU M A t Q E s)(j:∀a s,Q a s->Q' a s):DU M A t Q' E s:=F2 h j λ_ _ x=>x
end
variable{X:Cx}{pos:Pos}{pins:List (NS×Obj)}{σ:St}{c:Expr}
section
section
variable{X:Cx}
noncomputable def zB(i:Nat):TE:=λσ H Q=>∃v,σ[i]?=Z (Z v)/\Q v H
noncomputable def tC(v:V):TE:=λ_ H Q=>Q v H
theorem wm(J:X.N[i]?=Z x)(L:Vis X.env.scope x)(hd:(x==("__debug__":Str))=NR:=by decide)(B:(x==("__classdict__":Str))=NR:=by decide):PE X (.Name x pos) (zB i):=by
 intro pins s σ H Q I h;obtain⟨v,e,h⟩:=h;obtain⟨m,O,U⟩:=I.loc;obtain⟨u,r,l⟩:=U i x v J e L;have fin:EP X pins σ Q u s:=⟨v,H,I,r,h⟩
 rcases l with⟨z,hm⟩|⟨z,c,F,j⟩
 ·exact MX (wpAny_loadName_local I.ok.kind z O hm fin) hd
 ·rcases z with z|z
  ·exact MX (wpAny_loadName_cell I.ok.kind z F j fin) hd
  ·exact MX (wpAny_loadName_free I.ok.kind z F j fin B) hd
theorem wn{i j pos}:PE X (.Constant (.int i) j pos) (tC (.int i)):=λ_ _ _ H _ I h=>wpAny_Constant_int ⟨.int i,H,I.tok _,⟨_,rfl⟩,h⟩
theorem yp{b j pos}:PE X (.Constant (.bool b) j pos) (tC (.bl b)):=λ_ _ _ H _ I h=>Constant_bool ⟨.bl b,H,I,rfl,h⟩
theorem wo{j pos}:PE X (.Constant .none j pos) (tC .non):=λ_ _ _ H _ I h=>Constant_none ⟨.non,H,I,rfl,h⟩
def Gl(X:Cx)(x:Str):Prop:=X.env.kindOf x=Z .globalImplicit
theorem lM{E Q:gV->q7->Prop}(I:Inv X pins σ H s)(j:Gl X x)(hm:X.mg x=Z u)(h:Q u s)(hd:(x==("__debug__":Str))=NR:=by decide):DU (model X.prog X.w) X.A (eval (.Name x pos) X.env) Q E s:=Je I.ok.kind j (Calls.loadGlobal_global (by rw[I.ok.glob];exact I.mod.glob.keeps I.bk) hm h) hd
theorem bR{E Q:gV->q7->Prop}(I:Inv X pins σ H s)(j:Gl X x)(hm:X.mg x=Y)(z:H0 x=Z u)(h:Q u s)(B:x≠"__name__":=by decide)(hd:(x==("__debug__":Str))=NR:=by decide):DU (model X.prog X.w) X.A (eval (.Name x pos) X.env) Q E s:=by obtain⟨mb,h1,h2⟩:=I.mod.blt;exact Je I.ok.kind j (Calls.loadGlobal_builtin (by rw[I.ok.glob];exact I.mod.glob.keeps I.bk) hm (by rw[I.ok.blt];exact h1.keeps I.bk) ((h2 x B).trans z) h) hd
theorem uA(j:Gl X x)(hm:X.mg x=Y)(z:H0 x=Z u)(r:RelV v u)(B:x≠"__name__":=by decide)(hd:(x==("__debug__":Str))=NR:=by decide):PE X (.Name x pos) (tC v):=λ_ _ _ H _ I h=>bR I j hm z ⟨v,H,I,r,h⟩ B hd
variable{a b:Expr}{ta tb:TE}{pos:Pos}
variable{tA tB':TT}{rest:List Expr}
noncomputable def zC(t u:TT):TT:=λσ H Q=>t σ H λc H1=>if c=NQ then u σ H1 Q else Q NR H1
noncomputable def tOr(t u:TT):TT:=λσ H Q=>t σ H λc H1=>if c=NQ then Q NQ H1 else u σ H1 Q
noncomputable def zD(t:TT):TT:=λσ H Q=>t σ H λc H1=>Q (!c) H1
theorem uB(j:PT X a tA):PW X (.BoolOp .And [a] pos) tA:=by
 intro wh pins s σ H Q I h;refine isTrue_and (thn (j pins s σ H Q I h) λc s1 e=>?_)
 cases c with
 |true=>exact isTrue_and_nil e
 |false=>exact e
theorem wq(j:PT X a tA):PW X (.BoolOp .Or [a] pos) tA:=by
 intro wh pins s σ H Q I h;refine isTrue_or (thn (j pins s σ H Q I h) λc s1 e=>?_)
 cases c with
 |false=>exact isTrue_or_nil e
 |true=>exact e
theorem wt(B:PT X a tA)(F:PW X (.BoolOp .And (b::rest) pos) tB'):PW X (.BoolOp .And (a::b::rest) pos) (zC tA tB'):=by
 intro wh pins s σ H Q I h;refine isTrue_and (thn (B pins s σ H _ I h) λc s1 J=>?_);obtain⟨H1,j,z⟩:=J
 cases c with
 |true=>exact F wh pins s1 σ H1 Q j z
 |false=>exact⟨H1,j,z⟩
theorem yq(B:PT X a tA)(F:PW X (.BoolOp .Or (b::rest) pos) tB'):PW X (.BoolOp .Or (a::b::rest) pos) (tOr tA tB'):=by
 intro wh pins s σ H Q I h;refine isTrue_or (thn (B pins s σ H _ I h) λc s1 J=>?_);obtain⟨H1,j,z⟩:=J
 cases c with
 |true=>exact⟨H1,j,z⟩
 |false=>exact F wh pins s1 σ H1 Q j z
theorem wu(j:PT X a tA):PT X (.UnaryOp .Not a pos) (zD tA):=by intro pins s σ H Q I h;exact isTrue_not (j pins s σ H (λc H1=>Q (!c) H1) I h)
noncomputable def yr(ta tb:TE):TE:=λσ H Q=>ta σ H λx H1=>∃c,x=.bl c/\if c=NQ then tb σ H1 Q else Q (.bl NR) H1
noncomputable def zE(ta tb:TE):TE:=λσ H Q=>ta σ H λx H1=>∃c,x=.bl c/\if c=NQ then Q (.bl NQ) H1 else tb σ H1 Q
noncomputable def yt(ta:TE):TE:=λσ H Q=>ta σ H λx H1=>∃c,x=.bl c/\Q (.bl (!c)) H1
theorem wv{op}{t:TE}(h:PE X a t):PE X (.BoolOp op [a] pos) t:=λpins s σ H Q I hw=>BoolOp_one (h pins s σ H Q I hw)
theorem ww(B:PE X a ta)(F:PE X (.BoolOp .And (b::rest) pos) tb):PE X (.BoolOp .And (a::b::rest) pos) (yr ta tb):=by
 intro pins s σ H Q I h;refine BoolOp_and (thn (B pins s σ H _ I h) λv s1 J=>?_);obtain⟨x,H1,z,L,j⟩:=J;obtain⟨c,rfl,j⟩:=j
 cases L
 refine Hs ?_
 cases c with
 |true=>exact F pins s1 σ H1 Q z j
 |false=>exact⟨.bl NR,H1,z,rfl,j⟩
theorem yu(B:PE X a ta)(F:PE X (.BoolOp .Or (b::rest) pos) tb):PE X (.BoolOp .Or (a::b::rest) pos) (zE ta tb):=by
 intro pins s σ H Q I h;refine BoolOp_or (thn (B pins s σ H _ I h) λv s1 J=>?_);obtain⟨x,H1,z,L,j⟩:=J;obtain⟨c,rfl,j⟩:=j
 cases L
 refine Hs ?_
 cases c with
 |false=>exact F pins s1 σ H1 Q z j
 |true=>exact⟨.bl NQ,H1,z,rfl,j⟩
theorem wx(z:PE X a ta):PE X (.UnaryOp .Not a pos) (yt ta):=by
 intro pins s σ H Q I h;refine UnaryOp_ (thn (z pins s σ H _ I h) λv s1 B=>?_);obtain⟨x,H1,F,J,j⟩:=B;obtain⟨c,rfl,j⟩:=j
 cases J
 exact not_of (Hs ⟨.bl (!c),H1,F,rfl,j⟩)
noncomputable def tIf(t:TT)(ta tb:TE):TE:=λσ H Q=>t σ H λc H1=>if c=NQ then ta σ H1 Q else tb σ H1 Q
theorem qV(B:PT X c tA)(F:PE X a ta)(J:PE X b tb):PE X (.IfExp c a b pos) (tIf tA ta tb):=by
 intro pins s σ H Q I h;refine wpAny_IfExp (thn (B pins s σ H _ I h) λd s1 L=>?_);obtain⟨H1,j,z⟩:=L
 cases d with
 |true=>exact F pins s1 σ H1 Q j z
 |false=>exact J pins s1 σ H1 Q j z
end
end
variable{K:Frag}{tg:Expr}{body:List Stmt}
section
def SqL(K:Frag)(H:Hp)(a:NS)(xs:List V):Prop:=
 Rd H a (.lst xs) ∨
  ∃(o:Obj) (its:Array gV) (n:Nat),K.lookup a=Z o/\o.cls=.type "list"/\o.dict=Y/\o.data=.seq its n/\its.size<=D2/\Vals xs its.toList
def SqT(K:Frag)(H:Hp)(a:NS)(xs:List V):Prop:=
 Rd H a (.tup xs) ∨
  ∃(o:Obj) (its:Array gV) (n:Nat),K.lookup a=Z o/\o.cls=.type "tuple"/\o.data=.seq its n/\its.size<=D2/\Vals xs its.toList
noncomputable def zF:gV->Option V
 |.none=>Z .non
 |.bool b=>Z (.bl b)
 |.int i _=>Z (.int i)
 |.str x _=>Z (.str x)
 |.bytes b _=>Z (.byt b)
 |.float b _=>Z (.flt b)
 |.ref a=>Z (.ref a)
 |.type n=>Z (.ty n)
 |_=>Y
theorem RelV.abs{x:V}(r:RelV x u):zF u=Z x:=by
 cases x with
 |non=>cases r;rfl
 |bl _=>cases r;rfl
 |int _=>obtain⟨t,rfl⟩:=r;rfl
 |str _=>obtain⟨t,rfl⟩:=r;rfl
 |byt _=>obtain⟨t,rfl⟩:=r;rfl
 |flt _=>obtain⟨t,rfl⟩:=r;rfl
 |ref _=>cases r;rfl
 |ty _=>cases r;rfl
theorem RelV.inj{x y:V}(r:RelV x u)(q:RelV y u):x=y:=Fn.inj (r.abs.symm.trans q.abs)
theorem Vals.inj:∀{xs ys:List V} {us:List gV},Vals xs us->Vals ys us->xs=ys
 |_,_,_,.nil,.nil=>rfl
 |_,_,_,.cons r t,.cons r' t'=>by rw[r.inj r',Vals.inj t t']
section
variable{X:Cx}{pins:List (NS×Obj)}{σ:St}{H:Hp}{s:q7}{a:NS}{xs ys:List V}
theorem SqL.of(h:H a=Z (.lst xs)):SqL K H a xs:=.inl (.inl h)
theorem SqT.of(h:H a=Z (.tup xs)):SqT K H a xs:=.inl (.inl h)
theorem Inv.list(I:Inv X pins σ H s)(h:SqL X.K H a xs):∃its:List gV,Vals xs its/\PlainL s.heap a its.toArray/\xs.length<=D2:=by
 rcases h with h|⟨o,its,n,j,B,hd,hs,F,r⟩
 ·obtain⟨z,its,n,r,e⟩:=h.ok I.hok;exact⟨its,r,⟨_,n,e,rfl,rfl,rfl⟩,z⟩
 ·refine⟨its.toList,r,⟨o,n,I.kIn a o j,B,hd,by simpa using hs⟩,?_⟩
  have e:=r.length;simp only[Ei]at e;lia
theorem Inv.tuple(I:Inv X pins σ H s)(h:SqT X.K H a xs):∃its:List gV,Vals xs its/\IsTup s.heap a its.toArray/\xs.length<=D2:=by
 rcases h with h|⟨o,its,n,j,B,hs,F,r⟩
 ·obtain⟨z,its,r,p⟩:=h.ok I.hok;exact⟨its,r,p,z⟩
 ·refine⟨its.toList,r,⟨o,I.kIn a o j,B,n,by simpa using hs⟩,?_⟩
  have e:=r.length;simp only[Ei]at e;lia
theorem Inv.list_inj(I:Inv X pins σ H s)(h:SqL X.K H a xs)(h':SqL X.K H a ys):xs=ys:=by
 obtain⟨its,r,⟨o,n,e,_,_,d⟩,_⟩:=I.list h;obtain⟨its',r',⟨o',n',e',_,_,d'⟩,_⟩:=I.list h';rw[e]at e';cases e';rw[d]at d'
 injection d' with d1 _
 have:its=its':=by simpa using congrArg JZ d1
 subst this;exact r.inj r'
theorem Inv.tuple_inj(I:Inv X pins σ H s)(h:SqT X.K H a xs)(h':SqT X.K H a ys):xs=ys:=by
 obtain⟨its,r,⟨o,e,_,n,d⟩,_⟩:=I.tuple h;obtain⟨its',r',⟨o',e',_,n',d'⟩,_⟩:=I.tuple h';rw[e]at e';cases e';rw[d]at d'
 injection d' with d1 _
 have:its=its':=by simpa using congrArg JZ d1
 subst this;exact r.inj r'
end
noncomputable abbrev Cx.wish(X:Cx)(E:gV->q7->Prop):Cx:={X with xe:=E}
noncomputable abbrev Cx.nox(X:Cx):Cx:=X.wish λ_ _=>False
theorem Cx.Ok.wish(ok:X.Ok)(E:gV->q7->Prop):(X.wish E).Ok:=⟨ok.mod,ok.kind,ok.glob,ok.blt,ok.above,ok.inj,ok.has,ok.cab,ok.hd,ok.frames,ok.stk,ok.exf,ok.bs,ok.bsz,ok.noex,ok.exfs,ok.funs,ok.frf⟩
theorem Cx.Ok.unwish{E:gV->q7->Prop}(ok:(X.wish E).Ok):X.Ok:=⟨ok.mod,ok.kind,ok.glob,ok.blt,ok.above,ok.inj,ok.has,ok.cab,ok.hd,ok.frames,ok.stk,ok.exf,ok.bs,ok.bsz,ok.noex,ok.exfs,ok.funs,ok.frf⟩
section
variable{X:Cx}{pins:List (NS×Obj)}{σ:St}{H:Hp}{s:q7}{E:gV->q7->Prop}
theorem Inv.wish(I:Inv X pins σ H s)(E:gV->q7->Prop):Inv (X.wish E) pins σ H s:=⟨I.ok.wish E,I.os,I.bare,I.base,I.loc,I.cell,I.free,I.freeC,I.pin,I.hok,I.len⟩
theorem Inv.unwish(I:Inv (X.wish E) pins σ H s):Inv X pins σ H s:=⟨I.ok.unwish,I.os,I.bare,I.base,I.loc,I.cell,I.free,I.freeC,I.pin,I.hok,I.len⟩
theorem SP.unwish{D:bi}{f:Flow}{s':q7}(h:SP (X.wish E) pins D f s'):SP X pins D f s':=by
 cases f with
 |next=>obtain⟨σ',H',I,q⟩:=h;exact⟨σ',H',I.unwish,q⟩
 |brk=>obtain⟨σ',H',I,q⟩:=h;exact⟨σ',H',I.unwish,q⟩
 |cont=>obtain⟨σ',H',I,q⟩:=h;exact⟨σ',H',I.unwish,q⟩
 |ret u=>obtain⟨v,σ',H',I,r,q⟩:=h;exact⟨v,σ',H',I.unwish,r,q⟩
theorem PSs.nox{st:List Stmt}{t:TS}(h:PSs X.nox st t):PSs X st t:=λpins s σ H D I hw=>F2 (h pins s σ H D (I.wish _) hw) (λ_ _ q=>q.unwish) λ_ _ z=>False.elim z
end
section
variable{X:Cx}{st:Stmt}{rest:List Stmt}{t u:TS}{e:Expr}{te:TE}{pos:Pos}
noncomputable def nj:TS:=λD σ H=>D.nx σ H
noncomputable def wy(t u:TS):TS:=λD σ H=>t {D with nx:=u D} σ H
theorem uC:PSs X [] nj:=λ_ _ σ H _ I h=>Kf ⟨σ,H,I,h⟩
theorem qW(h1:PS X st t)(h2:PSs X rest u):PSs X (st::rest) (wy t u):=by
 intro pins s σ H D I h;refine wpAny_execs_cons (thn (h1 pins s σ H {D with nx:=u D} I h) λf s1 q=>?_)
 cases f with
 |next=>obtain⟨σ',H',I',q⟩:=q;exact h2 pins s1 σ' H' D I' q
 |ret v=>exact q
 |brk=>exact q
 |cont=>exact q
noncomputable def oP:TS:=λD σ H=>D.bk σ H
noncomputable def tW:TS:=λD σ H=>D.ct σ H
theorem uD:PS X (.Pass pos) nj:=λ_ _ σ H _ I h=>wpAny_Pass ⟨σ,H,I,h⟩
theorem qX:PS X (.Break pos) oP:=λ_ _ σ H _ I h=>wpAny_Break ⟨σ,H,I,h⟩
theorem ls:PS X (.Continue pos) tW:=λ_ _ σ H _ I h=>wpAny_Continue ⟨σ,H,I,h⟩
theorem Inv.quiet(I:Inv X pins σ H s):interactive X.env=NR:=by simp[interactive,I.ok.kind]
noncomputable def tX(te:TE):TS:=λD σ H=>te σ H λ_ H1=>D.nx σ H1
theorem uE(he:PE X e te)(hs:Ig e Y pos.line X.env=pure NR:=by rfl):PS X (.Expr e pos) (tX te):=by intro pins s σ H D I h;exact wpAny_Expr_any (thn (he pins s σ H _ I h) λv s1 j=>(by obtain⟨x,H1,z,F,B⟩:=j;exact⟨σ,H1,z,B⟩)) I.quiet hs
noncomputable def wz(te:TE):TS:=λD σ H=>te σ H D.rt
theorem wB(he:PE X e te):PS X (.Return (Z e) pos) (wz te):=by intro pins s σ H D I h;exact wpAny_Return_some (thn (he pins s σ H _ I h) λv s1 j=>(by obtain⟨x,H1,z,B,F⟩:=j;exact⟨x,σ,H1,z,B,F⟩))
noncomputable def wD(c:TT)(t u:TS):TS:=λD σ H=>c σ H λb H1=>if b=NQ then t D σ H1 else u D σ H1
theorem yv{a b:List Stmt}{tc:TT}(B:PT X c tc)(F:PSs X a t)(J:PSs X b u):PS X (.If c a b pos) (wD tc t u):=by
 intro pins s σ H D I h;refine wpAny_If (thn (B pins s σ H _ I h) λd s1 L=>?_);obtain⟨H1,j,z⟩:=L
 cases d with
 |true=>exact F pins s1 σ H1 D j z
 |false=>exact J pins s1 σ H1 D j z
end
noncomputable abbrev TG:=V->St->Hp->(St->Hp->Prop)->Prop
noncomputable abbrev TGs:=List V->St->Hp->(St->Hp->Prop)->Prop
def PG(X:Cx)(target:Expr)(t:TG):Prop:=
 ∀(pins:List (NS×Obj)) (s:q7) (σ:St) (H:Hp) (v:V) (u:gV) (Q:St->Hp->Prop),Inv X pins σ H s->RelV v u->t v σ H Q->
  DU (model X.prog X.w) X.A (assign target X.env u) (λ_ s'=>∃σ' H',Inv X pins σ' H' s'/\Q σ' H') X.xe s
def PGs(X:Cx)(ts:List Expr)(t:TGs):Prop:=
 ∀(pins:List (NS×Obj)) (s:q7) (σ:St) (H:Hp) (vs:List V) (us:List gV) (Q:St->Hp->Prop),Inv X pins σ H s->Vals vs us->t vs σ H Q->
  DU (model X.prog X.w) X.A (assignInOrder ((FX ts X.env).map (·.2)) us) (λ_ s'=>∃σ' H',Inv X pins σ' H' s'/\Q σ' H') X.xe s
noncomputable abbrev nk:=V->V->V->Hp->(Hp->Prop)->Prop
def PSet(X:Cx)(t:nk):Prop:=
 ∀(pins:List (NS×Obj)) (s:q7) (σ:St) (H:Hp) (o i v:V) (ov iv u:gV) (Q:Hp->Prop),Inv X pins σ H s->RelV o ov->RelV i iv->RelV v u->t o i v H Q->
  DU (model X.prog X.w) X.A (setItem ov iv u) (λ_ s'=>∃H',Inv X pins σ H' s'/\Q H') X.xe s
section
variable{X:Cx}{pos:Pos}
noncomputable def gh(i:Nat):TG:=λv σ H Q=>Q (σ.set i (Z v)) H
theorem lN(j:X.N.Nodup)(hi:X.N[i]?=Z x)(hx:Loc X.env.scope x)(hf:X.fn x=NQ∨X.env.scope.names.lookup x=Z .local:=by first|exact .inl rfl|exact .inr rfl|assumption):PG X (.Name x pos) (gh i):=by intro pins s σ H v u Q I r h;exact wpAny_assign_Name (qU I j hi hx r (λs' I'=>⟨_,H,I',h⟩) hf)
noncomputable def zG:TGs:=λvs σ H Q=>vs=[]/\Q σ H
noncomputable def yw(t:TG)(u:TGs):TGs:=λvs σ H Q=>∃v r,vs=v::r/\t v σ H λσ' H'=>u r σ' H' Q
theorem uF:PGs X [] zG:=by
 intro pins s σ H vs us Q I r h;obtain⟨e,h⟩:=h;subst e
 cases r
 exact assignInOrder_nil ⟨σ,H,I,h⟩
theorem qY{es:List Expr}{t:TG}{u:TGs}(h1:PG X e t)(h2:PGs X es u)(hs:(FX (e::es) X.env).map (·.2)=assign e X.env::(FX es X.env).map (·.2):=by rfl):PGs X (e::es) (yw t u):=by
 intro pins s σ H vs us Q I r h;obtain⟨v,vr,j,h⟩:=h;subst j
 cases r with
 |cons r rr=>rw[hs];refine assignInOrder_cons (thn (h1 pins s σ H _ _ _ I r h) λ_ s1 z=>?_);obtain⟨σ1,H1,B,F⟩:=z;exact h2 pins s1 σ1 H1 _ _ Q B rr F
noncomputable def zH(K:Frag)(n:Nat)(t:TGs):TG:=λv σ H Q=>∃a xs,v=.ref a/\SqT K H a xs/\xs.length=n/\t xs σ H Q
theorem wF{es:List Expr}{k:Nat}{t:TGs}{n:Nat}(z:X.calm=NQ)(h:PGs X es t)(B:(FX es X.env).length=n:=by rfl)(j:(FX es X.env).findIdx? (·.1)=Y:=by rfl):PG X (.Tuple es k pos) (zH X.K n t):=by
 intro pins s σ H v u Q I r hw;obtain⟨a,xs,F,J,L,hw⟩:=hw;subst F
 cases r
 obtain⟨its,rv,O,NP⟩:=I.tuple J;refine assign_Tuple_tuple (I.ok.hd z) O (by simp[B,<-L,rv.length]) j λh' hx=>?_
 have U:Inv X pins σ H {s with heap:=h'}:=I.kept (t':=s.toks) λb o e=>hx b o (Ep (D0 e)) e
 exact h pins _ σ H xs _ Q U (by simpa using rv) hw
noncomputable def zI(to ti:TE)(t:nk):TG:=λv σ H Q=>to σ H λo H1=>ti σ H1 λi H2=>t o i v H2 λH3=>Q σ H3
theorem wG {o i:Expr}{to ti:TE}{t:nk}(ho:PE X o to)(hi:PE X i ti)(hs:PSet X t)(z:∀v,assign (.Subscript o i pos) X.env v=(do
   let ov <-holding [v] (eval o X.env)
   let iv <-holding [v,ov] (eval i X.env)
   Jy pos
   holding [v,ov,iv] (setItem ov iv v)
   release [v,ov,iv] []):=by intro _;rfl):PG X (.Subscript o i pos) (zI to ti t):=by
 intro pins s σ H v u Q I r h;rw[z];refine b3 (ES (thn (ho pins s σ H _ I h) λov s1 j=>?_));obtain⟨x,H1,B,F,J⟩:=j;refine b3 (ES (thn (hi pins s1 σ H1 _ B J) λiv s2 j=>?_));obtain⟨y,H2,L,O,U⟩:=j;refine b3 (HR (b3 (ES (thn (hs pins s2 σ H2 x y v ov iv u _ L F O r U) λ_ s3 j=>?_))));obtain⟨NP,fv,q3⟩:=j;exact wpAny_release ⟨σ,NP,fv,q3⟩
noncomputable def nn(te:TE)(g:TG):TS:=λD σ H=>te σ H λx H1=>g x σ H1 D.nx
theorem oQ{te:TE}{g:TG}(he:PE X e te)(j:PG X tg g)(hs:IT [tg] e pos.line X.env=pure NR:=by rfl)(hw:IU [tg] e X.env=pure Y:=by rfl)(h1:(FX [tg] X.env).map (·.2)=[assign tg X.env]:=by rfl):PS X (.Assign [tg] e pos) (nn te g):=by intro pins s σ H D I h;refine wpAny_Assign_stores (thn (he pins s σ H _ I h) λv s1 g9=>?_) hs hw;obtain⟨x,H1,z,B,F⟩:=g9;rw[h1];exact thn (j pins s1 σ H1 x v _ z B F) λ_ s2 q=>q
end
section
variable{X:Cx}{pos:Pos}
noncomputable def oR(c:TT)(tb:TS):TS:=λD σ H=>∃W:Nat->St->Hp->Prop,(∃m,W m σ H)/\∀m σ H,W m σ H->
 c σ H λb H1=>if b=NQ then ∃N:St->Hp->Prop,(∀σ' H',N σ' H'->∃m',m'<m/\W m' σ' H')/\tb {D with nx:=N,ct:=N,bk:=D.nx} σ H1 else D.nx σ H1
theorem qZ{tc:TT}{tb:TS}(O:PassesOwn (model X.prog X.w) X.A X.env X.xe)(fv:PT X c tc)(hb:PSs X body tb):PS X (.While c body [] pos) (oR tc tb):=by
 intro pins s σ H D I h;obtain⟨W,⟨m0,w0⟩,turn⟩:=h;refine wpAny_While (codeAny_whileLoop (λn s'=>∃σ' H',Inv X pins σ' H' s'/\W n σ' H') ?_ m0 ⟨σ,H,I,w0⟩);rintro n s1 ⟨σ1,H1,I1,w1⟩;refine Gz O (thn (fv pins s1 σ1 H1 _ I1 (turn n σ1 H1 w1)) λb s2 g9=>?_);obtain⟨H2,U,z⟩:=g9
 cases b with
 |true=>
  obtain⟨N,NP,z⟩:=z;rw[if_pos rfl];refine Gz O (thn (hb pins s2 σ1 H2 _ U z) λf s3 B=>?_)
  cases f with
  |next=>obtain⟨σ3,j,F,J⟩:=B;obtain⟨m',hm,L⟩:=NP σ3 j J;exact⟨m',hm,σ3,j,F,L⟩
  |cont=>obtain⟨σ3,j,F,J⟩:=B;obtain⟨m',hm,L⟩:=NP σ3 j J;exact⟨m',hm,σ3,j,F,L⟩
  |brk=>exact B
  |ret v=>exact B
 |false=>rw[if_neg E5];exact Kf ⟨σ1,H2,U,z⟩
end
structure It where
 go:Nat->Hp->Prop
 yld:Nat->Hp->V->Hp->Prop
 stop:Nat->Hp->Prop
def ca(X:Cx)(pins:List (NS×Obj))(H:Hp)(b:NS):Prop:=H b=Y/\b≠X.env.locals/\b∉X.fs/\(b∈X.ex∨X.s₀.heap.objs.size<=b)/\(∀x c,X.env.cells.lookup x=Z c->c≠b)/\∀p∈X.pn++pins,p.1≠b
theorem Inv.fpOk{H':Hp}(I:Inv X pins σ H s)(j:s.heap.objs.size<=b)(B:H' b=Y):ca X pins H' b:=by
 refine⟨B,F8 (Er I.lt j),I.nofs j,.inr (Fu I.sz j),λx c e z=>?_,λp F z=>?_⟩
 ·obtain⟨v,q⟩:=I.cell x c e;exact absurd (Er q.lt (by rw[z];exact j)) (EB _)
 ·exact absurd (Er (D0 (I.pin p F).1) (by rw[z];exact j)) (EB _)
structure jL(P:Eg)(w:Ez)(K:Frag)(tg:Expr)(J:It)(fp:List NS)(it:NS)(tn:Nat->Heap->Prop):Prop where
 mem:it∈fp
 obj:∀i h,tn i h->∀b∈fp,∃o,h.get? b=Z o/\∀v,o.data≠.cell v
 keep:∀i h h',tn i h->(∀b∈fp,∀o,h.get? b=Z o->h'.get? b=Z o)->tn i h'
 item:∀(X:Cx),X.prog=P->X.w=w->X.K=K->X.calm=NQ->∀(i:Nat) (pins:List (NS×Obj)) (s:q7) (σ:St) (H:Hp) (E:gV->q7->Prop),Inv X pins σ H s->(∀b∈fp,ca X pins H b)->tn i s.heap->J.go i H->
  DU (model P w) X.A (GH (.ref it)) (λr s1=>∃u,r=Z u /\
   DU (model P w) X.A (J1 tg (.ref it) u) (λ_ s2=>∃x H',Inv X pins σ H' s2/\RelV x u/\J.yld i H x H'/\tn (i+1) s2.heap/\∀b∈fp,H' b=Y) E s1) E s
 done:∀(X:Cx),X.prog=P->X.w=w->X.K=K->X.calm=NQ->∀(i:Nat) (pins:List (NS×Obj)) (s:q7) (σ:St) (H:Hp) (E:gV->q7->Prop),Inv X pins σ H s->(∀b∈fp,ca X pins H b)->tn i s.heap->J.stop i H->
  DU (model P w) X.A (GH (.ref it)) (λr s1=>r=Y/\Inv X pins σ H s1) E s
 self:∀(A:ED) (i:Nat) (s:q7) (Q:gV->q7->Prop) (E:gV->q7->Prop),tn i s.heap->Q (.ref it) s->DU (model P w) A (JC (.ref it)) Q E s
noncomputable abbrev TI:=St->Hp->(It->Hp->Prop)->Prop
def PIE(X:Cx)(pins:List (NS×Obj))(σ:St)(tg:Expr)(R:It->Hp->Prop)(itv:gV)(s2:q7):Prop:=∃(it:NS) (fp:List NS) (tn:Nat->Heap->Prop) (J:It) (H':Hp),itv=.ref it/\Inv X pins σ H' s2/\jL X.prog X.w X.K tg J fp it tn/\tn 0 s2.heap/\(∀b∈fp,ca X pins H' b)/\R J H'
def PI(X:Cx)(tg iter:Expr)(wi:TI):Prop:=
 ∀(pins:List (NS×Obj)) (s:q7) (σ:St) (H:Hp) (R:It->Hp->Prop),Inv X pins σ H s->wi σ H R->
  DU (model X.prog X.w) X.A (eval iter X.env) (λv s1=>DU (model X.prog X.w) X.A (JC v) (PIE X pins σ tg R) X.xe s1) X.xe s
theorem no{E:gV->q7->Prop}{it:NS}{o:Obj}{n:String}{vs:Array gV}{Q:Unit->q7->Prop}(ho:s.heap.get? it=Z o)(z:o.cls=.type n)(hd:o.data=.fields vs)(B:["enumerate","zip","dict_itemiterator","dict_reverseitemiterator","odict_iterator","itertools.zip_longest","itertools.pairwise"].contains n=NR)(j:Q () s):DU M A (J1 tg (.ref it) u) Q E s:=by
 unfold J1
 cases tg<;>first
  |exact r4 j
  | (cases u<;>first
      |exact r4 j
      | (refine b3 (K0 ho ?_)
         rw[z,hd];show DU M A (if(["enumerate","zip","dict_itemiterator","dict_reverseitemiterator","odict_iterator","itertools.zip_longest","itertools.pairwise"].contains n&&vs[0]?==Z (HJ _))=NQ then _ else _) Q E s
         rw[if_neg (by intro h;rw[B,Bool.false_and]at h;cases h)]
         exact r4 j))
noncomputable def Itl(K:Frag)(a:NS):It:=⟨λi H=>∃xs x,SqL K H a xs/\xs[i]?=Z x,λi H x H'=>H'=H/\∀xs,SqL K H a xs->xs[i]?=Z x,λi H=>∃xs,SqL K H a xs/\xs.length<=i⟩
noncomputable def Itt(K:Frag)(a:NS):It:=⟨λi H=>∃xs x,SqT K H a xs/\xs[i]?=Z x,λi H x H'=>H'=H/\∀xs,SqT K H a xs->xs[i]?=Z x,λi H=>∃xs,SqT K H a xs/\xs.length<=i⟩
noncomputable def Itr(lo:Int)(n:Nat):It:=⟨λi _=>i<n,λi H x H'=>H'=H/\x=.int (lo+i),λi _=>n<=i⟩
theorem oT(a it:NS):jL P w K tg (Itl K a) [it] it (λi h=>h.IsListIter it a i) where
 mem:=by simp
 obj:=λi h st b j=>by
  have e:b=it:=by simpa using j
  subst e;obtain⟨o,e,c,d⟩:=st;exact⟨o,e,λv z=>by rw[d]at z;cases z⟩
 keep:=λi h h' st k=>st.at λo e=>k it (by simp) o e
 item:=by
  intro X F hw J U i pins s σ H E I hf st hg;subst F hw J;obtain⟨xs,x,B,hx⟩:=hg;obtain⟨its,rv,p,NP⟩:=I.list B;obtain⟨u,hu,ru⟩:=rv.get hx;obtain⟨f0,f1,f2,L,f4,O⟩:=hf it (by simp)
  refine wpAny_pyNext_list_item st p.isList (x:=u) (by simpa using hu) λh' st' sb=>?_
  have fv:Inv X pins σ H {s with heap:=h'}:=I.turned (t':=s.toks) (λb o j e=>(sb.2 b j).trans e) f0 f1 L f4 O
  obtain⟨o,e,c,d⟩:=id st';exact⟨u,rfl,no (s:={s with heap:=h'}) e c d (by decide) ⟨x,H,fv,ru,⟨rfl,λys hy=>by rw[I.list_inj hy B];exact hx⟩,st',λb j=>(hf b j).1⟩⟩
 done:=by
  intro X F hw J U i pins s σ H E I hf st hg;subst F hw J;obtain⟨xs,B,hx⟩:=hg;obtain⟨its,rv,p,NP⟩:=I.list B;obtain⟨f0,f1,f2,L,f4,O⟩:=hf it (by simp)
  have hl:=rv.length;exact wpAny_pyNext_list_end (I.ok.hd U) st p.isList (by simp;lia) λh' eb=>⟨rfl,I.turned (t':=s.toks) (λb o j e=>eb b o j e) f0 f1 L f4 O⟩
 self:=λ_ _ _ _ _ st h=>wpAny_pyIter_listiter st h
theorem nr(a it:NS):jL P w K tg (Itt K a) [it] it (λi h=>h.IsTupleIter it a i) where
 mem:=by simp
 obj:=λi h st b j=>by
  have e:b=it:=by simpa using j
  subst e;obtain⟨o,e,c,d⟩:=st;exact⟨o,e,λv z=>by rw[d]at z;cases z⟩
 keep:=λi h h' st k=>st.at λo e=>k it (by simp) o e
 item:=by
  intro X F hw J U i pins s σ H E I hf st hg;subst F hw J;obtain⟨xs,x,B,hx⟩:=hg;obtain⟨its,rv,p,NP⟩:=I.tuple B;obtain⟨u,hu,ru⟩:=rv.get hx;obtain⟨f0,f1,f2,L,f4,O⟩:=hf it (by simp)
  refine wpAny_pyNext_tuple_item st (show s.heap.IsTuple a its.toArray from p) (x:=u) (by simpa using hu) λh' st' sb=>?_
  have fv:Inv X pins σ H {s with heap:=h'}:=I.turned (t':=s.toks) (λb o j e=>(sb.2 b j).trans e) f0 f1 L f4 O
  obtain⟨o,e,c,d⟩:=id st';exact⟨u,rfl,no (s:={s with heap:=h'}) e c d (by decide) ⟨x,H,fv,ru,⟨rfl,λys hy=>by rw[I.tuple_inj hy B];exact hx⟩,st',λb j=>(hf b j).1⟩⟩
 done:=by
  intro X F hw J U i pins s σ H E I hf st hg;subst F hw J;obtain⟨xs,B,hx⟩:=hg;obtain⟨its,rv,p,NP⟩:=I.tuple B;obtain⟨f0,f1,f2,L,f4,O⟩:=hf it (by simp)
  have hl:=rv.length;exact wpAny_pyNext_tuple_end (I.ok.hd U) st (show s.heap.IsTuple a its.toArray from p) (by simp;lia) λh' eb=>⟨rfl,I.turned (t':=s.toks) (λb o j e=>eb b o j e) f0 f1 L f4 O⟩
 self:=λ_ _ _ _ _ st h=>wpAny_pyIter_tupleiter st h
theorem nt(it:NS)(lo:Int)(n:Nat):jL P w K tg (Itr lo n) [it] it (λi h=>IsRangeIter h it (lo+(i:Nat)*1) ((n:Int)-(i:Nat)) 1) where
 mem:=by simp
 obj:=λi h st b j=>by
  have e:b=it:=by simpa using j
  subst e;exact⟨_,st,λv z=>by
   have z':Mr _=Data.cell v:=z
   cases z'⟩
 keep:=λi h h' st k=>k it (by simp) _ st
 item:=by
  intro X B hw F J i pins s σ H E I hf st hg;subst B hw F;obtain⟨f0,f1,f2,L,f4,O⟩:=hf it (by simp)
  have W:=Walks.range (prog:=X.prog) (w:=X.w) (I.ok.hd J) it lo 1 n;refine W.item i s _ _ hg st λv h' tk U st' kk=>?_;obtain⟨t,rfl⟩:=U;have NP:Inv X pins σ H {s with heap:=h',toks:=tk}:=I.turned (λb o j e=>kk b o (by simpa using j) e) f0 f1 L f4 O
  refine⟨_,rfl,no (s:={s with heap:=h',toks:=tk}) (n:="range_iterator") st' rfl rfl (by decide) ⟨.int (lo+i),H,NP,⟨t,?_⟩,⟨rfl,rfl⟩,st',λb j=>(hf b j).1⟩⟩
  rw[Int.mul_one]
 done:=by
  intro X B hw F J i pins s σ H E I hf st hg;subst B hw F;obtain⟨f0,f1,f2,L,f4,O⟩:=hf it (by simp)
  exact wpAny_pyNext_range_end (I.ok.hd J) st (by have:n<=i:=hg;lia) λh' eb=>⟨rfl,I.turned (t':=s.toks) (λb o j e=>eb b o j e) f0 f1 L f4 O⟩
 self:=λ_ _ _ _ _ st h=>wpAny_pyIter_rangeiter st h
end
variable{fp:List NS}
section
section
variable{X:Cx}{tg:Expr}
theorem r6{R:It->Hp->Prop}{E:gV->q7->Prop}{lo hi:Int}{t u v:Tok}{tk:Nat}(I:Inv X pins σ H s)(h1:-(2^62)<=lo)(h2:lo<2^62)(z:-(2^62)<=hi)(B:hi<2^62)(q:R (Itr lo (hi-lo).toNat) H):DU (model X.prog X.w) X.A (JC (.ref s.heap.objs.size)) (PIE X pins σ tg R) E {s with heap:=s.heap.push {cls:=.type "range",data:=.fields #[.int lo t,.int hi u,.int 1 v]},toks:=tk}:=by
 refine wpAny_pyIter_range (IsRange.new ..) (small_one h1 h2 z B) ?_;have j:Inv X pins σ H {s with heap:=s.heap.push {cls:=.type "range",data:=.fields #[.int lo t,.int hi u,.int 1 v]},toks:=tk}:=I.kept λb o e=>i2 _ e
 refine⟨(s.heap.push {cls:=.type "range",data:=.fields #[.int lo t,.int hi u,.int 1 v]}).objs.size,[(s.heap.push {cls:=.type "range",data:=.fields #[.int lo t,.int hi u,.int 1 v]}).objs.size],_,_,H,rfl,
  j.kept (t':=tk) λb o e=>i2 _ e,nt _ lo (hi-lo).toNat,?_,λb F=>?_,q⟩
 ·have J:lo+((0:Nat):Int)*1=lo:=by simp
  have L:(((hi-lo).toNat:Nat):Int)-((0:Nat):Int)=Builtin.Range.rangeSize lo hi 1:=by rw[rangeSize_one];split<;>lia
  show IsRangeIter _ _ (lo+((0:Nat):Int)*1) ((((hi-lo).toNat:Nat):Int)-((0:Nat):Int)) 1;rw[J,L];exact DW _ rfl
 ·have e:b=(s.heap.push {cls:=.type "range",data:=.fields #[.int lo t,.int hi u,.int 1 v]}).objs.size:=by simpa using F
  subst e;exact j.fpOk (E2 _) (j.hok.fresh (E2 _))
noncomputable def yx(ta:TA):TI:=λσ H R=>ta σ H λvs H1=>∃j:Int,vs=[.int j] /\ -(2^62)<=j/\j<2^62/\R (Itr 0 j.toNat) H1
theorem oU{a:Expr}{ta:TA}{p:Pos}(B:Gl X "range")(hm:X.mg "range"=Y)(F:PA X [a] ta)(hs:EA [a] X.env=[(NR,eval a X.env)]:=by rfl):PI X tg (.Call (.Name "range" p) [a] [] pos) (yx ta):=by
 intro pins s σ H R I h;refine Call_ (bR I B hm boot_range (FF (thn (F pos pins s σ H _ I h) λus s1 g9=>?_) hs rfl));obtain⟨vs,H1,J,L,z⟩:=g9;obtain⟨j,e,z,O,q⟩:=z;subst e
 cases L with
 |cons r rr=>
  cases rr
  obtain⟨t,rfl⟩:=r;exact call_range_1 (r6 J ∅ ∅ z O (by simpa using q))
noncomputable def wH(wi:TI)(g:TG)(tb:TS):TS:=λD σ H=>wi σ H λJ H1=>∃W:Nat->Nat->St->Hp->Prop,(∃m,W 0 m σ H1)/\∀i m σ H,W i m σ H->
 (J.stop i H/\D.nx σ H)∨(J.go i H/\∃N:St->Hp->Prop,(∀σ' H',N σ' H'->∃m',m'<m/\W (i+1) m' σ' H')/\∀x H',J.yld i H x H'->g x σ H' λσ2 H2=>tb {D with nx:=N,ct:=N,bk:=D.nx} σ2 H2)
noncomputable def gi(fp:List NS)(h:Heap):List (NS×Obj):=fp.filterMap λb=>(h.get? b).map λo=>(b,o)
theorem cw{o:Obj}(j:b∈fp)(e:h.get? b=Z o):(b,o)∈gi fp h:=Jf.mpr ⟨b,j,by rw[e];rfl⟩
theorem oV{p:NS×Obj}(j:p∈gi fp h):p.1∈fp/\h.get? p.1=Z p.2:=by
 obtain⟨b,z,e⟩:=Jf.mp j
 cases q:h.get? b with
 |none=>rw[q]at e;cases e
 |some o=>rw[q]at e;have e':(b,o)=p:=Fn.inj e;subst e';exact⟨z,q⟩
theorem Inv.pinned(I:Inv X pins σ H s)(hf:∀b∈fp,ca X pins H b)(ho:∀b∈fp,∃o,s.heap.get? b=Z o/\∀v,o.data≠.cell v):Inv X (pins++gi fp s.heap) σ H s:=
 I.pins_of λp B=>(Ef.mp B).elim (λz=>I.pin p (Ed _ z)) λz=>by obtain⟨j,e⟩:=oV z;obtain⟨f0,f1,f2,_⟩:=hf p.1 j;obtain⟨o,e',d⟩:=ho p.1 j;rw[e]at e';cases e';exact⟨e,f0,f1,f2,d⟩
theorem Inv.unpinned{pl:List (NS×Obj)}(I:Inv X (pins++pl) σ H s):Inv X pins σ H s:=I.pins_of λp j=>I.pin p (Ed _ (EV _ j))
theorem wJ{iter:Expr}{wi:TI}{g:TG}{tb:TS}(U:PassesOwn (model X.prog X.w) X.A X.env X.xe)(hc:X.calm=NQ)(hi:PI X tg iter wi)(hg:PG X tg g)(j:PSs X body tb)(hs:∀x,G3 iter X.env x=pure x:=by intro _;rfl):PS X (.For tg iter body [] pos) (wH wi g tb):=by
 intro pins s σ H D I h;refine wpAny_For (thn (hi pins s σ H _ I h) λv s1 h1=>thn h1 λitv s2 h2=>?_) hs;obtain⟨it,fp,tn,J,H2,e,I2,T,BG,f2,W,⟨m0,w0⟩,turn⟩:=h2;subst e;have stat:∀{H':Hp},(∀b∈fp,H' b=Y)->∀b∈fp,ca X pins H' b:=λhn b j=>⟨hn b j,(f2 b j).2⟩;refine codeAny_forLoop_any (λn s'=>∃i σ' H',Inv X pins σ' H' s'/\tn i s'.heap/\(∀b∈fp,H' b=Y)/\W i n σ' H') ?_ m0 ⟨0,σ,H2,I2,BG,λb j=>(f2 b j).1,w0⟩;rintro n s3 ⟨i,σ3,H3,I3,NP,fv,w3⟩
 rcases turn i n σ3 H3 w3 with⟨stop,qn⟩|⟨go,N,hN,step⟩
 ·refine Gz U (thn (T.done X rfl rfl rfl hc i pins s3 σ3 H3 X.xe I3 (stat fv) NP stop) λr s4 L=>?_);obtain⟨hr,I4⟩:=L;subst hr;exact Kf ⟨σ3,H3,I4,qn⟩
 ·refine Gz U (thn (T.item X rfl rfl rfl hc i pins s3 σ3 H3 X.xe I3 (stat fv) NP go) fun r s4 L=>?_);obtain⟨u,hr,h4⟩:=L;subst hr;refine Gz U (thn h4 fun _ s5 L=>?_);obtain⟨x,H5,I5,r5,y5,O,BH⟩:=L;have BI:=I5.pinned (stat BH) (T.obj _ _ O);refine Gz U (thn (hg _ s5 σ3 H5 x u _ BI r5 (step x H5 y5)) fun _ s6 L=>?_);obtain⟨σ6,H6,I6,q6⟩:=L;refine Gz U (thn (j _ s6 σ6 H6 _ I6 q6) fun f s7 F=>?_);have again:∀{σ7:St} {z:Hp},Inv X (pins++gi fp s5.heap) σ7 z s7->N σ7 z->∃m,m<n/\∃i σ' H',Inv X pins σ' H' s7/\tn i s7.heap/\(∀b∈fp,H' b=Y)/\W i m σ' H':=fun {σ7 z} B n7=>by
   obtain⟨m',hm,w7⟩:=hN σ7 z n7;refine⟨m',hm,i+1,σ7,z,B.unpinned,T.keep _ _ _ O λb j o e=>(B.pin (b,o) (Ed _ (Ed _ (cw j e)))).1,λb j=>?_,w7⟩;obtain⟨o,e,d⟩:=T.obj _ _ O b j;exact(B.pin (b,o) (Ed _ (Ed _ (cw j e)))).2.1
  cases f with
  |next=>obtain⟨σ7,z,B,n7⟩:=F;exact again B n7
  |cont=>obtain⟨σ7,z,B,n7⟩:=F;exact again B n7
  |brk=>obtain⟨σ7,z,B,F⟩:=F;exact⟨σ7,z,B.unpinned,F⟩
  |ret v=>obtain⟨x7,σ7,z,B,r7,F⟩:=F;exact⟨x7,σ7,z,B.unpinned,r7,F⟩
end
end
variable{f:gV->gV->Sem gV}
section
noncomputable abbrev R2:=V->V->Hp->VK->Prop
def OpR(X:Cx)(f:gV->gV->Sem gV)(r:R2):Prop:=
 ∀(pins:List (NS×Obj)) (s:q7) (σ:St) (H:Hp) (x y:V) (v u:gV) (Q:VK),Inv X pins σ H s->RelV x v->RelV y u->r x y H Q->
  DU (model X.prog X.w) X.A (f v u) (EP X pins σ Q) X.xe s
def UnR(X:Cx)(f:gV->Sem gV)(r:V->Hp->VK->Prop):Prop:=
 ∀(pins:List (NS×Obj)) (s:q7) (σ:St) (H:Hp) (x:V) (v:gV) (Q:VK),Inv X pins σ H s->RelV x v->r x H Q->
  DU (model X.prog X.w) X.A (f v) (EP X pins σ Q) X.xe s
def CallR(X:Cx)(f:gV)(r:List V->Hp->VK->Prop):Prop:=
 ∀(pins:List (NS×Obj)) (s:q7) (σ:St) (H:Hp) (xs:List V) (us:List gV) (Q:VK),Inv X pins σ H s->Vals xs us->r xs H Q->
  DU (model X.prog X.w) X.A (call f us) (EP X pins σ Q) X.xe s
def zJ(X:Cx)(r:V->Hp->(Bool->Hp->Prop)->Prop):Prop:=
 ∀(pins:List (NS×Obj)) (s:q7) (σ:St) (H:Hp) (x:V) (v:gV) (Q:Bool->Hp->Prop),Inv X pins σ H s->RelV x v->r x H Q->
  DU (model X.prog X.w) X.A (truthy v) (TP X pins σ Q) X.xe s
noncomputable def tOp(r:R2)(ta tb:TE):TE:=λσ H Q=>ta σ H λx H1=>tb σ H1 λy H2=>r x y H2 Q
noncomputable def tUn(r:V->Hp->VK->Prop)(ta:TE):TE:=λσ H Q=>ta σ H λx H1=>r x H1 Q
noncomputable def rI(C:Int->Int->Prop)(g:Int->Int->V):R2:=λx y H Q=>∃i j,x=.int i/\y=.int j/\C i j/\Q (g i j) H
noncomputable def rI0(g:Int->Int->V):R2:=λx y H Q=>∃i j,x=.int i/\y=.int j/\Q (g i j) H
noncomputable def rU(g:Int->V):V->Hp->VK->Prop:=λx H Q=>∃i,x=.int i/\Q (g i) H
section
variable{X:Cx}{a b c:Expr}{ta tb tc:TE}{pos:Pos}
theorem r8(z:PE X a ta)(B:PE X b tb){R:V->V->Hp->Prop}(I:Inv X pins σ H s)(h:ta σ H λx H1=>tb σ H1 λy H2=>R x y H2){Q:gV->q7->Prop}(hf:∀v u s2 x y H2,Inv X pins σ H2 s2->RelV x v->RelV y u->R x y H2->DU (model X.prog X.w) X.A (f v u) Q X.xe s2):
 DU (model X.prog X.w) X.A (eval a X.env) (λv s₁=>DU (model X.prog X.w) X.A (eval b X.env) (λu s₂=>DU (model X.prog X.w) X.A (f v u) Q X.xe s₂) X.xe s₁) X.xe s:=by
 refine thn (z pins s σ H _ I h) λv s1 j=>?_;obtain⟨x,H1,F,J,L⟩:=j;refine thn (B pins s1 σ H1 _ F L) λu s2 j=>?_;obtain⟨y,H2,O,U,NP⟩:=j;exact hf v u s2 x y H2 O J U NP
theorem yz{op:Lq}{r:R2}(ho:OpR X (Fo op) r)(j:PE X a ta)(z:PE X b tb):PE X (.BinOp a op b pos) (tOp r ta tb):=by intro pins s σ H Q I h;exact wpAny_BinOp (r8 j z I h λv u s2 x y H2 B rx ry q=>ho pins s2 σ H2 x y v u Q B rx ry q)
theorem yA{op:UnaryOp}{r:V->Hp->VK->Prop}(ho:UnR X (unaryOp op) r)(j:PE X a ta):PE X (.UnaryOp op a pos) (tUn r ta):=by intro pins s σ H Q I h;exact UnaryOp_ (thn (j pins s σ H _ I h) λv s1 z=>(by obtain⟨x,H1,B,F,J⟩:=z;exact ho pins s1 σ H1 x v Q B F J))
theorem opI{C:Int->Int->Prop}{g:Int->Int->Int}(rule:∀(i j:Int) (t u:Tok) (s:q7) (Q:gV->q7->Prop) (E:gV->q7->Prop),C i j->Q (.int (g i j) s.toks) {s with toks:=s.toks+1}->DU (model X.prog X.w) X.A (f (.int i t) (.int j u)) Q E s):
 OpR X f (rI C λi j=>.int (g i j)):=by
 intro pins s σ H x y v u Q I rx ry h;obtain⟨i,j,rfl,rfl,z,q⟩:=h;obtain⟨t,rfl⟩:=rx;obtain⟨t',rfl⟩:=ry;exact rule i j t t' s _ _ z ⟨.int (g i j),H,I.tok _,⟨_,rfl⟩,q⟩
theorem wK{g:Int->Int->Int}(rule:∀(i j:Int) (t u:Tok) (s:q7) (Q:gV->q7->Prop) (E:gV->q7->Prop),Q (.int (g i j) s.toks) {s with toks:=s.toks+1}->DU (model X.prog X.w) X.A (f (.int i t) (.int j u)) Q E s):
 OpR X f (rI0 λi j=>.int (g i j)):=by
 intro pins s σ H x y v u Q I rx ry h;obtain⟨i,j,rfl,rfl,q⟩:=h;obtain⟨t,rfl⟩:=rx;obtain⟨t',rfl⟩:=ry;exact rule i j t t' s _ _ ⟨.int (g i j),H,I.tok _,⟨_,rfl⟩,q⟩
theorem r9{g:Int->Int->Bool}(rule:∀(i j:Int) (t u:Tok) (s:q7) (Q:gV->q7->Prop) (E:gV->q7->Prop),Q (.bool (g i j)) s->DU (model X.prog X.w) X.A (f (.int i t) (.int j u)) Q E s):
 OpR X f (rI0 λi j=>.bl (g i j)):=by
 intro pins s σ H x y v u Q I rx ry h;obtain⟨i,j,rfl,rfl,q⟩:=h;obtain⟨t,rfl⟩:=rx;obtain⟨t',rfl⟩:=ry;exact rule i j t t' s _ _ ⟨.bl (g i j),H,I,rfl,q⟩
def zK(i j:Int):Prop:=0<=j/\j<=1000000/\i.natAbs<2^64
theorem op_add:OpR X (Fo .Add) (rI0 λi j=>.int (i+j)):=wK λ_ _ _ _ _ _ _ q=>add_int q
theorem wL:OpR X (Fo .Sub) (rI0 λi j=>.int (i-j)):=wK λ_ _ _ _ _ _ _ q=>sub_int q
theorem wM:OpR X (Fo .Mod) (rI (λ_ j=>0<j) λi j=>.int (i%j)):=opI λi j _ _ _ _ _ z q=>by have h1:(0:Int)<j:=z;exact mod_int' ∅ (by rw[Int.fmod_eq_emod_of_nonneg i ∅];exact q)
theorem wN:OpR X (Fo .Pow) (rI zK λi j=>.int (i^j.toNat)):=opI λ_ _ _ _ _ _ _ z q=>pow_int_small z.1 z.2.1 z.2.2 q
theorem unI{f:gV->Sem gV}{g:Int->Int}(rule:∀(i:Int) (t:Tok) (s:q7) (Q:gV->q7->Prop) (E:gV->q7->Prop),Q (.int (g i) s.toks) {s with toks:=s.toks+1}->DU (model X.prog X.w) X.A (f (.int i t)) Q E s):
 UnR X f (rU λi=>.int (g i)):=by
 intro pins s σ H x v Q I rx h;obtain⟨i,rfl,q⟩:=h;obtain⟨t,rfl⟩:=rx;exact rule i t s _ _ ⟨.int (g i),H,I.tok _,⟨_,rfl⟩,q⟩
theorem wP:UnR X (unaryOp .USub) (rU λi=>.int (-i)):=unI λ_ _ _ _ _ q=>neg_int q
end
section
variable{X:Cx}{a b c:Expr}{ta tb tc:TE}{pos:Pos}
theorem yB:OpR X (GA .Lt) (rI0 λi j=>.bl (decide (i<j))):=r9 λ_ _ _ _ _ _ _ q=>lt_int q
theorem yC:OpR X (GA .Gt) (rI0 λi j=>.bl (decide (j<i))):=r9 λ_ _ _ _ _ _ _ q=>gt_int q
theorem yD:OpR X (GA .GtE) (rI0 λi j=>.bl (decide (j<=i))):=r9 λ_ _ _ _ _ _ _ q=>ge_int q
theorem OpR.or{r r':R2}(h:OpR X f r)(h':OpR X f r'):OpR X f (λx y H Q=>r x y H Q∨r' x y H Q):=by
 intro pins s σ H x y v u Q I rx ry q
 rcases q with q|q
 ·exact h pins s σ H x y v u Q I rx ry q
 ·exact h' pins s σ H x y v u Q I rx ry q
theorem uG{op:CmpOp}{r:R2}(ho:OpR X (GA op) r)(j:PE X a ta)(z:PE X b tb)(hm:HS op b=NR):PE X (.Compare a [op] [b] pos) (tOp r ta tb):=by intro pins s σ H Q I h;exact wpAny_Compare1 (r8 j z I h λv u s2 x y H2 B rx ry q=>ho pins s2 σ H2 x y v u Q B rx ry q) hm
noncomputable def tY(t:TE):TT:=λσ H Q=>t σ H λx H'=>∃k,x=.bl k/\Q k H'
theorem uH{op:CmpOp}{r:R2}(ho:OpR X (GA op) r)(j:PE X a ta)(B:PE X b tb)(hm:HS op b=NR):PT X (.Compare a [op] [b] pos) (tY (tOp r ta tb)):=by
 intro pins s σ H Q I h;refine wpAny_isTrue_Compare1 (thn (j pins s σ H _ I h) λv s1 ⟨x,H1,F,J,L⟩=>thn (B pins s1 σ H1 _ F L) λu s2 ⟨y,H2,O,U,NP⟩=>thn (ho pins s2 σ H2 x y v u _ O J U NP) λc s3 ⟨z,fv,I3,r3,k,e,q3⟩=>?_) hm
 subst e
 cases r3
 exact Hs ⟨fv,I3,q3⟩
def rf(K:Frag)(x:V)(H:Hp)(k:Bool):Prop:=
 match x with
 |.non=>k=NR
 |.bl b=>k=b
 |.int i=>k=(i != 0)
 |.str y=>y.length<=D2/\k=((y.length:Int) != 0)
 |.byt y=>y.size<=D2/\k=((y.size:Int) != 0)
 |.ref p=>(∃xs,SqL K H p xs/\k = !xs.isEmpty)∨(∃xs,SqT K H p xs/\k = !xs.isEmpty)∨∃kvs,H p=Z (.dK kvs)/\k = !kvs.isEmpty
 |_=>False
theorem nu{κ:Type}{kvs:List (κ×V)}{vs:List (κ×gV)}(r:KV kvs vs):(!vs.isEmpty) = !kvs.isEmpty:=by cases r<;>rfl
theorem gj{xs:List V}{its:List gV}(r:Vals xs its):(!its.toArray.isEmpty) = !xs.isEmpty:=by cases r<;>simp
theorem dO:(D2:Nat)<2^63:=by rw[Ek];decide
theorem wQ:zJ X (λx H Q=>∃k,rf X.K x H k/\Q k H):=by
 intro pins s σ H x v Q I rx h;obtain⟨k,e,q⟩:=h;have F:=dO;have hs:D2=16777216:=Ek
 cases x with
 |non=>
  cases rx
  have e':k=NR:=e;subst e';exact truthy_none ⟨H,I,q⟩
 |bl b=>
  cases rx
  have e':k=b:=e;subst e';exact Hs ⟨H,I,q⟩
 |int i=>obtain⟨t,rfl⟩:=rx;have e':k=(i != 0):=e;subst e';exact PySem.P.truthy_int ⟨H,I,q⟩
 |str y=>obtain⟨t,rfl⟩:=rx;obtain⟨z,e'⟩:y.length<=D2/\k=((y.length:Int) != 0):=e;subst e';exact PySem.P.truthy_str ∅ ⟨H,I.tok _,q⟩
 |byt y=>obtain⟨t,rfl⟩:=rx;obtain⟨z,e'⟩:y.size<=D2/\k=((y.size:Int) != 0):=e;subst e';exact PySem.W.truthy_bytes ∅ ⟨H,I.tok _,q⟩
 |ref p=>
  cases rx
  have e':(∃xs,SqL X.K H p xs/\k = !xs.isEmpty)∨(∃xs,SqT X.K H p xs/\k = !xs.isEmpty)∨∃kvs,H p=Z (.dK kvs)/\k = !kvs.isEmpty:=e
  rcases e' with⟨xs,hx,e'⟩|⟨xs,hx,e'⟩|⟨kvs,hx,e'⟩
  ·subst e';obtain⟨its,r,pl,j⟩:=I.list hx;have hlen:=r.length;exact wpAny_truthy_list pl.isList (by simp only[E8];lia) ⟨H,I.tok _,by rw[gj r];exact q⟩
  ·subst e';obtain⟨its,r,pl,j⟩:=I.tuple hx;have hlen:=r.length;exact truthy_tuple pl (by simp only[E8];lia) ⟨H,I.tok _,by rw[gj r];exact q⟩
  ·subst e';obtain⟨j,B,vs,r,m⟩:kvs.length<=D2/\(p==FV)=NR/\∃vs,KV kvs vs/\s.heap.DictOf (ay X.prog X.w) p vs:=I.hok p _ hx;have hlen:kvs.length=vs.length:=HQ r;exact wpAny_truthy_dict B m ∅ ⟨H,I.tok _,by rw[nu r];exact q⟩
 |_=>exact(show False from e).elim
theorem rg(j:PE X a ta)(he:∀whole,isTrue a X.env whole=(do let v <-whole;Jy a.pos;holding [v] (truthy v))):
 PT X a (λσ H Q=>ta σ H λx H'=>∃k,rf X.K x H' k/\Q k H'):=by
 intro pins s σ H Q I h;exact isTrue_plain (thn (j pins s σ H _ I h) λv s1 z=>(by obtain⟨x,H1,B,F,J⟩:=z;exact wQ pins s1 σ H1 x v Q B F J)) (he _)
theorem nv:OpR X (Fo .Add) (λx y H Q=>∃i j,x=.str i/\y=.str j/\i.length+j.length<=D2/\Q (.str (i++j)) H):=by intro pins s σ H x y v u Q I rx ry h;obtain⟨i,j,rfl,rfl,z,q⟩:=h;obtain⟨t,rfl⟩:=rx;obtain⟨t',rfl⟩:=ry;exact add_str (λt' tk=>⟨.str (i++j),H,I.tok _,⟨_,rfl⟩,q⟩) z
theorem eJ{x:V}(r:Vals [x] us):∃u,us=[u]/\RelV x u:=by
 cases r with
 |cons j z=>cases z;exact⟨_,rfl,j⟩
theorem tZ{x y:V}(r:Vals [x,y] us):∃u w',us=[u,w']/\RelV x u/\RelV y w':=by
 cases r with
 |cons j z=>
  cases z with
  |cons B F=>cases F;exact⟨_,_,rfl,j,B⟩
theorem rh:CallR X (.builtin "abs") (λxs H Q=>∃i,xs=[.int i]/\Q (.int (if i<0 then -i else i)) H):=by intro pins s σ H xs us Q I r h;obtain⟨i,rfl,q⟩:=h;obtain⟨u,rfl,t,rfl⟩:=eJ r;exact call_abs_int λu tk=>⟨.int (if i<0 then -i else i),H,I.tok _,⟨_,rfl⟩,q⟩
theorem oW(B:X.calm=NQ):CallR X (.builtin "min") (λxs H Q=>∃i j,xs=[.int i,.int j]/\Q (.int (if j<i then j else i)) H):=by
 intro pins s σ H xs us Q I r h;obtain⟨i,j,rfl,q⟩:=h;obtain⟨u,w',rfl,⟨t,rfl⟩,⟨t',rfl⟩⟩:=tZ r;refine min_two_ints (I.ok.hd B) λh' tk k=>⟨_,H,I.kept k,?_,q⟩
 by_cases z:j<i
 ·rw[if_pos z,if_pos z];exact⟨_,rfl⟩
 ·rw[if_neg z,if_neg z];exact⟨_,rfl⟩
theorem oZ:CallR X (.type "int") (λxs H Q=>(∃i,xs=[.int i]/\Q (.int i) H)∨∃k,xs=[.bl k]/\Q (.int (if k then 1 else 0)) H):=by
 intro pins s σ H xs us Q I r h
 rcases h with⟨i,rfl,q⟩|⟨k,rfl,q⟩
 ·obtain⟨u,rfl,t,rfl⟩:=eJ r;exact call_int_int ⟨.int i,H,I,⟨_,rfl⟩,q⟩
 ·obtain⟨u,rfl,j⟩:=eJ r
  cases j
  exact call_int_bool ⟨.int (if k then 1 else 0),H,I.tok _,⟨_,rfl⟩,q⟩
def zL(K:Frag)(x:V)(H:Hp)(n:Nat):Prop:=
 match x with
 |.str y=>y.length<=D2/\n=y.length
 |.byt y=>y.size<=D2/\n=y.size
 |.ref p=>(∃xs,SqL K H p xs/\n=xs.length)∨∃xs,SqT K H p xs/\n=xs.length
 |_=>False
theorem rj:CallR X (.builtin "len") (λxs H Q=>∃x n,xs=[x]/\zL X.K x H n/\Q (.int n) H):=by
 intro pins s σ H xs us Q I r h;obtain⟨x,n,rfl,e,q⟩:=h;obtain⟨u,rfl,rx⟩:=eJ r;have B:=dO;have hs:D2=16777216:=Ek
 cases x with
 |str y=>obtain⟨t,rfl⟩:=rx;obtain⟨j,e'⟩:y.length<=D2/\n=y.length:=e;subst e';exact len_str ∅ ⟨.int _,H,I.tok _,⟨_,rfl⟩,q⟩
 |byt y=>obtain⟨t,rfl⟩:=rx;obtain⟨j,e'⟩:y.size<=D2/\n=y.size:=e;subst e';exact PySem.W.len_bytes ∅ ⟨.int _,H,I.tok _,⟨_,rfl⟩,q⟩
 |ref p=>
  cases rx
  have e':(∃xs,SqL X.K H p xs/\n=xs.length)∨∃xs,SqT X.K H p xs/\n=xs.length:=e
  rcases e' with⟨xs,hx,e'⟩|⟨xs,hx,e'⟩
  ·subst e';obtain⟨its,r',pl,z⟩:=I.list hx;have hlen:=r'.length;exact Calls.call_len_list pl.isList (by simp only[E8];lia) ⟨.int xs.length,H,I.tok _,⟨_,by simp only[E8];rw[hlen]⟩,q⟩
  ·subst e';obtain⟨its,r',pl,z⟩:=I.tuple hx;have hlen:=r'.length;exact len_tuple pl (by simp only[E8];lia) ⟨.int xs.length,H,I.tok _,⟨_,by simp only[E8];rw[hlen]⟩,q⟩
 |_=>exact(show False from e).elim
end
end
section
structure ObjM(h:Heap)(x dx C:NS)(mA:Str->Option gV):Prop where
 obj:h.get? x=Z (Ke C dx)
 ns:h.Ns1 dx mA
 ne:dx≠x
theorem p0{dx:NS}{mA:Str->Option gV}(n:h.Ns1 dx mA):∃od,h.get? dx=Z od/\∀name,Kq name od=Z (mA name):=by
 obtain⟨o,es,ep,ho,hd,B,_,hm⟩:=n;refine⟨o,ho,λname=>?_⟩;have e:=hm name;unfold nsFind findBy at e;rw[<-Array.find?_toList]at e;unfold Kq;rw[hd];dsimp only
 split
 ·rename_i y q;rw[q]at e;exact congrArg Z e
 ·rename_i q;rw[q]at e;have a:es.toList.any (·.refKey)=NR:=by
   rw[List.any_eq_false];intro y F;obtain⟨z,t,j⟩:=B y (Array.mem_toList_iff.mp F);simp[DictEntry.refKey,j]
  have a':¬es.toList.any (·.refKey)=NQ:=by rw[a];exact E5
  rw[if_neg a'];exact congrArg Z e
theorem ObjM.look{x dx C:NS}{mA:Str->Option gV}(I:ObjM h x dx C mA):∃od,PySem.W.InstAt h x (Ke C dx) C (Z od)/\∀name,Kq name od=Z (mA name):=
 let⟨od,ho,j⟩:=p0 I.ns
 ⟨od,⟨I.obj,rfl,rfl,ho⟩,j⟩
theorem NJ{o:Option gV}(r:RelO (Z v) o):∃u,o=Z u/\RelV v u:=by
 cases o with
 |none=>exact(show False from r).elim
 |some u=>exact⟨u,rfl,r⟩
section
variable{P:Eg}{w:Ez}{H H':Hp}{h h':Heap}{a C dx:NS}{fs fs':List (Str×V)}
theorem uI(hok:HOk P w H h)(e:H a=Z (.ins C dx fs)):∃mA,ObjM h a dx C mA/\(∀f,RelO (fs.lookup f) (mA f))/\PySem.Within mA (fs.map (·.1))/\fs.length<=1000/\H dx=Z (.own a):=by obtain⟨d,z,ne,ob,mA,n,r,q⟩:=(show ObjOk P w H h a (.ins C dx fs)from hok a _ e);exact⟨mA,⟨ob,n,ne⟩,r,q,z,d⟩
end
structure Cls(K:Frag)(C:NS):Prop where
 pg:LX K C Str.empty=NQ
 hd:PySem.W.hasDictIn K C=NQ
 po:PySem.W.plainOver K C=NQ
 sa:PySem.W.findIn K (.ref C) "__setattr__"=Z (Z (.builtin "object.__setattr__"))
theorem Cls.get{C:NS}(c:Cls K C)(f:Str):LX K C f=NQ:=c.pg
section
variable{X:Cx}{pins:List (NS×Obj)}{σ:St}{H:Hp}{s:q7}{A:ED}{E:gV->q7->Prop}{Q:gV->q7->Prop}{c:gV}{b:Bool}
inductive bS(K:Frag)(H:Hp):V->gV->Prop where
 |non:bS K H .non (.type "NoneType")
 |bl (x:Bool):bS K H (.bl x) (.type "bool")
 |int (i:Int):bS K H (.int i) (.type "int")
 |str (x:Str):bS K H (.str x) (.type "str")
 |flt (x:UInt64):bS K H (.flt x) (.type "float")
 |lst {a:NS} {xs:List V} (e:H a=Z (.lst xs)):bS K H (.ref a) (.type "list")
 |frz {a:NS} {o:Obj} {xs:List V} (e:H a=Z (.frz o (.lst xs))):bS K H (.ref a) (.type "list")
 |tup {a:NS} {xs:List V} (e:SqT K H a xs):bS K H (.ref a) (.type "tuple")
 |dK {a:NS} {kvs:List (Key×V)} (e:H a=Z (.dK kvs)):bS K H (.ref a) (.type "dict")
 |dT {a:NS} {kvs:List (List Key×V)} (e:H a=Z (.dT kvs)):bS K H (.ref a) (.type "dict")
 | ins {a C dx:NS} {fs:List (Str×V)} (e:H a=Z (.ins C dx fs)) (cl:Cls K C) (ha:PySem.W.findIn K (.ref C) "__class__"=Z (Z (.builtin "object.__class__")))
    (hn:PySem.W.specialIn K (.builtin "object.__class__") "__get__"=Z (Z (.builtin "getset_descriptor.__get__"))) (htk:PySem.W.takesIn K (.builtin "object.__class__")=Z NQ)
    (hm:PySem.W.mroIn K C (.type "object")=Z NQ):bS K H (.ref a) (.ref C)
theorem p7{x:V}{t:gV}(I:Inv X pins σ H s)(rx:RelV x u)(ty:bS X.K H x t)(e:PySem.W.kitOne X.K t c=Z b)(h:∀tk,Q (.bool b) {s with toks:=tk}):
 DU (model X.prog X.w) A (call (.builtin "isinstance") [u,c]) Q E s:=by
 cases ty with
 |non=>cases(show u=FU from rx);exact Fh PySem.W.kitx_none I.kIn Hy e (λz=>nomatch z) h
 |bl y=>cases(show u=Lc y from rx);exact Fh PySem.W.kitx_bool I.kIn Hy e (λz=>nomatch z) h
 |int i=>obtain⟨t,q⟩:=(show ∃t,u=LV i t from rx);cases q;exact Fh PySem.W.kitx_int I.kIn Hy e (λz=>nomatch z) h
 |str y=>obtain⟨t,q⟩:=(show ∃t,u=LW y t from rx);cases q;exact Fh PySem.W.kitx_str I.kIn Hy e (λz=>nomatch z) h
 |flt y=>obtain⟨t,q⟩:=(show ∃t,u=Value.float y t from rx);cases q;exact Fh PySem.W.kitx_float I.kIn Hy e (λz=>nomatch z) h
 |@lst a xs ea=>
  cases(show u=Eb a from rx)
  obtain⟨_,_,n,_,h1⟩:=(show ObjOk X.prog X.w H s.heap a (.lst xs)from I.hok a _ ea);exact Fh Lr I.kIn ⟨_,h1,rfl⟩ e (λz=>nomatch z) h
 |@frz a ob xs ea=>
  cases(show u=Eb a from rx)
  obtain⟨_,_,_,n,_,h1⟩:=(show ObjOk X.prog X.w H s.heap a (.frz ob (.lst xs))from I.hok a _ ea);exact Fh Lr I.kIn ⟨_,h1,rfl⟩ e (λz=>nomatch z) h
 |@tup a xs ea=>
  cases(show u=Eb a from rx)
  obtain⟨_,_,p,_⟩:=I.tuple ea;obtain⟨o,h1,h2,_⟩:=p;exact Fh PySem.W.kitx_tuple I.kIn ⟨o,h1,h2⟩ e (λz=>nomatch z) h
 |@dK a kvs ea=>
  cases(show u=Eb a from rx)
  obtain⟨_,_,vs,_,p⟩:=(show ObjOk X.prog X.w H s.heap a (.dK kvs)from I.hok a _ ea);obtain⟨o,es,ep,h1,h2,_⟩:=p;exact Fh Ls I.kIn ⟨o,h1,h2.1⟩ e (λz=>nomatch z) h
 |@dT a kvs ea=>
  cases(show u=Eb a from rx)
  obtain⟨_,_,xs,_,o,es,ep,h1,h2,_⟩:=(show ObjOk X.prog X.w H s.heap a (.dT kvs)from I.hok a _ ea);exact Fh Ls I.kIn ⟨o,h1,h2.1⟩ e (λz=>nomatch z) h
 |@ins a C dx fs ea cl ha hn htk hm=>
  cases(show u=Eb a from rx)
  obtain⟨mA,O,_⟩:=uI I.hok ea;obtain⟨od,J,_⟩:=O.look;exact Fh (PySem.W.kitx_own (cl.get _) cl.hd ha hn htk hm) I.kIn J e (λz=>nomatch z) h
end
end
variable{ps:List Str}
section
structure Room(k:Nat)(A:ED):Prop where
 hd:A.handled=Y
 dp:A.depth+3*k+5<recursionLimit
 un:A.units+16*k+200<GZ
theorem Room.deeper{k:Nat}(r:Room (k+1) A)(env:Env):Room k (A.deeper env):=⟨r.hd,by have:=r.dp;show A.depth+1+3*k+5<_;lia,by have:=r.un;show A.units+3+16*k+200<_;lia⟩
theorem Room.depth{k:Nat}(r:Room k A):A.depth<recursionLimit:=by have:=r.dp;lia
theorem Room.units{k:Nat}(r:Room k A):A.units+64<GZ:=by have:=r.un;lia
noncomputable def wR:TA:=λ_ H Q=>Q [] H
noncomputable def u4(ta:TE)(tr:TA):TA:=λσ H Q=>ta σ H λx H1=>tr σ H1 λxs H2=>Q (x::xs) H2
section
variable{X:Cx}{e:Expr}{es:List Expr}{te:TE}{t:TA}{pos:Pos}
theorem p9:PA X [] wR:=λ_ _ _ _ H Q I h=>G4 ⟨[],H,I,.nil,h⟩
theorem hZ(z:PE X e te)(B:PA X es t)(hs:EA (e::es) X.env=(NR,eval e X.env)::EA es X.env:=by rfl):PA X (e::es) (u4 te t):=by intro pos pins s σ H Q I h;rw[hs];show DU _ _ (spliced ((NR,eval e X.env)::Ic pos (EA es X.env))) _ _ s;refine Fz (thn (z pins s σ H _ I h) λu s1 j=>?_);obtain⟨x,H1,F,J,L⟩:=j;exact thn (B pos pins s1 σ H1 _ F L) λus s2 j=>(by obtain⟨xs,H2,O,U,NP⟩:=j;exact⟨x::xs,H2,O,.cons J U,NP⟩)
noncomputable def zM(t:TA):TE:=λσ H Q=>t σ H λxs H1=>xs.length<=D2/\∀p,H1 p=Y->Q (.ref p) (upd H1 p (.tup xs))
noncomputable def zN(t:TA):TE:=λσ H Q=>t σ H λxs H1=>xs.length<=D2/\∀p,H1 p=Y->Q (.ref p) (upd H1 p (.lst xs))
theorem wU{B}(h:PA X es t):PE X (.Tuple es B pos) (zM t):=by
 intro pins s σ H Q I hq;refine wpAny_Tuple_spliced (thn (h pos pins s σ H _ I hq) λus s1 ⟨xs,H1,j,r,z,q⟩=>⟨by rw[<-r.length];exact z,?_⟩)
 have hf:H1 s1.heap.objs.size=Y:=j.hok.fresh (E2 _);refine⟨.ref s1.heap.objs.size,upd H1 s1.heap.objs.size (.tup xs),j.laid (t':=s1.toks) (λb u e=>i2 _ e) (E2 _) ?_,rfl,q _ hf⟩;exact⟨z,us,r,⟨_,DW _ rfl,rfl,_,rfl⟩⟩
theorem wV(h:PA X es t):PE X (.List es pos) (zN t):=by
 intro pins s σ H Q I hq;refine wpAny_List_spliced (thn (h pos pins s σ H _ I hq) λus s1 ⟨xs,H1,j,r,z,q⟩=>⟨by rw[<-r.length];exact z,?_⟩)
 have hf:H1 s1.heap.objs.size=Y:=j.hok.fresh (E2 _);refine⟨.ref s1.heap.objs.size,upd H1 s1.heap.objs.size (.lst xs),j.laid (t':=s1.toks) (λb u e=>i2 _ e) (E2 _) ?_,rfl,q _ hf⟩;exact⟨z,us,0,r,DW _ rfl⟩
end
noncomputable abbrev Sp:=List V->Hp->VK->XK->Prop
noncomputable abbrev CXT:=List Env->Hp->q7->XK->gV->q7->Prop
structure i3(P:Eg)(w:Ez)(K:Frag)(mg:Str->Option gV)(base:Heap)(A:ED)(outer:List Env)(s:q7)(H:Hp):Prop where
 frames:A.frames=Z outer
 mod:Mod K mg base
 bs:∀b o,base.get? b=Z o->s.heap.get? b=Z o/\H b=Y
 bsz:base.objs.size<=s.heap.objs.size
 funs:s.heap.FunFrames base outer
 frf:∀b∈frs outer,H b=Y
 hok:HOk P w H s.heap
 bare:Jx s.gens
def CE(outer:List Env)(P:Eg)(w:Ez)(H:Hp)(s:q7)(Q:VK)(u:gV)(s':q7):Prop:=∃v H',s'.os=s.os/\Jx s'.gens/\Un (frs outer) [] H H' s.heap s'.heap/\HOk P w H' s'.heap/\RelV v u/\Q v H'
def CR(CX:CXT)(outer:List Env)(P:Eg)(w:Ez)(H:Hp)(s:q7)(Q:VK)(E:XK)(r:Kr)(s':q7):Prop:=
 match r with
 |.ok (.ret u)=>CE outer P w H s Q u s'
 |.ok _=>False
 |.error e=>CX outer H s E e s'
structure cq(P:Eg)(w:Ez)(K:Frag)(mg:Str->Option gV)(base:Heap)(CX:CXT)(k:Nat)(f:NS)(fd:Hi)(ps:List Str)(sp:Sp):Prop where
 len:∀vs H Q E,sp vs H Q E->vs.length=ps.length
 run:∀(A:ED) (outer:List Env) (s:q7) (H:Hp) (args:Args) (us:List gV) (vs:List V) (Q:VK) (E:XK),Room k A->i3 P w K mg base A outer s H->KP s fd args (ps.zip us)->Vals vs us->sp vs H Q E->
  Gj (model P w) A (.call (.ref f) args) (CR CX outer P w H s Q E) s
section
variable{X:Cx}{pins:List (NS×Obj)}{σ:St}{H:Hp}{s s':q7}
theorem Inv.env0(I:Inv X pins σ H s):i3 X.prog X.w X.K X.mg X.base X.A X.stack s H:=⟨I.ok.frames,I.ok.mod,I.bs,Fu I.ok.bsz I.sz,I.stack,I.stkFree,I.hok,I.bare⟩
theorem Inv.after{Q:VK}(I:Inv X pins σ H s)(h:CE X.stack X.prog X.w H s Q u s'):EP X pins σ Q u s':=by obtain⟨v,H',os,bare,un,hok,r,q⟩:=h;obtain⟨j,g,d,t,os'⟩:=s';obtain rfl:os'=s.os:=os;exact⟨v,H',I.call (h':=j) (g':=g) (d':=d) (t':=t) (ch:=[]) un hok bare (λb z=>absurd z (by simp)),r,q⟩
end
noncomputable def u5(sp:Sp)(dvs:List V)(E:XK)(t:TA):TE:=λσ H Q=>t σ H λvs H1=>sp (vs++dvs) H1 Q E
def Binds(K:Frag)(fd:Hi)(ps:List Str)(ds:List gV):Prop:=∀(s:q7) (us:List gV),K.In s.heap->(us++ds).length=ps.length->KP s fd ⟨us,[]⟩ (ps.zip (us++ds))
theorem Binds.all{fd:Hi}(h:∀us:List gV,us.length=ps.length->bindArgs fd ⟨us,[]⟩=pure (ps.zip us)):Binds K fd ps []:=λs us _ j=>by rw[F5]at j⊢;exact .of_eq (h us j)
def gk(CX:CXT)(X:Cx)(E:XK):Prop:=∀(pins:List (NS×Obj)) (σ:St) (H:Hp) (s:q7) (e:gV) (s':q7),Inv X pins σ H s->CX X.stack H s E e s'->X.xe e s'
section
variable{X:Cx}{CX:CXT}{k:Nat}{f C:NS}{fd:Hi}{ps:List Str}{sp:Sp}{dvs:List V}{ds:List gV}{E:XK}{x m:Str}{p pos apos:Pos}{e o:Expr}{es:List Expr}{ta:TE}{t:TA}
theorem pc{Q:VK}{vs:List V}(F:cq X.prog X.w X.K X.mg X.base CX k f fd ps sp)(B:Room k X.A)(J:Binds X.K fd ps ds)(hd:Vals dvs ds)(hx:gk CX X E)(I:Inv X pins σ H s)(r:Vals vs us)(h:sp (vs++dvs) H Q E):DU (model X.prog X.w) X.A (call (.ref f) us) (EP X pins σ Q) X.xe s:=by
 have z:Vals (vs++dvs) (us++ds):=r.append hd;have L:(us++ds).length=ps.length:=by rw[<-z.length];exact F.len _ _ _ _ h
 refine Ld (FY (F.run X.A X.stack s H ⟨us,[]⟩ (us++ds) (vs++dvs) Q E B I.env0 (J s us I.kIn L) z h) λr s' j=>?_)
 cases r with
 |error e=>exact hx pins σ H s e s' I j
 |ok fl=>
  cases fl with
  |ret u=>exact I.after j
  |next=>exact False.elim j
  |brk=>exact False.elim j
  |cont=>exact False.elim j
theorem uJ(F:cq X.prog X.w X.K X.mg X.base CX k f fd ps sp)(J:Room k X.A)(L:Gl X x)(hm:X.mg x=Z (.ref f))(O:Gw X.K (.ref f)=NQ)(U:Binds X.K fd ps ds)(hd:Vals dvs ds)(hx:gk CX X E)(NP:PA X (e::es) t)(j:(x==("__debug__":Str))=NR:=by decide)(he:EA (e::es) X.env=(NR,eval e X.env)::EA es X.env:=by rfl)(z:(Ic pos (EA es X.env)).any (·.1)=NR:=by rfl):
 PE X (.Call (.Name x p) (e::es) [] pos) (u5 sp dvs E t):=by
 intro pins s σ H Q I h;refine Fe (lM I L hm ?_ j);refine PySem.W.callWith_K (h₀:=X.base) I.ok.mod.kin O (thn (NP pos pins s σ H _ I h) λus s1 ⟨vs,H1,B,r,q⟩=>⟨B.kIn,?_⟩) he z;exact pc F J U hd hx B r q
theorem rl(F:cq X.prog X.w X.K X.mg X.base CX k f fd ps sp)(z:Room k X.A)(B:Gl X x)(hm:X.mg x=Z (.ref f))(J:Gw X.K (.ref f)=NQ)(L:Binds X.K fd ps ds)(hd:Vals dvs ds)(hx:gk CX X E)(j:(x==("__debug__":Str))=NR:=by decide):PE X (.Call (.Name x p) [] [] pos) (u5 sp dvs E wR):=by intro pins s σ H Q I h;refine Fe (lM I B hm ?_ j);exact PySem.W.callWith_K0 I.kIn J (pc (us:=[]) F z L hd hx I .nil h)
end
structure eK(N P:List Str)(sc:Scope):Prop where
 kind:sc.kind=.function
 co:sc.isCoroutine=NR
 gen:sc.isGenerator=NR
 nd:N.Nodup
 pre:N.take P.length=P
 par:∀x∈P,sc.names.lookup x=Z .local∨sc.names.lookup x=Z .cell
 nofree:∀y∈sc.names,y.2≠.free
theorem iC{Fj:Str->Option GR}{x:Str}:∀{binds:List (Str×gV)} {m:Str->Option gV},(∀v,(x,v)∉binds)->MY Fj binds m x=m x
 |[],_,_=>rfl
 |(n,v)::r,m,h=>by
  unfold MY;rw[iC λw hw=>h w (Ee _ hw)]
  split
  ·have:x≠n:=by rintro rfl;exact h v Ey
   simp[this]
  ·rfl
theorem iD{Fj:Str->Option GR}{x:Str}:∀{binds:List (Str×gV)} {m:Str->Option gV},(∀v,(x,v)∉binds)->MZ Fj binds m x=m x
 |[],_,_=>rfl
 |(n,v)::r,m,h=>by
  unfold MZ;rw[iD λw hw=>h w (Ee _ hw)]
  split
  ·rfl
  ·have:x≠n:=by rintro rfl;exact h v Ey
   simp[this]
theorem iE{Fj:Str->Option GR}{x:Str}{v:gV}:∀{P:List Str} {vs:List gV} {i:Nat} {m:Str->Option gV},P.Nodup->P[i]?=Z x->vs[i]?=Z v->Fj x=Z .local->
 MY Fj (P.zip vs) m x=Z v
 |[],_,_,_,_,h,_,_=>by simp at h
 |_::_,[],_,_,_,_,h,_=>by simp at h
 |p::P,w::vs,0,m,nd,h1,h2,j=>by simp at h1 h2;subst h1;subst h2;show MY Fj ((p,w)::P.zip vs) m p=_;unfold MY;rw[iC λv z=>(FN.mp nd).1 (Kg z).1,if_pos j];simp
 |p::P,w::vs,i+1,m,nd,h1,h2,j=>by show MY Fj ((p,w)::P.zip vs) m x=_;unfold MY;exact iE (i:=i) (FN.mp nd).2 (by simpa using h1) (by simpa using h2) j
theorem iF{Fj:Str->Option GR}{x:Str}{v:gV}:∀{P:List Str} {vs:List gV} {i:Nat} {m:Str->Option gV},P.Nodup->P[i]?=Z x->vs[i]?=Z v->Fj x≠Z .local->
 MZ Fj (P.zip vs) m x=Z v
 |[],_,_,_,_,h,_,_=>by simp at h
 |_::_,[],_,_,_,_,h,_=>by simp at h
 |p::P,w::vs,0,m,nd,h1,h2,j=>by simp at h1 h2;subst h1;subst h2;show MZ Fj ((p,w)::P.zip vs) m p=_;unfold MZ;rw[iD λv z=>(FN.mp nd).1 (Kg z).1,if_neg j];simp
 |p::P,w::vs,i+1,m,nd,h1,h2,j=>by show MZ Fj ((p,w)::P.zip vs) m x=_;unfold MZ;exact iF (i:=i) (FN.mp nd).2 (by simpa using h1) (by simpa using h2) j
noncomputable def ce(N:List Str)(vs:List V):St:=vs.map Z++El (N.length-vs.length) Y
noncomputable def fI(CX:CXT)(P:Eg)(w:Ez)(K:Frag)(mg:Str->Option gV)(base:Heap)(N:List Str)(qual:Str)(scope:Scope)(f:NS)(cd:gV)(A:ED)(outer:List Env)(s:q7)(H:Hp)(E:XK):Cx where
 prog:=P
 w:=w
 K:=K
 mg:=mg
 base:=base
 A:=A.deeper (Ks qual scope s.heap.objs.size f cd)
 N:=N
 s₀:=s
 H₀:=H
 env:=Ks qual scope s.heap.objs.size f cd
 outer:=outer
 stack:=Ks qual scope s.heap.objs.size f cd::outer
 ex:=[]
 calm:=NQ
 fn:=λ_=>NQ
 pn:=[]
 xe:=λe s'=>DU (model P w) (A.deeper (Ks qual scope s.heap.objs.size f cd)) (leaving (Ks qual scope s.heap.objs.size f cd) e) (λ_ s''=>CX outer H s E e s'') (λe' s''=>CX outer H s E e' s'') s'
theorem jM{sc:Scope}{n:Nat}(h:sc.names.lookup x=Z .cell):∃c,(G5 n sc.names []).lookup x=Z c:=by have q:=Ij sc.names n [] (.inl h);exact GI.mp q
theorem pe{CX:CXT}{mg:Str->Option gV}{base:Heap}{qual:Str}{scope:Scope}{f:NS}{cd:gV}{outer:List Env}{s1:q7}{E:XK}{vs:List V}(S:eK N ps scope)(hd:A.handled=Y)(j:i3 P w K mg base A outer s H)(U:vs.length=ps.length)(r:Vals vs us)(x:InCallC s s.heap.objs.size (MY (Ks qual scope s.heap.objs.size f cd).kindOf (ps.zip us) λ_=>Y) (G5 (s.heap.objs.size+1) scope.names []) (MZ (Ks qual scope s.heap.objs.size f cd).kindOf (ps.zip us) λ_=>Y) s1):
 Inv (fI CX P w K mg base N qual scope f cd A outer s H E) [] (ce N vs) H s1:=by
 have L:ps.length<=N.length:=by have:=congrArg Gr S.pre;rw[Et]at this;lia
 obtain⟨h1,tk,rfl,J⟩:=x.done;have noA:∀b:NS,b∉(fI CX P w K mg base N qual scope f cd A outer s H E).ex:=λb z=>absurd (show b∈([]:List NS)from z) (by simp)
 refine⟨⟨j.mod,S.kind,rfl,rfl,E2 _,λy z c h1 h2=>?_,λy B=>?_,λy c _ h=>?_,λ_=>hd,Around.frames_deeper j.frames,.inr ⟨rfl,rfl⟩,λb z=>absurd z (noA b),j.bs,j.bsz,λb _ _=>noA b,λb z=>absurd z (noA b),j.funs,j.frf⟩,
  rfl,j.bare,Un.kept J,⟨_,x.toInCall.ns,λi y v h1 h2 NP=>?_⟩,λy c h=>⟨_,x.cell y c h⟩,j.hok.fresh (E2 _),λy c h=>?_,λp F=>absurd (show p∈([]:List (NS×Obj))from F) (by simp),j.hok.kept J,?_⟩
 ·exact name_of_addr x.apart (Fk h1) (Fk h2)
 ·have B:scope.names.lookup y=Z .cell∨scope.names.lookup y=Z .free:=B
  rcases B with B|B
  ·exact jM B
  ·exact absurd rfl (S.nofree _ (Fk B))
 ·exact H4 (x.above y c (Fk h))
 ·have hi:i<vs.length:=by
   unfold ce at h2
   by_cases hi:i<vs.length
   ·exact hi
   ·rw[y1 (by simpa using hi)]at h2
    rw[JH]at h2
    split at h2<;>cases h2
  have O:vs[i]?=Z v:=by
   unfold ce at h2;rw[E7 (by simpa using hi),Em]at h2
   cases e:vs[i]? with
   |none=>rw[e]at h2;cases h2
   |some a=>rw[e]at h2;cases h2;rfl
  obtain⟨u,hu,rv⟩:=r.get O;have F:ps[i]?=Z y:=by rw[<-S.pre,GJ ∅];exact h1
  have ndP:ps.Nodup:=by rw[<-S.pre];exact S.nd.sublist (Lu _ _)
  refine⟨u,rv,?_⟩
  rcases S.par y (Eh F)with k|k
  ·exact .inl ⟨k,iE ndP F hu k⟩
  ·obtain⟨c,e⟩:=jM (n:=s.heap.objs.size+1) k;refine .inr ⟨.inl k,c,e,?_⟩;have q:=x.cell y c e;rw[iF ndP F hu (by show scope.names.lookup y≠_;rw[k];decide)]at q
   exact q
 ·exact j.hok.fresh (H4 (x.above y c (Fk h)))
 ·unfold ce;show _=N.length;rw[DZ,DY,List.length_replicate];lia
theorem yE {CX:CXT}{mg:Str->Option gV}{base:Heap}{k:Nat}{f:NS}{name qual:Str}{params:Arguments}{scope:Scope}{dV kV doc pm cdv ct oc:gV}{an od:Option NS}{osl:Array (Option gV)}{sp:Sp}(lk:K.lookup f=Z ⟨oc,od,.func (H9 name qual params body scope dV kV doc pm an cdv ct),osl⟩)(L:Jg K cdv qual=NQ)(S:eK N ps scope)(len:∀vs H Q E,sp vs H Q E->vs.length=ps.length)(j:∀(A:ED) (outer:List Env) (s:q7) (H:Hp) (vs:List V) (Q:VK) (E:XK),Room k (A.deeper (Ks qual scope s.heap.objs.size f cdv))->sp vs H Q E->
   ∃t,PSs (fI CX P w K mg base N qual scope f cdv A outer s H E) body t/\t {nx:=λ_ H'=>Q .non H',rt:=Q} (ce N vs) H):
 cq P w K mg base CX (k+1) f (H9 name qual params body scope dV kV doc pm an cdv ct) ps sp:=by
 refine⟨len,λA outer s H args us vs Q E O B U r F=>?_⟩;have NP:=len _ _ _ _ F;have KX:K.In s.heap:=B.mod.kin.keeps λb o e=>(B.bs b o e).1;have lim:s.heap.NoLimit:=B.mod.nolimit.keeps λb o e=>(B.bs b o e).1;have z:∀y∈ps.zip us,scope.names.lookup y.1=Z .local∨(scope.names.lookup y.1=Z .cell/\((G5 (s.heap.objs.size+1) scope.names []).lookup y.1).isSome=NQ):=λ⟨n,v⟩ hy=>by
  rcases S.par n (Kg hy).1 with q|q
  ·exact .inl q
  ·exact .inr ⟨q,Ij _ _ _ (.inl q)⟩
 refine codeAny_call_function O.depth (KX _ _ lk) rfl S.co S.gen rfl (PySem.W.codeRec_of KX L) (U _ _ _ _ ?_);refine wpAny_newFunctionEnv_cells S.kind z λenv he s1 x=>?_;subst he;refine⟨lim.keeps x.toInCall.keep,codeAny_func ?_⟩;obtain⟨t,fv,hq⟩:=j A outer s H vs Q E (O.deeper _) F;have I:Inv (fI CX P w K mg base N qual scope f cdv A outer s H E) [] (ce N vs) H s1:=pe S O.hd B NP r x;refine F2 (fv [] s1 (ce N vs) H _ I hq) (λfl s' hs=>?_) λe s' hs=>hs;have fin:∀{σ':St} {H':Hp} {v:V} {u:gV},Inv (fI CX P w K mg base N qual scope f cdv A outer s H E) [] σ' H' s'->RelV v u->Q v H'->CE outer P w H s Q u s':=λ{σ' H' v u} J rv q=>⟨v,H',J.os,J.bare,J.base,J.hok,rv,q⟩
 cases fl with
 |ret u=>obtain⟨v,σ',H',J,rv,q⟩:=hs;exact fin J rv q
 |next=>obtain⟨σ',H',J,q⟩:=hs;exact fin (v:=V.non) (u:=FU) J rfl q
 |brk=>obtain⟨_,_,_,q⟩:=hs;exact False.elim q
 |cont=>obtain⟨_,_,_,q⟩:=hs;exact False.elim q
end
section
section
variable{X:Cx}{x:Str}{p pos:Pos}{e:Expr}{es:List Expr}{t:TA}{id T:String}{r:List V->Hp->VK->Prop}
noncomputable def tCB(r:List V->Hp->VK->Prop)(t:TA):TE:=λσ H Q=>t σ H λvs H1=>r vs H1 Q
theorem cK(B:CallR X (.builtin id) r)(F:Gl X x)(hm:X.mg x=Y)(J:H0 x=Z (.builtin id))(L:PA X (e::es) t)(O:x≠"__name__":=by decide)(j:(x==("__debug__":Str))=NR:=by decide)(he:EA (e::es) X.env=(NR,eval e X.env)::EA es X.env:=by rfl)(z:(Ic pos (EA es X.env)).any (·.1)=NR:=by rfl):PE X (.Call (.Name x p) (e::es) [] pos) (tCB r t):=by intro pins s σ H Q I h;refine Fe (bR I F hm J ?_ O j);exact GS (thn (L pos pins s σ H _ I h) λus s1 U=>(by obtain⟨vs,H1,NP,fv,q1⟩:=U;exact B pins s1 σ H1 vs us Q NP fv q1)) he z
theorem iG(B:CallR X (.type T) r)(F:Gl X x)(hm:X.mg x=Y)(J:H0 x=Z (.type T))(L:PA X (e::es) t)(O:x≠"__name__":=by decide)(j:(x==("__debug__":Str))=NR:=by decide)(he:EA (e::es) X.env=(NR,eval e X.env)::EA es X.env:=by rfl)(z:(Ic pos (EA es X.env)).any (·.1)=NR:=by rfl):PE X (.Call (.Name x p) (e::es) [] pos) (tCB r t):=by intro pins s σ H Q I h;refine Fe (bR I F hm J ?_ O j);exact FF (thn (L pos pins s σ H _ I h) λus s1 U=>(by obtain⟨vs,H1,NP,fv,q1⟩:=U;exact B pins s1 σ H1 vs us Q NP fv q1)) he z
end
end
end L2
namespace HT
open PySem PyProof.Rows
section
variable{prog:Eg}{w:Ez}{A:ED}{E:gV->q7->Prop}{s:q7}
theorem cat_tup{t b:NS}{vs ws:List gV}{Q:gV->q7->Prop}(fv:IsTup s.heap t vs.toArray)(hb:IsTup s.heap b ws.toArray)(L:vs≠[])(h1:ws=[]->Q (.ref t) s)(h2:ws≠[]->Q (.ref s.heap.objs.size) {s with heap:=s.heap.push {cls:=.type "tuple",data:=.seq (vs++ws).toArray}})(hsz:vs.length+ws.length<=D2):DU (model prog w) A (Fo .Add (.ref t) (.ref b)) Q E s:=by
 obtain⟨⟨cls,dd,data,sl⟩,ho,O,n,hd⟩:=id fv;obtain⟨⟨U,z,data2,B⟩,j,J,NP,hd2⟩:=id hb;simp only at O hd J hd2;subst O hd J hd2;have e:vs.toArray++ws.toArray=(vs++ws).toArray:=by simp
 by_cases hw:ws=[]
 ·exact Lv ⟨_,ho,rfl⟩ ⟨_,j,rfl⟩ JI L3 Ik Ih (HU _ _)
   (tuple_addW1 t b vs.toArray ws.toArray n NP dd z sl B (by simpa using L) (by simp[hw])) ⟨ho,j,h1 hw⟩
 ·refine Lv ⟨_,ho,rfl⟩ ⟨_,j,rfl⟩ JI L3 Ik Ih (HU _ _)
   (tuple_addW2 t b vs.toArray ws.toArray n NP dd z sl B (by simpa using L) (by simpa using hw) (by rw[E8,E8];exact hsz)) ⟨ho,j,?_⟩
  rw[e];exact h2 hw
noncomputable def sIx(n d:Nat):Option Int->Nat
 |none=>d
 |some v=>if v<0 then(v+(n:Int)).toNat else min v.toNat n
theorem wW(n d:Nat)(hd:d<=n)(o:Option Int):sIx n d o<=n:=by
 cases o with
 |none=>exact hd
 |some v=>
  show(if v<0 then(v+(n:Int)).toNat else min v.toNat n)<=n
  by_cases hv:v<0
  ·rw[if_pos hv];lia
  ·rw[if_neg hv];exact Nat.min_le_right _ _
theorem lP(v:Int)(n d:Nat):(if v<0 then max (v+(n:Int)) 0 else min v (n:Int))=((sIx n d (Z v):Nat):Int):=by
 show(if v<0 then max (v+(n:Int)) 0 else min v (n:Int))=(((if v<0 then(v+(n:Int)).toNat else min v.toNat n):Nat):Int)
 by_cases hv:v<0
 ·simp only[if_pos hv];lia
 ·simp only[if_neg hv];lia
theorem ny(lo hi:Option Int)(n:Nat):HI lo hi 1 (n:Int)=(((sIx n 0 lo:Nat):Int),((sIx n n hi:Nat):Int)):=by
 have h1:¬((1:Int)<0):=∅
 unfold HI;simp only[h1,if_false];refine Prod.ext ?_ ?_
 ·cases lo with
  |none=>rfl
  |some v=>exact lP v n 0
 ·cases hi with
  |none=>rfl
  |some v=>exact lP v n n
theorem nA(i j:Nat):Gy (i:Int) (j:Int) 1=j-i:=by
 unfold Gy;have h1:(1:Int) > 0:=∅
 simp only[h1,if_true,Int.ediv_one]
 split<;>lia
theorem gm{v:gV}{o:Option Int}{Q:Option Int->q7->Prop}(p:K1 v o)(h:Q o s):DU (model prog w) A (Builtin.Slice.slicePartIndex v) Q E s:=by
 cases p with
 |none=>exact slicePart_none h
 |int i t=>exact slicePart_int h
theorem cL{sl:NS}{vl vu:gV}{lo hi:Option Int}{n:Nat}{Q:Int×Int×Nat->q7->Prop}(hs:s.heap.IsSliceOf sl vl vu .none)(pl:K1 vl lo)(pu:K1 vu hi)(h:Q (((sIx n 0 lo:Nat):Int),1,sIx n n hi-sIx n 0 lo) s):DU (model prog w) A (Jh (.ref sl) (pure (n:Int))) Q E s:=by
 obtain⟨os,j,B,z⟩:=id hs;unfold Jh Builtin.Slice.sliceFields;refine b3 (b3 (Gs j z (x:=vl) rfl (b3 (Gs j z (x:=vu) rfl (b3 (Gs j z (x:=.none) rfl (r4 ?_)))))));refine b3 (slicePart_none ?_);show DU _ _ (if((1:Int)==0)=NQ then _ else _) _ _ s
 rw[if_neg (by decide)]
 refine b3 (gm pl (b3 (gm pu (b3 (r4 ?_)))));show DU _ _ (match HI lo hi 1 (n:Int)with|(lo,hi)=>pure (lo,(1:Int),Gy lo hi 1)) _ _ s
 rw[ny lo hi n];show DU _ _ (pure (((sIx n 0 lo:Nat):Int),(1:Int),Gy ((sIx n 0 lo:Nat):Int) ((sIx n n hi:Nat):Int) 1)) _ _ s;rw[nA];exact r4 h
theorem rn(xs:Array gV)(i k:Nat):((FW k).filterMap λ(m:Nat)=>xs[((i:Int)+(m:Int)*1).toNat]?).toArray=((xs.toList.drop i).take k).toArray:=by
 have e:(λ(m:Nat)=>xs[((i:Int)+(m:Int)*1).toNat]?)=λm=>xs[i+m]?:=by
  funext m
  have:((i:Int)+(m:Int)*1).toNat=i+m:=∅
  rw[this]
 rw[e];have:=pick_run xs i k;rw[List.filterMap_map]at this;have j:((λx=>xs[x]?)∘λx=>i+x)=λm=>xs[i+m]?:=rfl;rw[j]at this;rw[this]
theorem getItem_tuple_cut{t sl:NS}{items:Array gV}{vl vu:gV}{lo hi:Option Int}{Q:gV->q7->Prop}(z:IsTup s.heap t items)(hs:s.heap.IsSliceOf sl vl vu .none)(pl:K1 vl lo)(pu:K1 vu hi)(hw:¬(sIx items.size 0 lo=0/\sIx items.size items.size hi=items.size))(h:Q (.ref s.heap.objs.size) {s with heap:=s.heap.push {cls:=.type "tuple",data:=.seq ((items.toList.drop (sIx items.size 0 lo)).take (sIx items.size items.size hi-sIx items.size 0 lo)).toArray}})(hsz:items.size<=D2):DU (model prog w) A (K2 (.ref t) (.ref sl)) Q E s:=by
 have j:sizeOk (.seq ((items.toList.drop (sIx items.size 0 lo)).take (sIx items.size items.size hi-sIx items.size 0 lo)).toArray):=by show((items.toList.drop (sIx items.size 0 lo)).take (sIx items.size items.size hi-sIx items.size 0 lo)).toArray.size<=D2;rw[E8,Et,IG,Ei];lia
 have U:sIx items.size items.size hi<=items.size:=wW _ _ (E2 _) hi;obtain⟨os,B,F,O⟩:=id hs;have J:s.TypeIs (.ref sl) "slice":=⟨os,B,F⟩;unfold K2
 try with_reducible refine ES ?_
 first|refine b3 (r4 ?_)|skip
 refine b3 (Lw z.typeIs (by decide) ?_)
 refine b3 (EO (name:=F9 "__getitem__") z.typeIs FP
  (EH FP z.typeIs KS ?_ (Le _ _)))
 show DU _ _ (Ji (.ref t)>>=_) _ _ s;refine b3 (tupleItemsOf_ z ?_);refine b3 (GF J ?_);rw[if_pos (by decide)]
 refine b3 (cL hs pl pu ?_);have L:¬((((sIx items.size 0 lo:Nat):Int)==0&&(1:Int)==1&&(sIx items.size items.size hi-sIx items.size 0 lo)==items.size)=NQ):=by intro q;rw[tv,tv]at q;have NP:((sIx items.size 0 lo:Nat):Int)=0:=GB q.1.1;have fv:sIx items.size items.size hi-sIx items.size 0 lo=items.size:=GB q.2;exact hw ⟨∅,∅⟩
 show DU _ _ (if(((sIx items.size 0 lo:Nat):Int)==0&&(1:Int)==1&&(sIx items.size items.size hi-sIx items.size 0 lo)==items.size)=NQ then _ else _) _ _ s
 rw[if_neg L,rn]
 first
  |exact b3 (m:=GK _) (EX (r4 ⟨_,rfl,r4 h⟩) j)
  |exact b3 (m:=GK _) (EX (b3 (r4 (r4 ⟨_,rfl,r4 h⟩))) j)
  |exact b3 (b3 (m:=GK _) (EX (r4 (r4 ⟨_,rfl,r4 h⟩)) j))
  |exact b3 (b3 (m:=GK _) (EX (r4 ⟨_,rfl,r4 h⟩) j))
end
end HT
namespace L2
open PySem PySem.Spec PyProof.Rows
variable{xs:List V}
section
noncomputable abbrev TO:=St->Hp->(Option Int->Hp->Prop)->Prop
def PO(X:Cx)(e:Option Expr)(t:TO):Prop:=
 ∀(pins:List (NS×Obj)) (s:q7) (σ:St) (H:Hp) (Q:Option Int->Hp->Prop),Inv X pins σ H s->t σ H Q->
  DU (model X.prog X.w) X.A (evalPart e X.env) (λu s'=>∃o H',Inv X pins σ H' s'/\K1 u o/\Q o H') X.xe s
noncomputable def uK:TO:=λ_ H Q=>Q Y H
noncomputable def yF(t:TE):TO:=λσ H Q=>t σ H λx H1=>∃i,x=.int i/\Q (Z i) H1
section
variable{X:Cx}{e:Expr}{te:TE}{lo hi:Option Expr}{tl th:TO}{pos p2:Pos}
theorem uL:PO X Y uK:=by intro pins s σ H Q I h;rw[evalPart_none];exact r4 ⟨Y,H,I,.none,h⟩
theorem uM(h:PE X e te):PO X (Z e) (yF te):=by intro pins s σ H Q I hw;rw[evalPart_some];refine thn (h pins s σ H _ I hw) λu s1 j=>?_;obtain⟨x,H1,z,B,F⟩:=j;obtain⟨i,rfl,q⟩:=F;obtain⟨t,rfl⟩:=B;exact⟨Z i,H1,z,.int i t,q⟩
def SlR(X:Cx)(r:V->Option Int->Option Int->Hp->VK->Prop):Prop:=
 ∀(pins:List (NS×Obj)) (s:q7) (σ:St) (H:Hp) (x:V) (v vl vu:gV) (lo hi:Option Int) (sl:NS) (Q:VK),Inv X pins σ H s->RelV x v->s.heap.IsSliceOf sl vl vu .none->K1 vl lo->K1 vu hi->r x lo hi H Q->
  ∃T id,Lf (.type T) "__getitem__"=pure (Z (.builtin id))/\s.TypeIs v T/\DU (model X.prog X.w) X.A (K2 v (.ref sl)) (EP X pins σ Q) X.xe s
theorem SlR.or{r r':V->Option Int->Option Int->Hp->VK->Prop}(h:SlR X r)(h':SlR X r'):SlR X (λx lo hi H Q=>r x lo hi H Q∨r' x lo hi H Q):=by
 intro pins s σ H x v vl vu lo hi sl Q I rx hs pl pu q
 rcases q with q|q
 ·exact h pins s σ H x v vl vu lo hi sl Q I rx hs pl pu q
 ·exact h' pins s σ H x v vl vu lo hi sl Q I rx hs pl pu q
noncomputable def tSl(r:V->Option Int->Option Int->Hp->VK->Prop)(te:TE)(tl th:TO):TE:=λσ H Q=>te σ H λx H1=>tl σ H1 λl H2=>th σ H2 λu H3=>r x l u H3 Q
theorem rp{r:V->Option Int->Option Int->Hp->VK->Prop}(B:SlR X r)(he:PE X e te)(F:PO X lo tl)(hu:PO X hi th):PE X (.Subscript e (.Slice lo hi Y p2) pos) (tSl r te tl th):=by
 intro pins s σ H Q I h;refine Subscript_ (thn (he pins s σ H _ I h) λv s1 j=>?_);obtain⟨x,H1,J,L,O⟩:=j;refine wpAny_Slice (thn (F pins s1 σ H1 _ J O) λvl s2 ⟨l,H2,U,pl,NP⟩=>thn (hu pins s2 σ H2 _ U NP) λvu s3 j=>?_);obtain⟨u,z,fv,pu,q3⟩:=j;rw[evalPart_none];refine r4 ?_;have I4:Inv X pins σ z {s3 with heap:=s3.heap.push {cls:=.type "slice",data:=.fields #[vl,vu,.none]}}:=fv.kept (t':=s3.toks) λb ob q=>i2 _ q
 obtain⟨T,id,hT,ht,hg⟩:=B pins {s3 with heap:=s3.heap.push {cls:=.type "slice",data:=.fields #[vl,vu,.none]}} σ z x v vl vu l u s3.heap.objs.size Q I4 L (Heap.IsSliceOf.new ..) pl pu q3
 show DU (model X.prog X.w) X.A (subscriptTail e (.Slice lo hi Y p2) v (.ref s3.heap.objs.size)) (EP X pins σ Q) X.xe {s3 with heap:=s3.heap.push {cls:=.type "slice",data:=.fields #[vl,vu,.none]}}
 exact tail_any (ops:=[.ref s3.heap.objs.size,v]) ht hT hg (by with_unfolding_all rfl)
noncomputable def dP(xs:List V)(lo hi:Option Int):List V:=(xs.drop (HT.sIx xs.length 0 lo)).take (HT.sIx xs.length xs.length hi-HT.sIx xs.length 0 lo)
theorem fy(xs:List V)(lo hi:Option Int):(dP xs lo hi).length<=xs.length:=by unfold dP;rw[Et,IG];lia
noncomputable def zO(K:Frag):V->Option Int->Option Int->Hp->VK->Prop:=λx lo hi H Q=>∃a xs,x=.ref a/\SqT K H a xs /\
 ¬(HT.sIx xs.length 0 lo=0/\HT.sIx xs.length xs.length hi=xs.length)/\∀p,H p=Y->Q (.ref p) (upd H p (.tup (dP xs lo hi)))
theorem sl_tup:SlR X (zO X.K):=by
 intro pins s σ H x v vl vu lo hi sl Q I rx hs pl pu h;obtain⟨a,xs,rfl,hx,hw,q⟩:=h
 cases rx
 obtain⟨its,r,j,z⟩:=I.tuple hx;have hlen:its.toArray.size=xs.length:=by rw[E8];exact r.length.symm
 refine⟨"tuple",_,PyProof.Rows.slot_tuple_getitem.lookup,j.typeIs,?_⟩;refine HT.getItem_tuple_cut j hs pl pu (by rw[hlen];exact hw) ?_ (by rw[hlen];exact z)
 rw[hlen];refine⟨.ref s.heap.objs.size,_,I.laid (t':=s.toks) (o:=.tup (dP xs lo hi)) (λb ob q=>i2 _ q) (E2 _) ?_,rfl,q _ (I.hok.fresh (E2 _))⟩;exact⟨Fu (fy xs lo hi) z,_,(r.drop (HT.sIx xs.length 0 lo)).take (HT.sIx xs.length xs.length hi-HT.sIx xs.length 0 lo),Nh _ _⟩
noncomputable def u6(K:Frag):R2:=λx y H Q=>∃a b xs ys,x=.ref a/\y=.ref b/\SqT K H a xs/\SqT K H b ys/\xs≠[]/\xs.length+ys.length<=D2 /\
 (ys=[]->Q (.ref a) H)/\(ys≠[]->∀p,H p=Y->Q (.ref p) (upd H p (.tup (xs++ys))))
theorem Vals.nil_iff{us:List gV}(r:Vals xs us):us=[]↔xs=[]:=by
 cases r with
 |nil=>simp
 |cons _ _=>simp
theorem op_catT:OpR X (Fo .Add) (u6 X.K):=by
 intro pins s σ H x y v u Q I rx ry h;obtain⟨a,b,xs,ys,rfl,rfl,L,O,hx,F,U,NP⟩:=h
 cases rx
 cases ry
 obtain⟨its,B,fv,_⟩:=I.tuple L;obtain⟨J,j,p2,_⟩:=I.tuple O;refine HT.cat_tup fv p2 (λz=>hx (B.nil_iff.mp z)) (λz=>⟨.ref a,H,I,rfl,U (j.nil_iff.mp z)⟩) (λz=>?_) (by rw[<-B.length,<-j.length];exact F)
 refine⟨.ref s.heap.objs.size,_,I.laid (t':=s.toks) (o:=.tup (xs++ys)) (λb ob q=>i2 _ q) (E2 _) ?_,rfl,NP (λw=>z (j.nil_iff.mpr w)) _ (I.hok.fresh (E2 _))⟩;exact⟨by rw[DZ];exact F,_,B.append j,Nh _ _⟩
end
end
variable{n:Nat}{its:List gV}
section
noncomputable def ixN(n:Nat)(i:Int):Option Nat:=if 0<=i then(if i<n then Z i.toNat else Y)else if -(n:Int)<=i then Z (i+n).toNat else Y
noncomputable def atI{α:Type}(xs:List α)(i:Int):Option α:=(ixN xs.length i).bind λj=>xs[j]?
theorem lQ{i:Int}{j:Nat}(h:ixN n i=Z j):seqIndex? i n=Z j/\j<n /\ -(n:Int)<=i/\i<n:=by
 unfold ixN at h
 by_cases h0:0<=i
 ·rw[if_pos h0]at h
  by_cases h1:i<n
  ·rw[if_pos h1]at h;have e:i.toNat=j:=Fn.inj h;exact⟨by rw[Ms h0 h1,e],∅,∅,h1⟩
  ·rw[if_neg h1]at h;cases h
 ·rw[if_neg h0]at h
  by_cases h1:-(n:Int)<=i
  ·rw[if_pos h1]at h;have e:(i+n).toNat=j:=Fn.inj h;exact⟨by rw[Lx ∅ h1,e],∅,h1,∅⟩
  ·rw[if_neg h1]at h;cases h
theorem lU{α:Type}{xs:List α}{i:Int}{v:α}(h:atI xs i=Z v):∃j,seqIndex? i xs.length=Z j/\xs[j]?=Z v/\j<xs.length /\ -(xs.length:Int)<=i/\i<xs.length:=by
 unfold atI at h
 cases e:ixN xs.length i with
 |none=>rw[e]at h;cases h
 |some j=>rw[e]at h;obtain⟨h1,h2,z,B⟩:=lQ e;exact⟨j,h1,h,h2,z,B⟩
def i4(b:Expr):Prop:=∀o i,subscripted b NR o i=operate [o,i] (K2 o i)
def IxR(X:Cx)(r:R2):Prop:=
 ∀(value slice:Expr) (pins:List (NS×Obj)) (s:q7) (σ:St) (H:Hp) (x y:V) (v u:gV) (Q:VK),Inv X pins σ H s->RelV x v->RelV y u->r x y H Q->
  subscripted slice NR v u=operate [v,u] (K2 v u)->DU (model X.prog X.w) X.A (subscriptTail value slice v u) (EP X pins σ Q) X.xe s
def MtR(X:Cx)(id:String)(r:V->List V->Hp->VK->Prop):Prop:=
 ∀(pins:List (NS×Obj)) (s:q7) (σ:St) (H:Hp) (x:V) (xs:List V) (v:gV) (us:List gV) (Q:VK),Inv X pins σ H s->RelV x v->Vals xs us->r x xs H Q->
  DU (model X.prog X.w) X.A (call (.builtin id) (v::us)) (EP X pins σ Q) X.xe s
section
variable{X:Cx}{a b:Expr}{ta tb:TE}{pos:Pos}
theorem IxR.or{r r':R2}(h:IxR X r)(h':IxR X r'):IxR X (λx y H Q=>r x y H Q∨r' x y H Q):=by
 intro value slice pins s σ H x y v u Q I rx ry q hs
 rcases q with q|q
 ·exact h value slice pins s σ H x y v u Q I rx ry q hs
 ·exact h' value slice pins s σ H x y v u Q I rx ry q hs
theorem yG{r:R2}(j:IxR X r)(z:PE X a ta)(B:PE X b tb)(hs:i4 b):PE X (.Subscript a b pos) (tOp r ta tb):=by intro pins s σ H Q I h;exact Subscript_ (r8 z B I h λv u s2 x y H2 F rx ry q=>j a b pins s2 σ H2 x y v u Q F rx ry q (hs _ _))
noncomputable def zP(K:Frag):R2:=λx y H Q=>∃p xs i v,x=.ref p/\y=.int i/\SqL K H p xs/\atI xs i=Z v/\Q v H
noncomputable def zQ(K:Frag):R2:=λx y H Q=>∃p xs i v,x=.ref p/\y=.int i/\SqT K H p xs/\atI xs i=Z v/\Q v H
theorem ix_list:IxR X (zP X.K):=by
 intro value slice pins s σ H x y v u Q I rx ry h hs;obtain⟨p,xs,i,z,rfl,rfl,F,he,q⟩:=h
 cases rx
 obtain⟨t,rfl⟩:=ry;obtain⟨its,r,pl,U⟩:=I.list F;obtain⟨j,h1,h2,NP,J,L⟩:=lU he;obtain⟨w,ew,rw'⟩:=r.get h2;have O:=r.length;have fv:=dO;have fin:EP X pins σ Q w s:=⟨z,H,I,rw',q⟩
 by_cases h0:0<=i
 ·have B:i.toNat=j:=by
   rw[Ms h0 L]at h1;exact Fn.inj h1
  exact item_listR pl.isList h0 ∅ (by rw[B];simpa using ew) fin hs
 ·have B:(i+(its.toArray.size:Int)).toNat=j:=by
   rw[Lx ∅ J]at h1
   rw[E8,<-O];exact Fn.inj h1
  exact K4 (x:=w) pl.isList.typeIs slot_list_getitem.lookup
   (wpAny_getItem_list_neg (Q:=λr s'=>r=w/\EP X pins σ Q r s') pl.isList ∅ (by rw[E8]<;>lia) ∅ (by rw[B];simpa using ew) ⟨rfl,fin⟩) hs
theorem ix_tup:IxR X (zQ X.K):=by
 intro value slice pins s σ H x y v u Q I rx ry h hs;obtain⟨p,xs,i,z,rfl,rfl,B,he,q⟩:=h
 cases rx
 obtain⟨t,rfl⟩:=ry;obtain⟨its,r,pl,J⟩:=I.tuple B;obtain⟨j,h1,h2,L,O,U⟩:=lU he;obtain⟨w,ew,rw'⟩:=r.get h2;have F:=r.length;have NP:=dO;have fin:EP X pins σ Q w s:=⟨z,H,I,rw',q⟩;exact K4 (x:=w) pl.typeIs slot_tuple_getitem.lookup
  (getItem_tuple (j:=j) (Q:=λr s'=>r=w/\EP X pins σ Q r s') pl ∅ ∅ (by rw[E8,<-F];exact h1) (by simpa using ew) ⟨rfl,fin⟩) hs
theorem nB(its:List gV)(n j:Nat)(u:gV):Fl (·.setIfInBounds j u) {cls:=.type "list",data:=.seq its.toArray n}={cls:=.type "list",data:=.seq (its.set j u).toArray n}:=by simp[Fl]
theorem Inv.lst{pins:List (NS×Obj)}{σ:St}{H:Hp}{s:q7}{p:NS}{xs:List V}(I:Inv X pins σ H s)(h:H p=Z (.lst xs)):
 ∃(its:List gV) (n:Nat),Vals xs its/\s.heap.get? p=Z {cls:=.type "list",data:=.seq its.toArray n}/\xs.length<=D2:=by
 obtain⟨z,its,n,r,e⟩:=I.hok p _ h;exact⟨its,n,r,e,z⟩
theorem Inv.lstUpd{pins:List (NS×Obj)}{σ:St}{H:Hp}{s:q7}{p:NS}{ys:List V}{its':List gV}{n':Nat}{f:Obj->Obj}(I:Inv X pins σ H s)(h:H p=Z (.lst xs))(ho:s.heap.get? p=Z {cls:=.type "list",data:=.seq its.toArray n})(hf:f {cls:=.type "list",data:=.seq its.toArray n}={cls:=.type "list",data:=.seq its'.toArray n'})(r:Vals ys its')(j:ys.length<=D2)(t:Nat):
 Inv X pins σ (upd H p (.lst ys)) {s with heap:=s.heap.update p f,toks:=t}:=by
 have e:(s.heap.update p f).get? p=Z {cls:=.type "list",data:=.seq its'.toArray n'}:=by rw[Hq f ho (by rw[hf]<;>rfl),hf]
 refine I.write (x:=p) (e:=p) (by rw[h];trivial) (.inl rfl) (λb u z q=>(Il _ _ (Ne.symm z)).trans q) ⟨_,e⟩ ?_
 exact⟨j,its',n',r,e⟩
noncomputable def u7:V->V->V->Hp->(Hp->Prop)->Prop:=λo i v H Q=>∃p xs k j,o=.ref p/\i=.int k/\H p=Z (.lst xs)/\ixN xs.length k=Z j/\Q (upd H p (.lst (xs.set j v)))
theorem rq:PSet X u7:=by
 intro pins s σ H o i v ov iv u Q I ro ri rv h;obtain⟨p,xs,k,j,rfl,rfl,F,O,q⟩:=h
 cases ro
 obtain⟨t,rfl⟩:=ri;obtain⟨its,n,r,ho,U⟩:=I.lst F;obtain⟨h1,h2,J,L⟩:=lQ O;have z:=r.length;have NP:=dO;have I':Inv X pins σ (upd H p (.lst (xs.set j v))) {s with heap:=s.heap.update p (Fl (·.setIfInBounds j u))}:=I.lstUpd F ho (nB its n j u) (r.set rv j) (by rw[List.length_set];exact U) s.toks
 by_cases h0:0<=k
 ·have B:k.toNat=j:=by
   rw[Ms h0 L]at h1;exact Fn.inj h1
  exact PySem.W.ki_setAt ho h0 ∅ (by rw[E8,<-z];exact L) (by rw[B];exact⟨_,I',q⟩)
 ·have B:(k+(its.toArray.size:Int)).toNat=j:=by
   rw[Lx ∅ J]at h1
   rw[E8,<-z];exact Fn.inj h1
  exact PySem.W.ki_setBack ho ∅ (by rw[E8,<-z];exact J) ∅ (by rw[B];exact⟨_,I',q⟩)
theorem jN(lo hi:Option Int)(n:Nat):(Ii lo hi Y n).1=((HT.sIx n 0 lo:Nat):Int)/\(Ii lo hi Y n).2.1=((HT.sIx n n hi:Nat):Int)/\(Ii lo hi Y n).2.2=1:=by
 refine⟨?_,?_,rfl⟩
 ·cases lo with
  |none=>simp[Ii,HT.sIx]
  |some i=>
   simp only[Ii,HT.sIx,LY,show(1:Int) > 0 by decide,if_true]
   by_cases h:i<0
   ·simp only[h,if_true]<;>lia
   ·simp only[h,if_false]<;>lia
 ·cases hi with
  |none=>simp[Ii,HT.sIx]
  |some i=>
   simp only[Ii,HT.sIx,LY,show(1:Int) > 0 by decide,if_true]
   by_cases h:i<0
   ·simp only[h,if_true]<;>lia
   ·simp only[h,if_false]<;>lia
theorem jh(its:List gV)(lo hi:Option Int):slicePick its.toArray lo hi Y=((its.drop (HT.sIx its.length 0 lo)).take (HT.sIx its.length its.length hi-HT.sIx its.length 0 lo)).toArray:=by obtain⟨h1,h2,j⟩:=jN lo hi its.toArray.size;unfold slicePick;rw[h1,h2,j];simp only[sliceRange_one,pick_run,E8]<;>rfl
noncomputable def zR(K:Frag):V->Option Int->Option Int->Hp->VK->Prop:=λx lo hi H Q=>∃a xs,x=.ref a/\SqL K H a xs/\∀p,H p=Y->Q (.ref p) (upd H p (.lst (dP xs lo hi)))
theorem sl_list:SlR X (zR X.K):=by
 intro pins s σ H x v vl vu lo hi sl Q I rx hs pl pu h;obtain⟨a,xs,rfl,hx,q⟩:=h
 cases rx
 obtain⟨its,r,j,z⟩:=I.list hx;have hlen:=r.length;refine⟨"list",_,slot_list_getitem.lookup,j.isList.typeIs,?_⟩;refine wpAny_getItem_list_slice j.isList hs pl pu .none (by simp) ?_ (by rw[E8]<;>lia)
 rw[jh,<-hlen];refine⟨.ref s.heap.objs.size,_,I.laid (t':=s.toks) (o:=.lst (dP xs lo hi)) (λb ob q=>i2 _ q) (E2 _) ?_,rfl,q _ (I.hok.fresh (E2 _))⟩;exact⟨Fu (fy xs lo hi) z,_,0,(r.drop (HT.sIx xs.length 0 lo)).take (HT.sIx xs.length xs.length hi-HT.sIx xs.length 0 lo),DW _ rfl⟩
theorem jO:CallR X (.type "list") (λxs H Q=>∃p ys,xs=[.ref p]/\(SqL X.K H p ys∨SqT X.K H p ys)/\∀l,H l=Y->Q (.ref l) (upd H l (.lst ys))):=by
 intro pins s σ H xs us Q I r h;obtain⟨p,ys,rfl,j,q⟩:=h;obtain⟨u,rfl,rx⟩:=eJ r
 cases rx
 have fin:∀(its:List gV),Vals ys its->ys.length<=D2->∀(h':Heap) (c':Nat),(∀b o',s.heap.get? b=Z o'->h'.get? b=Z o')->
  h'.get? s.heap.objs.size=Z {cls:=.type "list",dict:=Y,data:=.seq its.toArray c',slots:=#[]}->EP X pins σ Q (.ref s.heap.objs.size) {s with heap:=h'}:=λits r' z h' c' kp e=>
  ⟨.ref s.heap.objs.size,_,I.laid (t':=s.toks) kp (E2 _) (show ObjOk X.prog X.w _ h' _ (.lst ys)from⟨z,its,c',r',e⟩),rfl,q _ (I.hok.fresh (E2 _))⟩
 rcases j with j|j
 ·obtain⟨its,r',pl,z⟩:=I.list j;have hlen:=r'.length;obtain⟨o,ho,B,n,hd⟩:=pl.isList;exact call_list_seq p (.inl rfl) ho B hd (λh' c' kp e=>fin its r' z h' c' kp e) (by simp only[E8]<;>lia)
 ·obtain⟨its,r',pl,z⟩:=I.tuple j;have hlen:=r'.length;obtain⟨o,ho,B,n,hd⟩:=pl;exact call_list_seq p (.inr rfl) ho B hd (λh' c' kp e=>fin its r' z h' c' kp e) (by simp only[E8]<;>lia)
def tyV(K:Frag)(T:String)(x:V)(H:Hp):Prop:=match x with
 |.str _=>T="str"
 |.int _=>T="int"
 |.ref p=>(T="list"/\∃xs,SqL K H p xs)∨(T="tuple"/\∃o,K.lookup p=Z o/\o.cls=.type "tuple"/\o.dict=Y) ∨
  (T="dict"/\((∃kvs,H p=Z (.dK kvs))∨∃kvs,H p=Z (.dT kvs)))∨(T="set"/\∃S n,H p=Z (.set S n))
 |_=>False
theorem wX{pins:List (NS×Obj)}{σ:St}{H:Hp}{s:q7}{T:String}{x:V}{v:gV}(I:Inv X pins σ H s)(r:RelV x v)(ty:tyV X.K T x H):
 s.TypeIs v T/\∀a,v=.ref a->∃ob,s.heap.get? a=Z ob/\ob.dict=Y:=by
 cases x with
 |str z=>
  obtain⟨t,rfl⟩:=r
  cases(show T="str" from ty)
  exact⟨typeIs_str s z t,λ_ e=>nomatch e⟩
 |int i=>
  obtain⟨t,rfl⟩:=r
  cases(show T="int" from ty)
  exact⟨K5 s i t,λ_ e=>nomatch e⟩
 |ref p=>
  cases r
  rcases ty with⟨rfl,xs,F⟩|⟨rfl,o,j,J,hd⟩|⟨rfl,j⟩|⟨rfl,S,n,j⟩
  ·obtain⟨its,_,pl,_⟩:=I.list F;refine⟨pl.isList.typeIs,λa e=>?_⟩
   cases e
   obtain⟨o,n,e,c,hd,_⟩:=pl;exact⟨o,e,hd⟩
  ·refine⟨⟨o,I.kIn p o j,J⟩,λa e=>?_⟩
   cases e
   exact⟨o,I.kIn _ o j,hd⟩
  ·have z:∃o,s.heap.get? p=Z o/\o.ExactDict:=by
    rcases j with⟨kvs,j⟩|⟨kvs,j⟩
    ·obtain⟨_,_,_,_,o,_,_,e,ex,_⟩:=I.hok p _ j;exact⟨o,e,ex⟩
    ·obtain⟨_,_,_,_,o,_,_,e,ex,_⟩:=I.hok p _ j;exact⟨o,e,ex⟩
   obtain⟨o,e,ex⟩:=z;refine⟨⟨o,e,ex.1⟩,λa B=>?_⟩
   cases B
   exact⟨o,e,ex.2.1⟩
  ·obtain⟨o,_,_,_,e,ex,_⟩:=I.hok p _ j;refine⟨⟨o,e,ex.1⟩,λa B=>?_⟩
   cases B
   exact⟨o,e,ex.2.1⟩
 |_=>exact False.elim ty
noncomputable def tBM(K:Frag)(T:String)(r:V->List V->Hp->VK->Prop)(to:TE)(t:TA):TE:=λσ H Q=>to σ H λx H1=>tyV K T x H1/\t σ H1 λxs H2=>r x xs H2 Q
variable{o e:Expr}{es:List Expr}{to:TE}{t:TA}{name:Str}{apos cpos:Pos}{T id:String}{r:V->List V->Hp->VK->Prop}
theorem yH (pa:PlainAttrs T)(slot:Slot T name id)(J:typeOf (.builtin id)=pure (.type "method_descriptor"))(hm:MtR X id r)(ho:PE X o to)(fv:PA X (e::es) t)(z:JD o name X.env (eval o X.env)=eval o X.env:=by rfl)(F:((Ic cpos (EA (e::es) X.env)).all (fun x=>!x.1)&&(backToKw cpos (Mt [] X.env)).all (fun x=>x.1.isSome)
   && decide ((e::es).length+([]:List K6).length+(if([]:List K6).isEmpty then 0 else 1)<30))=NQ:=by rfl)(B:(apos.endLine==cpos.line)=NQ:=by rfl)(hs:EA (e::es) X.env=(NR,eval e X.env)::EA es X.env:=by rfl)(j:(Ic cpos (EA es X.env)).any (·.1)=NR:=by rfl):
 PE X (.Call (.Attribute o name apos) (e::es) [] cpos) (tBM X.K T r to t):=by
 intro pins s σ H Q I h;refine wpAny_Call_method_late z F B rfl (thn (ho pins s σ H _ I h) λv s1 L=>?_);obtain⟨x,H1,O,U,ty,q1⟩:=L;obtain⟨h1,h2⟩:=wX O U ty;refine⟨T,id,pa,slot,J,h1,h2,?_⟩;have NP:=fv cpos pins s1 σ H1 _ O q1;rw[hs]at NP⊢;refine Im (by show(NR || (Ic cpos (EA es X.env)).any (·.1))=NR;rw[j]<;>rfl) (Ku ?_)
 exact thn NP λus s2 L=>(by obtain⟨vs,H2,I2,r2,q2⟩:=L;exact hm pins s2 σ H2 x vs v us Q I2 U r2 q2)
end
end
section
def MtM(X:Cx)(id:String)(r:V->List V->Hp->VK->Prop):Prop:=
 ∀(pins:List (NS×Obj)) (s:q7) (σ:St) (H:Hp) (x:V) (xs:List V) (v:gV) (us:List gV) (Q:VK),Inv X pins σ H s->RelV x v->Vals xs us->r x xs H Q->
  DU (model X.prog X.w) X.A (call (.builtin id) (v::us)) (EP X pins σ Q) X.xe s
theorem Vals.one:∀{x:V} {us:List gV},Vals [x] us->∃u,us=[u]/\RelV x u
 |_,_,.cons r .nil=>⟨_,rfl,r⟩
theorem Vals.reverse{us:List gV}(h:Vals xs us):Vals xs.reverse us.reverse:=by
 induction h with
 |nil=>exact .nil
 |cons r t ih=>rw[Ht,Ht];exact Vals.append ih (.cons r .nil)
theorem Vals.rep{xs:List V}{us:List gV}(h:Vals xs us):∀k:Nat,Vals (El k xs).flatten (El k us).flatten
 |0=>.nil
 |k+1=>by rw[Fm,Fm,EY,EY];exact Vals.append h (Vals.rep h k)
theorem dQ(its:List gV):∀(k:Nat) (acc:List gV),
 IH (λj z=>j++z) acc.toArray (El k its.toArray)=(acc++(El k its).flatten).toArray
 |0,acc=>by simp
 |k+1,acc=>by
  have e:acc.toArray++its.toArray=(acc++its).toArray:=by simp
  have B:(acc++its)++(El k its).flatten=acc++(El (k+1) its).flatten:=by rw[Fm,EY,Ea]
  rw[<-B,<-dQ its k (acc++its),<-e,Fm,J2]
section
variable{X:Cx}{pins:List (NS×Obj)}{σ:St}{H:Hp}{s:q7}{l b:NS}{xs ys zs:List V}
theorem Inv.lset{its':List gV}{f:Array gV->Array gV}{t':Nat}(I:Inv X pins σ H s)(j:H l=Z (.lst xs))(e:s.heap.get? l=Z {cls:=.type "list",data:=.seq its.toArray n})(hf:f its.toArray=its'.toArray)(z:Vals ys its')(B:ys.length<=D2):
 Inv X pins σ (upd H l (.lst ys)) {s with heap:=s.heap.update l (Fl f),toks:=t'}:=by
 have q:=PySem.IsL.update e f;rw[hf]at q;refine I.write (x:=l) (e:=l) (by rw[j];exact trivial) (.inl rfl) (λb' u F hu=>(Il s.heap (Fl f) (Ne.symm F)).trans hu) ⟨_,q⟩ ?_
 exact⟨B,its',_,z,q⟩
theorem Inv.lnew{t':Nat}(I:Inv X pins σ H s)(j:Vals ys its)(z:ys.length<=D2):
 Inv X pins σ (upd H s.heap.objs.size (.lst ys)) {s with heap:=s.heap.push {cls:=.type "list",data:=.seq its.toArray},toks:=t'}:=
 I.laid (λ_ _ q=>i2 _ q) (E2 _) ⟨z,its,0,j,DW _ rfl⟩
theorem Inv.fresh(I:Inv X pins σ H s):H s.heap.objs.size=Y:=I.hok.fresh (E2 _)
theorem Inv.lstM(I:Inv X pins σ H s)(j:H l=Z (.lst xs)):xs.length<=D2/\∃(its:List gV) (n:Nat),Vals xs its/\xs.length=its.length/\s.heap.get? l=Z {cls:=.type "list",data:=.seq its.toArray n}:=by obtain⟨z,its,n,r,e⟩:=I.hok l _ j;exact⟨z,its,n,r,r.length,e⟩
theorem rA(h:n<=D2):HV n=NR:=by unfold HV;exact decide_eq_false ∅
end
section
variable{X:Cx}
noncomputable def lV:V->List V->Hp->VK->Prop:=λx vs H Q=>∃l xs y,x=.ref l/\vs=[y]/\H l=Z (.lst xs)/\xs.length<D2/\Q .non (upd H l (.lst (xs++[y])))
theorem iH:MtM X "list.append" lV:=by
 intro pins s σ H x vs v us Q I rx rv h;obtain⟨l,xs,y,rfl,rfl,j,B,q⟩:=h
 cases rx
 obtain⟨u,rfl,ru⟩:=rv.one;obtain⟨z,its,n,r,J,e⟩:=I.lstM j;refine K7 F.slot_list_append ⟨_,e,rfl⟩ F.entry_list_append (F.args_list_append_2 _ _) (PySem.list_append l its.toArray n u (by rw[E8];lia)) ⟨e,?_⟩
 refine⟨.non,_,I.lset (its':=its++[u]) j e (by simp) (r.append (.cons ru .nil)) ?_,rfl,q⟩
 rw[DZ,ID];lia
noncomputable def zS:R2:=λx y H Q=>∃l b xs zs,x=.ref l/\y=.ref b/\H l=Z (.lst xs)/\H b=Z (.lst zs)/\xs.length+zs.length<=D2/\∀p,H p=Y->Q (.ref p) (upd H p (.lst (xs++zs)))
theorem op_cat:OpR X (Fo .Add) zS:=by
 intro pins s σ H x y v u Q I rx ry h;obtain⟨l,b,xs,zs,rfl,rfl,B,F,U,q⟩:=h
 cases rx
 cases ry
 obtain⟨z,its,n,r,NP,e⟩:=I.lstM B;obtain⟨fv,j,n2,J,L,O⟩:=I.lstM F;refine PySem.P.add_list e O ?_ (by rw[E8,E8];lia)
 have ea:its.toArray++j.toArray=(its++j).toArray:=by simp
 rw[ea];exact⟨.ref _,_,I.lnew (t':=s.toks) (r.append J) (by rw[DZ];lia),rfl,q _ I.fresh⟩
noncomputable def zT:R2:=λx y H Q=>∃l k xs,x=.ref l/\y=.int k/\H l=Z (.lst xs) /\ -(2^63)<=k/\k<2^63/\xs.length*k.toNat<=D2 /\
 ∀p,H p=Y->Q (.ref p) (upd H p (.lst (El k.toNat xs).flatten))
theorem lW{α:Type}(xs:List α)(k:Nat):(El k xs).flatten.length=k*xs.length:=by
 induction k with
 |zero=>simp
 |succ k ih=>rw[Fm,EY,DZ,ih,Nat.succ_mul,Nat.add_comm]
theorem op_rep:OpR X (Fo .Mult) zT:=by
 intro pins s σ H x y v u Q I rx ry h;obtain⟨l,k,xs,rfl,rfl,hH,h1,h2,fv,q⟩:=h
 cases rx
 obtain⟨t,rfl⟩:=ry;obtain⟨z,its,n,r,hl,e⟩:=I.lstM hH;have hlen:its.toArray.size*k.toNat<=D2:=by rw[E8,<-hl];exact fv
 have B:¬its.toArray.size*k.toNat > (2^63-1) / 8:=by
  have:(D2:Nat)<=(2^63-1) / 8:=by decide
  lia
 have J:¬(!Builtin.List.listFitsIndex k)=NQ:=by rw[fitsIndex_both h1 h2];exact E5
 have j:¬HV (its.toArray.size*k.toNat)=NQ:=by rw[rA hlen];exact E5
 have L:IH (λO NP=>O++NP) #[] (El (if its.toArray.isEmpty=NQ then 0 else k.toNat) its.toArray)=(El k.toNat its).flatten.toArray:=by
  have f0:∀m:Nat,IH (λO NP=>O++NP) #[] (El m its.toArray)=(El m its).flatten.toArray:=λm=>by have:=dQ its m [];rw[J3]at this;exact this
  rw[f0]
  cases its with
  |nil=>simp
  |cons a r'=>rw[if_neg (by simp)]
 refine Jt (T:="list") (U:="int") (by decide) ⟨_,e,rfl⟩ (λs'=>K5 s' k t) noFill_list_mul MM J4 repeat_list F.slot_int_index.lookup
  (K7 J4 (K5 s k t) LZ (Ly _ _) (int___rmul___int_list k t l its.toArray n)
    ⟨e,rfl,⟨_,e,rfl⟩,K7 F.slot_list_mul ⟨_,e,rfl⟩ F.entry_list_mul (F.args_list_mul_2 _ _) (AutoListH.list___mul___list_int_3 l its.toArray n k t J B j) ⟨e,?_⟩⟩)
 rw[L];exact⟨.ref _,_,I.lnew (t':=s.toks) (r.rep k.toNat) (by rw[lW,Lz];exact fv),rfl,q _ I.fresh⟩
end
end
end L2
namespace Att
open PySem PySem.W PySem.Calls PyProof.Rows
theorem gn{P:Params}{h:Heap}:∀(ns:List Int) (vs:List gV),WellAll P h vs (ns.map WData.int)->MW vs ns:=by
 intro ns
 induction ns with
 |nil=>
  intro vs w;rw[K8]at w
  cases w
  exact .nil
 |cons n ns ih=>
  intro vs w;rw[Eu]at w
  cases w with
  |cons a b=>
   cases a
   exact .cons _ _ (ih _ b)
theorem pi{l:OpenLaw}{n:Nat}(O:l.most=Z n){P:Params}{h:Heap}{args:List WData}{vals:List gV}(j:l.row.toRowW.claim.pre args=NQ)(J:WellAll P h vals args):
 ∃a vs ns,vals=[Eb a]/\args=[WData.list (ns.map WData.int)]/\h.get? a=Z {cls:=.type "list",data:=.seq vs.toArray}/\MW vs ns/\ns.length<=n:=by
 have hsh:WShape.hasAll [] args [.list .int]=NQ:=(pre_splitW j).1;have L:l.pre.holds [] {args:=args}=NQ:=(pre_splitW j).2;obtain⟨d,r,rfl,h1,h2⟩:=hasAllW_cons hsh;obtain rfl:=hasAllW_nil h2;obtain⟨xs,rfl,U⟩:=hasW_list h1;obtain⟨ns,rfl⟩:=items_int U;have hlen:ns.length<=n:=by
  unfold OpenLaw.pre at L;have B:(WTm.not (.lt (.lit (.int (n:Int))) (.len (.arg 0)))).holds [] {args:=[.list (ns.map .int)]}=NQ:=by have B:=(holds_andW L).1;rw[O]at B;exact B
  have F:=condW_of B (w_not (w_lt w_lit (w_len_list (w_arg rfl))));rw[DY]at F;refine Nat.le_of_not_lt λq=>?_;have q':(n:Int)<((ns.length:Nat):Int):=∅
  first
   |(rw[decide_eq_true q']at F;exact absurd F (by decide))
   |(simp at F;lia)
 cases J with
 |cons NP fv=>
  cases fv
  cases NP with
  |list ho z=>exact⟨_,_,ns,rfl,rfl,ho,gn ns _ z,hlen⟩
theorem pj(l:OpenLaw)(args:List WData):l.row.toRowW.claim.post args (.bool NQ) args=NQ:=
 postW_of (r:=l.row.toRowW) (X:=(NQ==NQ))
  (show WShape.has [] (.bool NQ) .bool=NQ by first|rfl|decide|simp[WShape.has,WShape.arms,WShape.armsAll])
  (show(WTm.eq .res (.lit (.bool NQ))).value [] {args:=args,res:=Z (.bool NQ),after:=args}=Z (.bool (NQ==NQ))from w_eq_bool (w_res rfl) w_lit) rfl
theorem attach_call {l:OpenLaw}{n:Nat}{q:Eg}{loose:List Str}{XP:(Str->Option gV)->Heap->Prop}{YP:Ez->Heap->Prop}{d:DefRec}(fv:l.most=Z n)(B:d.params.defaults=[])(call:∀(w:Ez) (s₀ s₁:q7) (mg mb:Str->Option gV) (fa:NS) (o:Obj) (pm cd doc:gV) (a:NS) (vs:List gV) (ns:List Int),
   Ground q loose [] XP w s₀ mg mb s₁.heap->YP w s₁.heap->
   s₁.heap.get? fa=Z o->o.data=.func (docDef d.name d.params d.body d.scope pm cd doc)->s₁.heap.CodeRec cd d.name->mg d.name=Z (.ref fa)->
   s₁.heap.get? a=Z {cls:=.type "list",data:=.seq vs.toArray}->MW vs ns->ns.length<=n->s₁.gens=#[]->
   Gj (model l.prog w) KQ (.call (.ref fa) ⟨[.ref a],[]⟩) (λr s'=>r=.ok (.ret (.bool NQ))/\OldK s₁.heap s'.heap/\s'.os=s₁.os/\Jx s'.gens) s₁):
 WalkO q loose XP YP l.row.toRowW d [] (λf vs=>N1 f vs):=by
 intro w s₀ s₁ mg mb G NP fa o pm cd doc dV kV ho hd F O J hg args vals as j U BG L BH;obtain rfl:dV=.none:=Dflts.none O B;obtain rfl:kV=.none:=Dflts.noKw O;obtain⟨a,vs,ns,rfl,rfl,z,hints,hlen⟩:=pi fv j L;refine enter_call (FY (call w s₀ s₁ mg mb fa o pm cd doc a vs ns G NP ho (fd_plain hd) F J z hints hlen hg) λr s' hq=>?_);obtain⟨rfl,h2,h3,h4⟩:=hq;exact⟨.inl ⟨.bool NQ,.bool NQ,[],rfl,λ_=>rfl,.bool NQ,pj l _,λ_=>⟨Io,λ_ hm=>(nomatch hm)⟩⟩,h2,h3,h4⟩
section
variable{prog:Eg}{w:Ez}{A:ED}{E:gV->q7->Prop}{s:q7}{K:Frag}
noncomputable def AJ(h:Heap)(L d:NS):List (NS×Obj):=(FW h.objs.size).filterMap λa=>if a=L∨a=d then Y else(h.get? a).map λo=>(a,o)
end
end Att
namespace L2
open PySem PySem.Spec PyProof.Rows
variable{fd:Hi}{x:Str}
section
theorem iI:∀{vs:List gV} {ns:List Int},MW vs ns->Vals (ns.map V.int) vs
 |_,_,.nil=>.nil
 |_,_,.cons n t h=>.cons ⟨t,rfl⟩ (iI h)
def nC(H:Hp):Prop:=∀b,H b=Y∨∃o xs,H b=Z (.frz o (.lst xs))
theorem rB{P:Eg}{w:Ez}{K:Frag}{mg mb:Str->Option gV}{CX:CXT}{k:Nat}{fa a:NS}{sp:Sp}{s₁:q7}{vs:List gV}{ns:List Int}(KX:K.In s₁.heap)(J:s₁.heap.Ns Fd mg)(j:s₁.heap.Ns JY mb)(fv:∀x:Str,x≠"__name__"->mb x=H0 x)(L:s₁.heap.NoLimit)(hg:s₁.gens=#[])(NP:s₁.heap.get? a=Z {cls:=.type "list",data:=.seq vs.toArray})(hi:MW vs ns)(hl:ns.length<=D2)(hr:Room k KQ)(F:∀base:Heap,K.In base->base.Ns Fd mg->cq P w K mg base CX k fa fd [x] sp)(B:∀(s:q7) (u:gV),KP s fd ⟨[u],[]⟩ [(x,u)])(BG:∀H:Hp,nC H->SqL K H a (ns.map V.int)->sp [.ref a] H (λv _=>v=.bl NQ) λ_ _ _=>False)(BH:∀H e s',CX [] H s₁ (λ_ _ _=>False) e s'->False):
 Gj (model P w) KQ (.call (.ref fa) ⟨[.ref a],[]⟩) (λr s'=>r=.ok (.ret (.bool NQ))/\OldK s₁.heap s'.heap/\s'.os=s₁.os/\Jx s'.gens) s₁:=by
 have rv:=iI hi;have lenV:=hi.length;have core:∀H:Hp,nC H->SqL K H a (ns.map V.int)->HOk P w H s₁.heap->(∀b,H b≠Y->b=a)->(H a≠Y->K.lookup a=Y)->
  Gj (model P w) KQ (.call (.ref fa) ⟨[.ref a],[]⟩) (λr s'=>r=.ok (.ret (.bool NQ))/\OldK s₁.heap s'.heap/\s'.os=s₁.os/\Jx s'.gens) s₁:=by
  intro H hO hS hok hA hK;have base_of:∀{b:NS} {o:Obj},s₁.heap.get? b=Z o->H b=Y->(dr s₁.heap H).get? b=Z o:=λe n=>qT e n;have noA:∀{b:NS} {o:Obj} {es:Array FC} {ep:Nat},s₁.heap.get? b=Z o->o.data=.dict es ep->H b=Y:=λ{b o es ep} e d=>by
   cases q:H b with
   |none=>rfl
   |some u=>
    have e':b=a:=hA b (by rw[q];simp)
    subst e';rw[NP]at e;cases e;have d':GU vs.toArray _=Data.dict es ep:=d
    cases d'
  have nsK:∀{b:NS} {m:Str->Option gV},s₁.heap.Ns b m->(dr s₁.heap H).Ns b m:=λ{b m} g9=>(by obtain⟨o,es,ep,e,d,r⟩:=g9;exact⟨o,es,ep,base_of e (noA e d),d,r⟩)
  have O:K.In (dr s₁.heap H):=λb o e=>base_of (KX b o e) (by
   cases q:H b with
   |none=>rfl
   |some u=>
    have e':b=a:=hA b (by rw[q];simp)
    subst e';rw[hK (by rw[q];simp)]at e;cases e)
  have hM:Mod K mg (dr s₁.heap H):=⟨O,nsK J,⟨mb,nsK j,fv⟩,let⟨mc,h1,h2⟩:=L; ⟨mc,nsK h1,h2⟩⟩;have e0:i3 P w K mg (dr s₁.heap H) KQ [] s₁ H:=⟨rfl,hM,λb o e=>uy e,Nat.le_of_eq (oM _ _),trivial,λb j=>absurd (show b∈([]:List NS)from j) (by simp),hok,.of_eq hg⟩
  refine FY ((F _ O (nsK J)).run KQ [] s₁ H ⟨[.ref a],[]⟩ [.ref a] [.ref a] _ _ hr e0 (B s₁ (.ref a)) (.cons rfl .nil) (BG H hO hS)) λr s' h=>?_
  cases r with
  |error e=>exact(BH H e s' h).elim
  |ok fl=>
   cases fl with
   |next=>exact False.elim h
   |brk=>exact False.elim h
   |cont=>exact False.elim h
   |ret u=>
    obtain⟨v,H',os,bare,un,U,r',q⟩:=h;have q':v=.bl NQ:=q;subst q';obtain rfl:u=Lc NQ:=r';refine⟨rfl,OldK.of_keep λb o e=>?_,os,bare⟩
    cases q:H b with
    |none=>exact un.keep b o e q (by intro z;exact absurd (show b∈([]:List NS)from z) (by simp)) (by simp)
    |some u=>
     rcases hO b with z|⟨ob,xs,z⟩
     ·rw[q]at z;cases z
     ·have z2:=un.frzs b ob _ z;obtain⟨e1,_⟩:=hok b _ z;obtain⟨e2,_⟩:=U b _ z2;rw[e]at e1;cases e1;exact e2
 cases hk:K.lookup a with
 |some o=>
  have e:=KX a o hk;rw[NP]at e
  cases e
  refine core (λ_=>Y) (λ_=>.inl rfl) (.inr ⟨_,vs.toArray,_,hk,rfl,rfl,rfl,by rw[E8,lenV];exact hl,by simpa using rv⟩) (λb u z=>by have z':(Y:Option HO)=Z u:=z;cases z') (λb z=>absurd rfl z) λz=>absurd rfl z
 |none=>
  refine core (λb=>if b=a then Z (.frz {cls:=.type "list",data:=.seq vs.toArray} (.lst (ns.map V.int)))else Y) (λb=>?_) (.inl (.inr ⟨{cls:=.type "list",data:=.seq vs.toArray},if_pos rfl⟩)) (λb u z=>?_) (λb z=>?_) λ_=>hk
  ·by_cases j:b=a
   ·exact .inr ⟨_,_,if_pos j⟩
   ·exact .inl (if_neg j)
  ·by_cases j:b=a
   ·have z':=(if_pos j).symm.trans z
    cases z'
    subst j;exact⟨NP,by rw[DY];exact hl,vs,_,rv,NP⟩
   ·have z':=(if_neg j).symm.trans z
    cases z'
  ·by_cases j:b=a
   ·exact j
   ·exact absurd (if_neg j) z
end
section
theorem walk_of {l:Kh}{n k:Nat}{q:Eg}{loose:List Str}{XP:(Str->Option gV)->Heap->Prop}{YP:Ez->Heap->Prop}{d:DefRec}{K:Params->Frag}{CX:Ez->CXT}{sp:Ez->Sp}(U:l.most=Z n)(z:n<=D2)(B:d.params.defaults=[])(fv:Room k KQ)(hY:∀(w:Ez) (h:Heap),YP w h->(K w.params).In h)(F:∀(w:Ez) (mg:Str->Option gV) (fa:NS) (h:Heap),(K w.params).In h->h.Ns Fd mg->mg d.name=Z (.ref fa)->
   ∃fd:Hi,(∀(s:q7) (u:gV),KP s fd ⟨[u],[]⟩ [(x,u)]) /\
    ∀base:Heap,(K w.params).In base->base.Ns Fd mg->cq l.prog w (K w.params) mg base (CX w) k fa fd [x] (sp w))(J:∀(w:Ez) (H:Hp) (a:NS) (ns:List Int),ns.length<=n->nC H->SqL (K w.params) H a (ns.map V.int)->sp w [.ref a] H (λv _=>v=.bl NQ) λ_ _ _=>False)(L:∀(w:Ez) (H:Hp) (s:q7) (e:gV) (s':q7),CX w [] H s (λ_ _ _=>False) e s'->False):
 PySem.W.WalkO q loose XP YP l.row.toRowW d [] (λf vs=>N1 f vs):=by
 refine Att.attach_call U B λw s₀ s₁ mg mb fa o pm cd doc a vs ns G NP ho hd BG O j hints hlen hg=>?_;have KX:=hY w _ NP;obtain⟨fd,hb,hF⟩:=F w mg fa _ KX G.T.g O;exact rB KX G.T.g G.T.b G.T.builtins G.T.nolimit hg j hints (Fu hlen z) fv hF hb (λH hO hS=>J w H a ns hlen hO hS) λH e s'=>L w H s₁ e s'
end
variable{qual:Str}{st:Stmt}{f:NS}
section
noncomputable def cE(s:Stmt):Arguments:=match s with
 |.FunctionDef _ a _ _ _ _ _ _ _ _=>a
 |_=>{posonlyargs:=[],args:=[],vararg:=Y,kwonlyargs:=[],kw_defaults:=[],kwarg:=Y,defaults:=[]}
noncomputable def bu(s:Stmt):List Stmt:=match s with
 |.FunctionDef _ _ b _ _ _ _ _ _ _=>b
 |_=>[]
noncomputable def am(s:Stmt):Scope:=match s with
 |.FunctionDef _ _ _ _ _ _ sc _ _ _=>sc
 |_=>{kind:=.function,names:=[],isGenerator:=NR,isCoroutine:=NR}
noncomputable abbrev CX0:CXT:=λ_ _ _ _ _ _=>False
noncomputable abbrev E0:XK:=λ_ _ _=>False
theorem u8{X:Cx}:gk CX0 X E0:=λ_ _ _ _ _ _ _ h=>h.elim
structure Fun(K:Frag)(x qual:Str)(st:Stmt)(f:NS)(fd:Hi):Prop where
 ex:∃(oc:gV) (od:Option NS) (kV doc pm:gV) (an:Option NS) (cdv ct:gV) (osl:Array (Option gV)),
  fd=H9 x qual (cE st) (bu st) (am st) .none kV doc pm an cdv ct/\K.lookup f=Z ⟨oc,od,.func fd,osl⟩/\Jg K cdv qual=NQ
 kp:Gw K (.ref f)=NQ
section
variable{P:Eg}{w:Ez}{K:Frag}{mg:Str->Option gV}{base:Heap}
theorem Fun.ok {N ps:List Str}{k:Nat}{sp:Sp}(F:Fun K x qual st f fd)(S:eK N ps (am st))(len:∀vs H Q E,sp vs H Q E->vs.length=ps.length)(j:∀(cdv:gV) (A:ED) (outer:List Env) (s:q7) (H:Hp) (vs:List V) (Q:VK) (E:XK),Room k (A.deeper (Ks qual (am st) s.heap.objs.size f cdv))->sp vs H Q E->
   ∃t,PSs (fI CX0 P w K mg base N qual (am st) f cdv A outer s H E).nox (bu st) t/\t {nx:=λ_ H'=>Q .non H',rt:=Q} (ce N vs) H):cq P w K mg base CX0 (k+1) f fd ps sp:=by
 obtain⟨oc,od,kV,doc,pm,an,cdv,ct,osl,rfl,lk,z⟩:=F.ex;refine yE lk z S len λA outer s H vs Q E J B=>?_;obtain⟨t,h,q⟩:=j cdv A outer s H vs Q E J B;exact⟨t,h.nox,q⟩
theorem Fun.binds{ps:List Str}(F:Fun K x qual st f fd)(h:∀(kV doc pm:gV) (an:Option NS) (cdv ct:gV) (us:List gV),us.length=ps.length->bindArgs (H9 x qual (cE st) (bu st) (am st) .none kV doc pm an cdv ct) ⟨us,[]⟩=pure (ps.zip us)):Binds K fd ps []:=by obtain⟨oc,od,kV,doc,pm,an,cdv,ct,osl,rfl,lk,j⟩:=F.ex;exact .all (h kV doc pm an cdv ct)
theorem az{oc:gV}{od an:Option NS}{osl:Array (Option gV)}{kV doc pm cdv ct:gV}(l:K.lookup f=Z ⟨oc,od,.func (H9 x qual (cE st) (bu st) (am st) .none kV doc pm an cdv ct),osl⟩)(c:Jg K cdv qual=NQ)(k:Gw K (.ref f)=NQ):Fun K x qual st f (H9 x qual (cE st) (bu st) (am st) .none kV doc pm an cdv ct):=⟨⟨oc,od,kV,doc,pm,an,cdv,ct,osl,rfl,l,c⟩,k⟩
end
end
end L2
namespace HT
open PySem PySem.Spec PyProof.Rows
section
variable{prog:Eg}{w:Ez}{A:ED}{E:gV->q7->Prop}{s:q7}
theorem getItem_tuple_whole{t sl:NS}{items:Array gV}{vl vu:gV}{lo hi:Option Int}{Q:gV->q7->Prop}(j:IsTup s.heap t items)(hs:s.heap.IsSliceOf sl vl vu .none)(pl:K1 vl lo)(pu:K1 vu hi)(hw:sIx items.size 0 lo=0/\sIx items.size items.size hi=items.size)(h:Q (.ref t) s):DU (model prog w) A (K2 (.ref t) (.ref sl)) Q E s:=by
 obtain⟨os,z,B,L⟩:=id hs;have F:s.TypeIs (.ref sl) "slice":=⟨os,z,B⟩;unfold K2
 try with_reducible refine ES ?_
 first|refine b3 (r4 ?_)|skip
 refine b3 (Lw j.typeIs (by decide) ?_)
 refine b3 (EO (name:=F9 "__getitem__") j.typeIs FP
  (EH FP j.typeIs KS ?_ (Le _ _)))
 show DU _ _ (Ji (.ref t)>>=_) _ _ s;refine b3 (tupleItemsOf_ j ?_);refine b3 (GF F ?_);rw[if_pos (by decide)]
 refine b3 (cL hs pl pu ?_);have J:(((sIx items.size 0 lo:Nat):Int)==0&&(1:Int)==1&&(sIx items.size items.size hi-sIx items.size 0 lo)==items.size)=NQ:=by rw[hw.1,hw.2];simp
 show DU _ _ (if(((sIx items.size 0 lo:Nat):Int)==0&&(1:Int)==1&&(sIx items.size items.size hi-sIx items.size 0 lo)==items.size)=NQ then _ else _) _ _ s
 rw[if_pos J];refine b3 (m:=Jj (.ref t)) ?_;unfold Jj;refine b3 (GF j.typeIs (r4 ?_));show DU _ _ (if NQ=NQ then _ else _) _ _ s
 rw[if_pos rfl];exact b3 (Ha (r4 ⟨_,rfl,r4 h⟩))
end
end HT
namespace L2
open PySem PySem.Spec PyProof.Rows
section
section
variable{X:Cx}
noncomputable def zU(K:Frag):V->Option Int->Option Int->Hp->VK->Prop:=λx lo hi H Q=>∃a xs,x=.ref a/\SqT K H a xs/\(HT.sIx xs.length 0 lo=0/\HT.sIx xs.length xs.length hi=xs.length)/\Q x H
theorem rC:SlR X (zU X.K):=by
 intro pins s σ H x v vl vu lo hi sl Q I rx hs pl pu h;obtain⟨a,xs,rfl,hx,hw,q⟩:=h
 cases rx
 obtain⟨its,r,j,z⟩:=I.tuple hx;have hlen:=r.length;refine⟨"tuple",_,slot_tuple_getitem.lookup,j.typeIs,?_⟩;refine HT.getItem_tuple_whole j hs pl pu (by rw[E8,<-hlen];exact hw) ⟨.ref a,H,I,rfl,q⟩
end
end
variable{u:gV}{y:V}{P:Eg}{w:Ez}{H H':Hp}{kvs:List (List Key×V)}{xs:List (List Key×NS×gV)}{b a:NS}{h':Heap}{s:q7}
section
section
variable{κ:Type}[DecidableEq κ]
noncomputable def bo(kvs:List (κ×V))(k:κ):Option V:=(kvs.find? λkv=>decide (kv.1=k)).map (·.2)
noncomputable def bA(kvs:List (κ×V))(k:κ)(v:V):List (κ×V):=if(kvs.any λkv=>decide (kv.1=k))=NQ then kvs.map (λkv=>if kv.1=k then(kv.1,v)else kv)else kvs++[(k,v)]
theorem dt{p:κ×V}{r:List (κ×V)}{k:κ}(e:p.1=k):bo (p::r) k=Z p.2:=by simp[bo,FO,e]
theorem du{p:κ×V}{r:List (κ×V)}{k:κ}(e:¬p.1=k):bo (p::r) k=bo r k:=by simp[bo,FO,e]
theorem jP(k:κ):∀kvs:List (κ×V),(kvs.any λkv=>decide (kv.1=k))=(bo kvs k).isSome
 |[]=>rfl
 |p::r=>by
  rw[Hn]
  by_cases e:p.1=k
  ·simp only[dt e,decide_eq_true e,Bool.true_or,Lg]
  ·rw[du e,decide_eq_false e,L4];exact jP k r
theorem fA(kvs:List (κ×V))(k:κ)(v:V):(bA kvs k v).length<=kvs.length+1:=by
 unfold bA
 split
 ·rw[DY];lia
 ·rw[DZ,II,Ga];lia
theorem RelO.isSome_eq{o:Option V}{u:Option gV}(r:RelO o u):o.isSome=u.isSome:=by
 cases o with
 | none=>cases u with
   |none=>rfl
   |some _=>exact(show False from r).elim
 | some _=>cases u with
   |none=>exact(show False from r).elim
   |some _=>rfl
theorem RelO.getD{o:Option V}{u:Option gV}{d:V}{d':gV}(r:RelO o u)(rd:RelV d d'):RelV (o.getD d) (u.getD d'):=by
 cases o with
 | none=>cases u with
   |none=>exact rd
   |some _=>exact(show False from r).elim
 | some _=>cases u with
   |none=>exact(show False from r).elim
   |some _=>exact r
theorem KV.val{kvs:List (κ×V)}{vs:List (κ×gV)}(r:KV kvs vs)(k:κ):RelO (bo kvs k) (KR vs k):=by
 unfold KV at r
 induction r with
 |nil=>exact Hy
 |@cons p q ps qs h t ih=>
  obtain⟨h1,h2⟩:=h
  by_cases e:p.1=k
  ·have e':q.1=k:=h1.symm.trans e;have b:KR (q::qs) k=Z q.2:=by simp[KR,FO,e']
   rw[dt e,b];exact h2
  ·have e':¬q.1=k:=λz=>e (h1.trans z);have b:KR (q::qs) k=KR qs k:=by simp[KR,FO,e']
   rw[du e,b];exact ih
theorem KV.any{kvs:List (κ×V)}{vs:List (κ×gV)}(r:KV kvs vs)(k:κ):(kvs.any λkv=>decide (kv.1=k))=vs.any λkv=>decide (kv.1=k):=by
 unfold KV at r
 induction r with
 |nil=>rfl
 |cons h t ih=>rw[Hn,Hn,ih,h.1]
theorem KV.repl{kvs:List (κ×V)}{vs:List (κ×gV)}(r:KV kvs vs)(k:κ)(ry:RelV y u):
 KV (kvs.map λkv=>if kv.1=k then(kv.1,y)else kv) (vs.map λkv=>if kv.1=k then(kv.1,u)else kv):=by
 unfold KV at r⊢
 induction r with
 |nil=>exact .nil
 |@cons p q ps qs h t ih=>
  rw[Eu,Eu];refine .cons ?_ ih;obtain⟨h1,h2⟩:=h
  by_cases e:p.1=k
  ·rw[if_pos e,if_pos (h1.symm.trans e)];exact⟨h1,ry⟩
  ·rw[if_neg e,if_neg (λz=>e (h1.trans z))];exact⟨h1,h2⟩
theorem KV.put{kvs:List (κ×V)}{vs:List (κ×gV)}(r:KV kvs vs)(k:κ)(ry:RelV y u):KV (bA kvs k y) (stored vs k u):=by
 unfold bA stored;rw[r.any k]
 by_cases e:(vs.any λkv=>decide (kv.1=k))=NQ
 ·rw[if_pos e,if_pos e];exact r.repl k ry
 ·rw[if_neg e,if_neg e];exact Paired.snoc r ⟨rfl,ry⟩
theorem KV.length{kvs:List (κ×V)}{vs:List (κ×gV)}(r:KV kvs vs):kvs.length=vs.length:=HQ r
end
theorem jj{k:Key}(r:RelV (kV k) u):(ay P w).is k u=NQ:=by
 cases k with
 |inl i=>obtain⟨t,e⟩:=(show ∃t,u=LV i t from r);subst e;exact lq P w i t
 |inr x=>obtain⟨t,e⟩:=(show ∃t,u=LW x t from r);subst e;exact lr P w x t
theorem iJ{P:Eg}{w:Ez}:∀{ks:List Key} {us:List gV},Vals (ks.map kV) us->ItemsAre (ay P w) ks us
 |[],_,r=>by rw[K8]at r;cases r;exact .nil
 |k::ks,_,r=>by
  rw[Eu]at r
  cases r with
  |cons h t=>exact .cons (jj h) (iJ t)
noncomputable abbrev KT(H:Hp):List (List Key×V)->List (List Key×NS×gV)->Prop:=EZ λp q=>p.1=q.1/\H q.2.1=Z (.tup (p.1.map kV))/\RelV p.2 q.2.2
theorem KT.val(r:KT H kvs xs)(k:List Key):RelO (bo kvs k) ((Mu xs k).map (·.2)):=by
 induction r with
 |nil=>exact Hy
 |@cons p q ps qs h t ih=>
  obtain⟨h1,_,h2⟩:=h
  by_cases e:p.1=k
  ·have e':q.1=k:=h1.symm.trans e;have b:Mu (q::qs) k=Z q.2:=by simp[Mu,FO,e']
   rw[dt e,b];exact h2
  ·have e':¬q.1=k:=λz=>e (h1.trans z);have b:Mu (q::qs) k=Mu qs k:=by simp[Mu,FO,e']
   rw[du e,b];exact ih
theorem KT.repl(r:KT H kvs xs)(k:List Key)(ry:RelV y u):
 KT H (kvs.map λkv=>if kv.1=k then(kv.1,y)else kv) (xs.map (putAt k u)):=by
 induction r with
 |nil=>exact .nil
 |@cons p q ps qs h t ih=>
  rw[Eu,Eu];refine .cons ?_ ih;obtain⟨h1,h2,j⟩:=h;unfold putAt
  by_cases e:p.1=k
  ·rw[if_pos e,if_pos (h1.symm.trans e)];exact⟨h1,h2,ry⟩
  ·rw[if_neg e,if_neg (λz=>e (h1.trans z))];exact⟨h1,h2,j⟩
theorem KT.put(r:KT H kvs xs)(k:List Key)(j:H b=Z (.tup (k.map kV)))(ry:RelV y u):
 KT H (bA kvs k y) (storedH xs k b u):=by
 have e:(kvs.any λkv=>decide (kv.1=k))=(Mu xs k).isSome:=by rw[jP,(r.val k).isSome_eq,Option.isSome_map]
 unfold bA storedH;rw[e]
 by_cases q:(Mu xs k).isSome=NQ
 ·rw[if_pos q,if_pos q];exact r.repl k ry
 ·rw[if_neg q,if_neg q];exact Paired.snoc r ⟨rfl,j,ry⟩
theorem KT.keeps(r:KT H kvs xs)(j:∀b ys,H b=Z (.tup ys)->H' b=Z (.tup ys)):KT H' kvs xs:=Nw r λ_ _ z=>⟨z.1,j _ _ z.2.1,z.2.2⟩
section
variable{P:Eg}{w:Ez}{H:Hp}{h:Heap}{a:NS}
theorem u9{u:HO}(ok:HOk P w H h)(e:Rd H a u):ObjOk P w H h a u:=e.ok ok
theorem jk{kvs:List (Key×V)}(ok:HOk P w H h)(e:Rd H a (.dK kvs)):kvs.length<=D2/\(a==FV)=NR/\∃vs,KV kvs vs/\h.DictOf (ay P w) a vs:=show ObjOk P w H h a (.dK kvs)from u9 ok e
theorem yI{kvs:List (Key×V)}(ok:HOk P w H h)(e:H a=Z (.dK kvs)):kvs.length<=D2/\(a==FV)=NR/\∃vs,KV kvs vs/\h.DictOf (ay P w) a vs:=jk ok (.inl e)
theorem gp{ks:List Key}(ok:HOk P w H h)(e:H a=Z (.tup (ks.map kV))):(Hm (ay P w)).is h ks a:=by obtain⟨_,its,r,o,h1,h2,n,j⟩:=(show ObjOk P w H h a (.tup (ks.map kV))from ok a _ e);exact⟨o,its.toArray,n,h1,h2,j,by simpa using iJ r⟩
theorem jl(ok:HOk P w H h)(e:Rd H a (.dT kvs)):kvs.length<=D2/\(a==FV)=NR /\
 ∃xs,KT H kvs xs/\h.DictOfH (Hm (ay P w)) a xs:=by
 obtain⟨z,y,xs,r,o,es,ep,h1,h2,j,B,F⟩:=(show ObjOk P w H h a (.dT kvs)from u9 ok e);refine⟨z,y,xs,r,o,es,ep,h1,h2,j,B,λx hx=>?_,F⟩;have all:∀{l:List (List Key×V)} {m:List (List Key×NS×gV)},KT H l m->∀x∈m,(Hm (ay P w)).is h x.1 x.2.1:=by
  intro l m q
  induction q with
  |nil=>intro x hx;exact nomatch hx
  |@cons p q ps qs hq t ih=>
   intro x hx
   rcases DX.mp hx with e|hx
   ·subst e;exact gp ok (by rw[<-hq.1];exact hq.2.1)
   ·exact ih x hx
 exact all r x hx
theorem yJ(ok:HOk P w H h)(e:H a=Z (.dT kvs)):kvs.length<=D2/\(a==FV)=NR /\
 ∃xs,KT H kvs xs/\h.DictOfH (Hm (ay P w)) a xs:=jl ok (.inl e)
end
def DGet(H:Hp)(a:NS)(y:V)(r:Option V):Prop:=(∃kvs k,Rd H a (.dK kvs)/\y=kV k/\r=bo kvs k)∨∃kvs k b,Rd H a (.dT kvs)/\y=.ref b/\H b=Z (.tup (k.map kV))/\r=bo kvs k
def DPut(H:Hp)(a:NS)(y v:V)(H':Hp):Prop:=
 (∃kvs k,H a=Z (.dK kvs)/\y=kV k/\kvs.length<D2/\H'=upd H a (.dK (bA kvs k v))) ∨
 ∃kvs k b,H a=Z (.dT kvs)/\y=.ref b/\H b=Z (.tup (k.map kV))/\kvs.length<D2/\H'=upd H a (.dT (bA kvs k v))
theorem DGet.k{kvs:List (Key×V)}{k:Key}(e:H a=Z (.dK kvs)):DGet H a (kV k) (bo kvs k):=.inl ⟨kvs,k,.inl e,rfl,rfl⟩
theorem DPut.k{kvs:List (Key×V)}{k:Key}{v:V}(e:H a=Z (.dK kvs))(j:kvs.length<D2):DPut H a (kV k) v (upd H a (.dK (bA kvs k v))):=.inl ⟨kvs,k,e,rfl,j,rfl⟩
theorem DPut.t{k:List Key}{v:V}(e:H a=Z (.dT kvs))(eb:H b=Z (.tup (k.map kV)))(j:kvs.length<D2):DPut H a (.ref b) v (upd H a (.dT (bA kvs k v))):=.inr ⟨kvs,k,b,e,rfl,eb,j,rfl⟩
section
variable{X:Cx}{pins:List (NS×Obj)}{σ:St}{H:Hp}{s:q7}{a:NS}{y v:V}{u r:gV}{o:Option V}{A:ED}{E:gV->q7->Prop}
theorem Inv.big(I:Inv X pins σ H s):FV<s.heap.objs.size:=by have h:Fd<s.heap.objs.size:=(I.mod.glob.keeps I.bk).lt;exact LA (by decide) h
theorem pq{Q:gV->q7->Prop}(hu:A.units+1<GZ)(I:Inv X pins σ H s)(g:DGet H a y (Z v))(ry:RelV y u)(h:∀w' s',Inv X pins σ H s'->RelV v w'->Q w' s'):
 DU (model X.prog X.w) A (K2 (.ref a) u) Q E s:=by
 rcases g with⟨kvs,k,e,ey,l⟩|⟨kvs,k,b,e,ey,eb,l⟩
 ·subst ey;obtain⟨z,hd,vs,rel,dd⟩:=jk I.hok e;obtain⟨w',hw,rw'⟩:=NJ (v:=v) (o:=KR vs k) (by rw[l];exact rel.val k)
  exact wpAny_getItem_of (jj ry) dd.mapOf hw (h w' _ (I.tok _) rw')
 ·subst ey
  cases(show u=Eb b from ry)
  obtain⟨z,hd,xs,rel,dd⟩:=jl I.hok e;obtain⟨w',hw,rw'⟩:=NJ (v:=v) (o:=(Mu xs k).map (·.2)) (by rw[l];exact rel.val k)
  obtain⟨p,B,j⟩:=Ip.mp hw;refine wpAny_getItem_heap (Jk hu) (gp I.hok eb) dd B ?_;rw[j];exact h w' _ (I.tok _) rw'
theorem lZ{t':Nat}{ob:HO}(I:Inv X pins σ H s)(mu:Mut (H a))(hs:Gi a s.heap h')(he:∃q,h'.get? a=Z q)(new:ObjOk X.prog X.w (upd H a ob) h' a ob):
 Inv X pins σ (upd H a ob) {s with heap:=h',toks:=t'}:=
 I.write (x:=a) (e:=a) mu (.inl rfl) (λb q j z=>(hs.2 b j).trans z) he new
theorem wY{kvs:List (Key×V)}{vs:List (Key×gV)}(z:kvs.length<=D2)(hd:(a==FV)=NR)(rel:KV kvs vs)(dd:h'.DictOf (ay P w) a vs):ObjOk P w H' h' a (.dK kvs):=⟨z,hd,vs,rel,dd⟩
theorem pv{Q:Unit->q7->Prop}(hu:A.units+1<GZ)(I:Inv X pins σ H s)(g:DPut H a y v H')(ry:RelV y u)(rv:RelV v r)(h:∀s',Inv X pins σ H' s'->Q () s'):
 DU (model X.prog X.w) A (setItem (.ref a) u r) Q E s:=by
 rcases g with⟨kvs,k,e,ey,l,eH⟩|⟨kvs,k,b,e,ey,eb,l,eH⟩
 ·subst ey eH;obtain⟨z,hd,vs,rel,dd⟩:=yI I.hok e;have B:vs.length<=D2:=by rw[<-rel.length];exact z
  have F:(bA kvs k v).length<=D2:=by have:=fA kvs k v;lia
  refine wpAny_setItem_pairs (hsz:=B) (jj ry) dd λh' dd' hs=>h _ ?_;have he:∃q,h'.get? a=Z q:=let⟨q,_,_,j,_⟩:=dd'; ⟨q,j⟩;exact lZ I (by rw[e];exact Hy) hs he (wY F hd (rel.put k rv) dd')
 ·subst ey eH
  cases(show u=Eb b from ry)
  obtain⟨z,hd,xs,rel,dd⟩:=yJ I.hok e;have B:xs.length<=D2:=by rw[<-HQ rel];exact z
  have F:(bA kvs k v).length<=D2:=by have:=fA kvs k v;lia
  refine wpAny_setItem_heap (hsz:=B) (Jk hu) (gp I.hok eb) dd λh' dd' hs=>h _ ?_;obtain⟨q,es,ep,j,h2,J,L,_,O⟩:=dd';refine lZ I (by rw[e];exact Hy) hs ⟨q,j⟩ ⟨F,hd,_,(rel.put k eb rv).keeps λc ys ec=>?_,q,es,ep,j,h2,J,L,O⟩
  rw[aj (yo ec e (λz=>nomatch z))];exact ec
end
theorem rD(h:Heap)(j:FV<h.objs.size):ObjOk P w H (h.push {cls:=.type "dict",data:=.dict #[]}) h.objs.size (.dK []):=⟨ER _,beq_eq_false_iff_ne.mpr (Ne.symm (Ep j)),[],.nil,Heap.DictOf.new h⟩
theorem rE(h:Heap)(j:FV<h.objs.size):ObjOk P w H (h.push {cls:=.type "dict",data:=.dict #[]}) h.objs.size (.dT []):=⟨ER _,beq_eq_false_iff_ne.mpr (Ne.symm (Ep j)),[],.nil,_,#[],0,DW _ rfl,⟨rfl,rfl,rfl⟩,rfl,rfl,Kv⟩
noncomputable def wZ:TE:=λ_ H Q=>∀p,H p=Y->Q (.ref p) (upd H p (.dK []))
noncomputable def xa:TE:=λ_ H Q=>∀p,H p=Y->Q (.ref p) (upd H p (.dT []))
section
variable{X:Cx}{pos:Pos}
theorem rF:PE X (.Dict [] [] pos) wZ:=λpins s σ H Q I h=>Ma ⟨.ref s.heap.objs.size,_,I.laid (a:=s.heap.objs.size) (o:=.dK []) (t':=s.toks) (λ_ _ q=>i2 _ q) (E2 _) (rD s.heap I.big),rfl,h _ (I.hok.fresh (E2 _))⟩
theorem rG:PE X (.Dict [] [] pos) xa:=λpins s σ H Q I h=>Ma ⟨.ref s.heap.objs.size,_,I.laid (a:=s.heap.objs.size) (o:=.dT []) (t':=s.toks) (λ_ _ q=>i2 _ q) (E2 _) (rE s.heap I.big),rfl,h _ (I.hok.fresh (E2 _))⟩
end
structure M2(X:Cx)(o:Expr)(m:Str)(apos:Pos)(e f:Expr)(cpos:Pos):Prop where
 base:JD o m X.env (eval o X.env)=eval o X.env
 few:((Ic cpos (EA [e,f] X.env)).all (λx=>!x.1)&&(backToKw cpos (Mt [] X.env)).all (λx=>x.1.isSome)
  && decide (([e,f]:List Expr).length+([]:List K6).length+(if([]:List K6).isEmpty then 0 else 1)<30))=NQ
 line:(apos.endLine==cpos.line)=NQ
 trees:Ic cpos (EA [e,f] X.env)=[(NR,eval e X.env),(NR,eval f X.env)]
def IsD(H:Hp)(a:NS):Prop:=(∃kvs,Rd H a (.dK kvs))∨∃kvs,Rd H a (.dT kvs)
theorem jQ{X:Cx}{pins:List (NS×Obj)}{σ:St}(I:Inv X pins σ H s)(d:IsD H a):
 s.TypeIs (.ref a) "dict"/\(∀b,Eb a=.ref b->∃ob,s.heap.get? b=Z ob/\ob.dict=Y)/\(a==FV)=NR:=by
 rcases d with⟨kvs,e⟩|⟨kvs,e⟩
 ·obtain⟨_,hd,vs,_,dd⟩:=jk I.hok e;refine⟨dd.typeIs,λb q=>?_,hd⟩
  cases q
  obtain⟨ob,_,_,h1,h2,_⟩:=dd;exact⟨ob,h1,h2.2.1⟩
 ·obtain⟨_,hd,xs,_,dd⟩:=jl I.hok e;refine⟨dd.typeIs,λb q=>?_,hd⟩
  cases q
  obtain⟨ob,_,_,h1,h2,_⟩:=dd;exact⟨ob,h1,h2.2.1⟩
section
variable{X:Cx}{pins:List (NS×Obj)}{σ:St}{H:Hp}{s:q7}{a:NS}{y d:V}{u r:gV}{o:Option V}{A:ED}{E:gV->q7->Prop}
theorem xb{Q:gV->q7->Prop}(hu:A.units+1<GZ)(I:Inv X pins σ H s)(g:DGet H a y o)(ry:RelV y u)(rd:RelV d r)(h:∀w' s',Inv X pins σ H s'->RelV (o.getD d) w'->Q w' s'):
 DU (model X.prog X.w) A (call (.builtin "dict.get") [.ref a,u,r]) Q E s:=by
 rcases g with⟨kvs,k,e,ey,l⟩|⟨kvs,k,b,e,ey,eb,l⟩
 ·subst ey;obtain⟨z,hd,vs,rel,dd⟩:=jk I.hok e;refine call_meetsIn IE dd.typeIs K9 (JJ _ _ _) (meets_dict_get_default (ay X.prog X.w) a (jj ry) hd r) ⟨_,dd.mapOf,h _ _ (I.tok _) ?_⟩;rw[l];exact(rel.val k).getD rd
 ·subst ey
  cases(show u=Eb b from ry)
  obtain⟨z,hd,xs,rel,dd⟩:=jl I.hok e;refine call_meetsIn IE dd.typeIs K9 (JJ _ _ _) (meetsH_dict_get_default (Hm (ay X.prog X.w)) a b hd r) ⟨Jk hu,k,xs,gp I.hok eb,dd,h _ _ (I.tok _) ?_⟩;rw[l];exact(rel.val k).getD rd
end
noncomputable def xc(td ty tx:TE):TE:=λσ H Q=>td σ H λx H1=>∃a,x=.ref a/\IsD H1 a/\ty σ H1 λy H2=>tx σ H2 λz H3=>∃o,DGet H3 a y o/\Q (o.getD z) H3
section
variable{X:Cx}{o e f:Expr}{apos cpos:Pos}{td ty tx:TE}
theorem rH(hu:X.A.units+1<GZ)(ho:PE X o td)(he:PE X e ty)(hf:PE X f tx)(m:M2 X o "get" apos e f cpos):PE X (.Call (.Attribute o "get" apos) [e,f] [] cpos) (xc td ty tx):=by
 intro pins s σ H Q I h;refine wpAny_Call_method m.base m.few m.line PySem.F.plainAttrs_dict IE PySem.F.type_dict_get (thn (ho pins s σ H _ I h) λu s1 B=>?_);obtain⟨x,H1,j,rx,a,ex,d,J⟩:=B;subst ex;obtain rfl:u=Eb a:=rx;obtain⟨t1,L,_⟩:=jQ j d;refine⟨t1,L,?_⟩;rw[m.trees];refine Im rfl (Ku (Fz (thn (he pins s1 σ H1 _ j J) λiv s2 ⟨y,H2,O,ry,U⟩=>Fz (thn (hf pins s2 σ H2 _ O U) λfv s3 ⟨z,NP,fv,rz,ov,g,q3⟩=>G4 ?_))))
 exact xb hu fv g ry rz λw' s4 I4 rw'=>⟨_,NP,I4,rw',q3⟩
end
end
variable{d:Nat}{ifs:List Expr}{elt target iter:Expr}{gens:List ET}{scope:Scope}{pos:Pos}{acc:gV}{g:TG}{wi:TI}
section
noncomputable def aN(elt:Expr)(gens:List ET)(scope:Scope)(pos:Pos)(d:Nat)(acc:gV)(env:Env)(k:Sem Fin):Sem Fin:=
 match gens[d+1]? with
 |some g'=>eval g'.iter env>>=fun x=>Jy g'.iter.pos>>=fun _=>G3 g'.iter env x>>=fun x=>holding [x] (JC x)>>=fun it'=>runOwn (.compStart (.ListComp elt gens scope pos) (d+1) it' acc env) env>>=λ_=>k
 |none=>(eval elt env>>=λx=>call (.builtin "list.append") [acc,x]>>=λ_=>pure ())>>=λ_=>k
noncomputable def aV(ifs:List Expr)(env:Env):Sem Bool:=forIn ifs NQ λc r=>if r=NQ then do let ok <-isTrue c env (eval c env);pure (Hj ok)else pure (Hj r)
theorem jR(elt target iter:Expr)(ifs:List Expr)(gens:List ET)(scope:Scope)(pos:Pos)(d:Nat)(it acc:gV)(env:Env)(hd:gens[d]?=Z ⟨target,iter,ifs,0⟩)(j:∀g',gens[d+1]?=Z g'->g'.is_async=0):
 compTurn (.ListComp elt gens scope pos) d it acc env=(Jy iter.pos>>=λ_=>GH it>>=λr=>match r with
  |none=>pure (.done .next)
  |some v=>J1 target it v>>=fun _=>assign target env v>>=fun _=>aV ifs env>>=fun ok=>(if ok=NQ then aN elt gens scope pos d acc env (again (.compLoop (.ListComp elt gens scope pos) d it acc env))else again (.compLoop (.ListComp elt gens scope pos) d it acc env))):=by
 unfold compTurn;simp only[hd];unfold aN aV
 cases hn:gens[d+1]? with
 |none=>rfl
 |some g'=>obtain⟨t',i',f',a'⟩:=g';have e:a'=0:=j _ hn;subst e;rfl
noncomputable abbrev TC:=St->Hp->(St->Hp->Prop)->Prop
def bT(J:It)(g:TG)(tb:TC)(N:St->Hp->Prop)(σ:St)(H:Hp):Prop:=
 ∃W:Nat->Nat->St->Hp->Prop,(∃m,W 0 m σ H)/\∀i m σ H,W i m σ H->
  (J.stop i H/\N σ H)∨(J.go i H/\∃N':St->Hp->Prop,(∀σ' H',N' σ' H'->∃m',m'<m/\W (i+1) m' σ' H')/\∀x H',J.yld i H x H'->g x σ H' λσ2 H2=>tb σ2 H2 N')
def PB(X:Cx)(F:Sem Fin->Sem Fin)(t:TC):Prop:=
 ∀(pins:List (NS×Obj)) (s:q7) (σ:St) (H:Hp) (N:St->Hp->Prop) (k:Sem Fin) (Q:Fin->q7->Prop) (E:gV->q7->Prop),Inv X pins σ H s->t σ H N->
  (∀s' σ' H',Inv X pins σ' H' s'->N σ' H'->DU (model X.prog X.w) X.A k Q E s')->DU (model X.prog X.w) X.A (F k) Q E s
section
variable{X:Cx}
theorem nox{α:Type}{m:Sem α}{Q:α->q7->Prop}{E:gV->q7->Prop}(hx:∀e s,X.xe e s->False)(h:DU (model X.prog X.w) X.A m Q X.xe s):DU (model X.prog X.w) X.A m Q E s:=F2 h (λ_ _ q=>q) λe s' q=>(hx e s' q).elim
noncomputable def gr(ts:List TT)(tb:TC):TC:=match ts with
 |[]=>tb
 |t::r=>λσ H N=>t σ H λb H1=>if b=NQ then gr r tb σ H1 N else N σ H1
theorem gu{env:Env}{M:IC}{A:ED}{Q:Bool->q7->Prop}{E:gV->q7->Prop}{s:q7}(h:Q NR s):∀ifs:List Expr,
 DU M A (forIn ifs NR λc r=>if r=NQ then do let ok <-isTrue c env (eval c env);pure (Hj ok)else pure (Hj r)) Q E s
 |[]=>r4 h
 |c::r=>by rw[J5];simp only[Ec,if_false];exact b3 (r4 (gu h r))
theorem jS(hx:∀e s,X.xe e s->False){tb:TC}{N:St->Hp->Prop}:∀{ifs:List Expr} {ts:List TT},EZ (λc t=>PT X c t) ifs ts->
 ∀(pins:List (NS×Obj)) (s:q7) (σ:St) (H:Hp) (E:gV->q7->Prop),Inv X pins σ H s->gr ts tb σ H N->
 DU (model X.prog X.w) X.A (aV ifs X.env) (λok s'=>∃H',Inv X pins σ H' s'/\if ok=NQ then tb σ H' N else N σ H') E s
 |_,_,.nil=>λpins s σ H E I h=>r4 ⟨H,I,by rw[if_pos rfl];exact h⟩
 |c::ifs,_,.cons (b:=t) B hr=>by
  intro pins s σ H E I h;have ih:=jS hx hr (tb:=tb) (N:=N) pins;unfold aV at ih⊢;rw[J5];simp only[if_true];refine b3 (b3 (nox hx (thn (B pins s σ H _ I h) λb s1 F=>?_)));obtain⟨H1,z,j⟩:=F;refine r4 ?_
  cases b with
  |false=>rw[if_neg E5]at j;exact gu ⟨H1,z,by rw[if_neg E5];exact j⟩ ifs
  |true=>rw[if_pos rfl]at j;exact ih s1 σ H1 E z j
theorem rJ(hx:∀e s,X.xe e s->False){F:Sem Fin->Sem Fin}{tb:TC}(B:PB X F tb){ts:List TT}(J:EZ (λc t=>PT X c t) ifs ts):
 PB X (λk=>aV ifs X.env>>=λok=>if ok=NQ then F k else k) (gr ts tb):=by
 intro pins s σ H N k Q E I h hk;refine b3 (thn (jS hx J pins s σ H E I h) λok s1 L=>?_);obtain⟨H1,z,j⟩:=L
 cases ok with
 |false=>rw[if_neg E5]at j⊢;exact hk s1 σ H1 z j
 |true=>rw[if_pos rfl]at j⊢;exact B pins s1 σ H1 N k Q E z j hk
noncomputable def ua(p:NS)(te:TE):TC:=λσ H N=>te σ H λx H1=>∃xs,H1 p=Z (.lst xs)/\xs.length<D2/\N σ (upd H1 p (.lst (xs++[x])))
theorem i5(hx:∀e s,X.xe e s->False){p:NS}{te:TE}(he:PE X elt te)(hd:gens[d+1]?=Y):
 PB X (aN elt gens scope pos d (.ref p) X.env) (ua p te):=by
 intro pins s σ H N k Q E I h z;unfold aN;rw[hd];refine b3 (b3 (nox hx (thn (he pins s σ H _ I h) λu s1 j=>?_)));obtain⟨x,H1,B,F,xs,J,l1,L⟩:=j;refine b3 (nox hx (thn (iH (X:=X) pins s1 σ H1 (.ref p) [x] (.ref p) [u] (λ_ H2=>N σ H2) B rfl (.cons F .nil) ⟨p,xs,x,rfl,rfl,J,l1,L⟩) λv s2 j=>?_));obtain⟨_,H2,O,_,U⟩:=j;exact r4 (z s2 σ H2 O U)
theorem iK(hx:∀e s,X.xe e s->False)(hc:X.calm=NQ)(hd:gens[d]?=Z ⟨target,iter,ifs,0⟩)(ha:∀g',gens[d+1]?=Z g'->g'.is_async=0)(hg:PG X target g){tb:TC}(j:PB X (λk=>aV ifs X.env>>=λok=>if ok=NQ then aN elt gens scope pos d acc X.env k else k) tb){pins:List (NS×Obj)}{σ:St}{N:St->Hp->Prop}{it:NS}{fp:List NS}{tn:Nat->Heap->Prop}{J:It}(I:Inv X pins σ H s)(T:jL X.prog X.w X.K target J fp it tn)(t0:tn 0 s.heap)(f2:∀b∈fp,ca X pins H b)(h:bT J g tb N σ H):
 Gj (model X.prog X.w) X.A (.compLoop (.ListComp elt gens scope pos) d (.ref it) acc X.env) (λr s'=>match r with|.ok _=>∃σ' H',Inv X pins σ' H' s'/\N σ' H'|.error _=>False) s:=by
 obtain⟨W,⟨m0,w0⟩,turn⟩:=h;have stat:∀{H':Hp},(∀b∈fp,H' b=Y)->∀b∈fp,ca X pins H' b:=λhn b j=>⟨hn b j,(f2 b j).2⟩;refine codeAny_loop rfl (λn s'=>∃i σ' H',Inv X pins σ' H' s'/\tn i s'.heap/\(∀b∈fp,H' b=Y)/\W i n σ' H') ?_ m0 ⟨0,σ,H,I,t0,λb j=>(f2 b j).1,w0⟩;rintro n s3 ⟨i,σ3,O,I3,F,L,w3⟩;show DU _ _ ((compTurn (.ListComp elt gens scope pos) d (.ref it) acc X.env).onRaise (λx=>do noteFrame x X.env;theTreesLotGoes x)) _ _ s3
 refine wpAny_noted ?_;rw[jR elt target iter ifs gens scope pos d (.ref it) acc X.env hd ha];refine b3 (HR (b3 ?_));show DU (model X.prog X.w) X.A _ _ _ s3
 rcases turn i n σ3 O w3 with⟨stop,qn⟩|⟨go,N',hN,step⟩
 ·refine thn (T.done X rfl rfl rfl hc i pins s3 σ3 O _ I3 (stat L) F stop) λr s4 z=>?_;obtain⟨U,I4⟩:=z;subst U;exact r4 ⟨σ3,O,I4,qn⟩
 ·refine thn (T.item X rfl rfl rfl hc i pins s3 σ3 O _ I3 (stat L) F go) λr s4 z=>?_;obtain⟨u,U,h4⟩:=z;subst U;refine b3 (thn h4 λ_ s5 z=>?_);obtain⟨x,H5,I5,r5,y5,B,NP⟩:=z;have fv:=I5.pinned (stat NP) (T.obj _ _ B);refine b3 (nox hx (thn (hg _ s5 σ3 H5 x u _ fv r5 (step x H5 y5)) λ_ s6 z=>?_));obtain⟨σ6,H6,I6,q6⟩:=z;refine j _ s6 σ6 H6 N' (again (.compLoop (.ListComp elt gens scope pos) d (.ref it) acc X.env)) _ _ I6 q6 λs7 σ7 H7 I7 n7=>?_;obtain⟨m',hm,w7⟩:=hN σ7 H7 n7;refine r4 ⟨rfl,m',hm,i+1,σ7,H7,I7.unpinned,T.keep _ _ _ B λb j o e=>(I7.pin (b,o) (Ed _ (Ed _ (cw j e)))).1,λb j=>?_,w7⟩;obtain⟨o,e,dd⟩:=T.obj _ _ B b j;exact(I7.pin (b,o) (Ed _ (Ed _ (cw j e)))).2.1
theorem gv {it:gV}{env:Env}{prog:Eg}{A:ED}{R:Kr->q7->Prop}(hd:gens[d]?=Z ⟨target,iter,ifs,0⟩)(h0:Gj (model prog w) A (.compLoop (.ListComp elt gens scope pos) d it acc env) R s)(h:DU (model prog w) A (JC it) (fun it' s'=>Gj (model prog w) A (.compLoop (.ListComp elt gens scope pos) d it' acc env) R s')
   (notedBy (model prog w) A env λx s'=>R (.error x) s') s):
 Gj (model prog w) A (.compStart (.ListComp elt gens scope pos) d it acc env) R s:=by
 refine J6 ?_;show DU _ _ ((compStart (.ListComp elt gens scope pos) d it acc env).onRaise (λx=>do noteFrame x env;Jy theWindowsPlace)) _ _ s
 refine wpAny_notedAt ?_;unfold compStart;have j:(clausesOf (.ListComp elt gens scope pos))[d]?=Z ⟨target,iter,ifs,0⟩:=hd;rw[j];show DU _ _ (ask>>=_) _ _ s;refine b3 (GW (wpAny_ite ?_))
 split
 ·first
   |exact b3 (r4 (r4 (IJ rfl h0)))
   |exact r4 (IJ rfl h0)
 ·first
   |exact b3 (Ha (b3 (HR (b3 (F2 h (λit' s' h'=>r4 (IJ rfl h')) λ_ _ x=>x)))))
   |(refine b3 (Ha ?_);show DU _ _ (Jy iter.pos>>=_) _ _ s;exact b3 (HR (b3 (F2 h (λit' s' h'=>r4 (IJ rfl h')) λ_ _ x=>x))))
theorem iL(hx:∀e s,X.xe e s->False)(B:X.calm=NQ)(hd:gens[d+1]?=Z ⟨target,iter,ifs,0⟩)(F:∀g',gens[d+1+1]?=Z g'->g'.is_async=0)(hi:PI X target iter wi)(L:PG X target g){tb:TC}(O:PB X (λk=>aV ifs X.env>>=λok=>if ok=NQ then aN elt gens scope pos (d+1) acc X.env k else k) tb)(hs:∀x,G3 iter X.env x=pure x):
 PB X (aN elt gens scope pos d acc X.env) (λσ H N=>wi σ H λJ H1=>bT J g tb N σ H1):=by
 intro pins s σ H N k Q E I h hk;unfold aN;rw[hd];refine b3 (nox hx (thn (hi pins s σ H _ I h) λv s1 h1=>?_));refine b3 (HR (b3 (GG (hs v) ?_)));refine b3 (ES (nox hx (thn h1 λitv s2 h2=>?_)));obtain⟨it,fp,tn,J,H2,e,U,T,j,f2,hw⟩:=h2;subst e;have loop:=iK (acc:=acc) hx B hd F L O U T j f2 hw;refine b3 (wpAny_runOwn (FY (gv (R:=λr s'=>match r with|.ok _=>∃σ' H',Inv X pins σ' H' s'/\N σ' H'|.error _=>False) hd loop (T.self _ 0 _ _ _ j loop)) λr s3 z=>?_))
 cases r with
 |error e=>exact z.elim
 |ok f=>obtain⟨σ3,NP,fv,n3⟩:=z;exact hk s3 σ3 NP fv n3
noncomputable def aG(cells:List (Str×NS)):List (Str×GR)->List (Str×NS)->List (Str×NS)
 |[],acc=>acc
 |(n,k)::r,acc=>if k==.free then(match cells.lookup n with|some c=>aG cells r ((n,c)::acc)|none=>aG cells r acc)else aG cells r acc
theorem fB{env:Env}:∀(names:List (Str×GR)) (acc:List (Str×NS)),(∀x∈names,x.2=.free->(env.cells.lookup x.1).isSome=NQ)->
 (forIn names acc λ(x:Str×GR) (r:List (Str×NS))=>(match x with|(name,kind)=>if(kind==EC)=NQ then do let c <-cellOf env name;pure (Hj ((name,c)::r))else pure (Hj r):Sem (ForInStep (List (Str×NS)))))=(pure (aG env.cells names acc):Sem (List (Str×NS)))
 |[],acc,_=>rfl
 |(n,k)::r,acc,h=>by
  rw[J5];have ih:=λacc'=>fB r acc' λx hx=>h x (Ee _ hx);unfold aG
  by_cases hk:(k==EC)=NQ
  ·obtain⟨c,z⟩:=GI.mp (h (n,k) Ey (beq_iff_eq.mp hk));have j:env.cells.lookup n=Z c:=z;have B:cellOf env n=pure c:=by unfold cellOf;rw[j]
   simp only[hk,if_true,B,j,pure_bind];exact ih _
  ·simp only[hk,if_false,pure_bind];exact ih _
theorem gw{env:Env}(h:∀x∈scope.names,x.2=.free->(env.cells.lookup x.1).isSome=NQ):closureFor scope env=pure (aG env.cells scope.names []):=by unfold closureFor;have e:=fB (env:=env) scope.names [] h;simp only[bind_pure];exact e
theorem cx{cells:List (Str×NS)}{y:Str}{c:NS}:∀{names:List (Str×GR)} {acc:List (Str×NS)},(y,c)∈aG cells names acc->(y,c)∈acc∨(cells.lookup y=Z c/\(y,EC)∈names)
 |[],acc,h=>.inl h
 |(n,k)::r,acc,h=>by
  unfold aG at h
  by_cases hk:(k==EC)=NQ
  ·rw[if_pos hk]at h;have F:k=.free:=beq_iff_eq.mp hk;subst F
   cases J:cells.lookup n with
   |none=>
    rw[J]at h
    rcases cx h with z|⟨j,B⟩
    ·exact .inl z
    ·exact .inr ⟨j,Ee _ B⟩
   |some c'=>
    rw[J]at h
    rcases cx h with z|⟨j,B⟩
    ·rcases DX.mp z with e|z
     ·cases e
      exact .inr ⟨J,Ey⟩
     ·exact .inl z
    ·exact .inr ⟨j,Ee _ B⟩
  ·rw[if_neg hk]at h
   rcases cx h with z|⟨j,B⟩
   ·exact .inl z
   ·exact .inr ⟨j,Ee _ B⟩
theorem cy{cells:List (Str×NS)}{y:Str}{c:NS}(j:cells.lookup y=Z c):∀{names:List (Str×GR)} {acc:List (Str×NS)},((y,c)∈acc∨(y,EC)∈names)->(y,c)∈aG cells names acc
 |[],acc,h=>by
  rcases h with h|h
  ·exact h
  ·simp at h
 |(n,k)::r,acc,h=>by
  unfold aG
  by_cases hk:(k==EC)=NQ
  ·rw[if_pos hk];have z:k=.free:=beq_iff_eq.mp hk;subst z
   cases hl:cells.lookup n with
   |none=>
    refine cy j ?_
    rcases h with h|h
    ·exact .inl h
    ·rcases DX.mp h with e|h
     ·cases e;rw[hl]at j;cases j
     ·exact .inr h
   |some c'=>
    refine cy j ?_
    rcases h with h|h
    ·exact .inl (Ee _ h)
    ·rcases DX.mp h with e|h
     ·cases e;rw[hl]at j;cases j;exact .inl Ey
     ·exact .inr h
  ·rw[if_neg hk];refine cy j ?_
   rcases h with h|h
   ·exact .inl h
   ·rcases DX.mp h with e|h
    ·cases e;exact absurd rfl hk
    ·exact .inr h
theorem cr:∀(names:List (Str×GR)) (n:Nat) (acc acc':List (Str×NS)),G5 n names (acc++acc')=G5 n names acc++acc'
 |[],_,_,_=>rfl
 |(x,k)::r,n,acc,acc'=>by
  unfold G5
  by_cases j:(k==FZ)=NQ
  ·rw[if_pos j,if_pos j];exact cr r (n+1) ((x,n)::acc) acc'
  ·rw[if_neg j,if_neg j];exact cr r n acc acc'
theorem cu:∀{names:List (Str×GR)} {n:Nat} {acc:List (Str×NS)} {y:Str} {c:NS},(y,c)∈G5 n names acc->(y,c)∈acc∨(n<=c/\(y,FZ)∈names)
 |[],_,_,_,_,h=>.inl h
 |(x,k)::r,n,acc,y,c,h=>by
  unfold G5 at h
  by_cases hk:(k==FZ)=NQ
  ·rw[if_pos hk]at h;have j:k=.cell:=beq_iff_eq.mp hk;subst j
   rcases cu h with z|⟨B,F⟩
   ·rcases DX.mp z with e|z
    ·cases e;exact .inr ⟨E2 _,Ey⟩
    ·exact .inl z
   ·exact .inr ⟨Nat.le_of_succ_le B,Ee _ F⟩
  ·rw[if_neg hk]at h
   rcases cu h with z|⟨B,F⟩
   ·exact .inl z
   ·exact .inr ⟨B,Ee _ F⟩
structure aO(sc osc:Scope)(oN N':List Str)(fr:List (Option Nat)):Prop where
 kind:sc.kind=.function
 nd:(sc.names.map (·.1)).Nodup
 ndN:N'.Nodup
 free:∀x∈sc.names,x.2=.free->osc.names.lookup x.1=Z .cell∨osc.names.lookup x.1=Z .free
 len:fr.length=N'.length
 fr:∀(i j:Nat) (x:Str),N'[i]?=Z x->fr[i]?=Z (Z j)->oN[j]?=Z x/\(x,EC)∈sc.names
noncomputable def inh(fr:List (Option Nat))(σ:St):St:=fr.map λo=>o.bind λj=>(σ[j]?).join
noncomputable def aP(X:Cx)(sc:Scope)(L:NS):Env:={scope:=relabel sc X.env,locals:=L,globals:=X.env.globals,cells:=G5 (L+1) sc.names (aG X.env.cells sc.names []),qual:=X.env.qual,func:=Y,code:=X.env.code,frame:=X.env.frame,builtins:=X.env.builtins}
noncomputable def aw(X:Cx)(sc:Scope)(N':List Str)(s:q7)(H:Hp)(fp:List NS):Cx:={X with N:=N',s₀:=s,H₀:=H,env:=aP X sc s.heap.objs.size,outer:=X.stack,stack:=X.stack,ex:=fp,fn:=λx=>sc.names.lookup x==Z .cell,pn:=[],xe:=λ_ _=>False}
theorem aF:∀{l:List (Str×GR)} {x:Str} {k:GR},(l.map (·.1)).Nodup->(x,k)∈l->l.lookup x=Z k
 |(y,k')::r,x,k,nd,h=>by
  have nd':(y::r.map (·.1)).Nodup:=nd;obtain⟨z,B⟩:=FN.mp nd';rw[Gv]
  rcases DX.mp h with e|hm
  ·cases e;simp
  ·have j:(x==y)=NR:=by
    refine beq_eq_false_iff_ne.mpr λe=>?_;subst e;exact z (Ej.mpr ⟨(x,k),hm,rfl⟩)
   rw[j];exact aF B hm
theorem bU{env:Env}:∀{names:List (Str×GR)} {x:Str},
 (names.map fun (n,k)=>if(k==EC&&env.scope.kind==.function&&env.kindOf n==Z .cell)then(n,FZ)else(n,k)).lookup x =
   (names.lookup x).map λk=>if(k==EC&&env.scope.kind==.function&&env.kindOf x==Z .cell)then FZ else k
 |[],_=>rfl
 |(n,k)::r,x=>by
  have ih:=bU (env:=env) (names:=r) (x:=x);show List.lookup x ((if(k==EC&&env.scope.kind==.function&&env.kindOf n==Z .cell)=NQ then(n,FZ)else(n,k))::_)=_
  rw[Gv (a:=x) (b:=k)]
  by_cases hx:x=n
  ·subst hx;simp only[beq_self_eq_true];show _=Z (if(k==EC&&env.scope.kind==.function&&env.kindOf x==Z .cell)=NQ then FZ else k)
   by_cases j:(k==EC&&env.scope.kind==.function&&env.kindOf x==Z .cell)=NQ
   ·rw[if_pos j,if_pos j,Gv];simp only[beq_self_eq_true]
   ·rw[if_neg j,if_neg j,Gv];simp only[beq_self_eq_true]
  ·have z:(x==n)=NR:=beq_eq_false_iff_ne.mpr hx;rw[z]
   by_cases j:(k==EC&&env.scope.kind==.function&&env.kindOf n==Z .cell)=NQ
   ·rw[if_pos j,Gv,z];exact ih
   ·rw[if_neg j,Gv,z];exact ih
section
variable{pins:List (NS×Obj)}{σ:St}{H:Hp}{s:q7}{sc:Scope}{N':List Str}{fr:List (Option Nat)}{fp:List NS}
theorem dR(I:Inv X pins σ H s)(B:aO sc X.env.scope X.N N' fr):∀x∈sc.names,x.2=.free->(X.env.cells.lookup x.1).isSome=NQ:=λx hx e=>by obtain⟨c,j⟩:=I.ok.has x.1 (B.free x hx e);rw[j];rfl
theorem pz(I:Inv X pins σ H s)(f2:∀b∈fp,ca X pins H b)(BG:∀b∈fp,b<s.heap.objs.size)(B:aO sc X.env.scope X.N N' fr):
 Inv (aw X sc N' s H fp) [] (inh fr σ) H {s with heap:=Mb (s.heap.push {cls:=.type "dict",data:=.dict #[]}) sc.names}:=by
 have J:∀b o,s.heap.get? b=Z o->(Mb (s.heap.push {cls:=.type "dict",data:=.dict #[]}) sc.names).get? b=Z o:=λb o e=>Ki _ _ b o (i2 _ e);have ok:=cellsFrom_ok sc.names (s.heap.push {cls:=.type "dict",data:=.dict #[]}) (s.heap.objs.size+1) [] ⟨λ_ _ hm=>(nomatch hm),Io⟩ (by rw[Fp];exact E2 _)
 rw[Fp]at ok;have capp:G5 (s.heap.objs.size+1) sc.names (aG X.env.cells sc.names [])=G5 (s.heap.objs.size+1) sc.names []++aG X.env.cells sc.names []:=cr sc.names _ [] _;have cof:∀x c,(aP X sc s.heap.objs.size).cells.lookup x=Z c->((x,c)∈G5 (s.heap.objs.size+1) sc.names []/\s.heap.objs.size<c)∨(X.env.cells.lookup x=Z c/\(x,EC)∈sc.names):=λx c e=>by
  have m:=Fk e;have m':(x,c)∈G5 (s.heap.objs.size+1) sc.names (aG X.env.cells sc.names []):=m;rw[capp]at m'
  rcases Ef.mp m' with z|z
  ·exact .inl ⟨z,(ok.empty x c z).2⟩
  ·rcases cx z with q|q
   ·simp at q
   ·exact .inr q
 have cOld:∀x c,X.env.cells.lookup x=Z c->c<s.heap.objs.size:=λx c e=>by obtain⟨v,q⟩:=I.cell x c e;exact q.lt
 have kindF:∀x,(x,EC)∈sc.names->(aP X sc s.heap.objs.size).kindOf x=Z .cell∨(aP X sc s.heap.objs.size).kindOf x=Z .free:=λx hx=>by
  have e1:sc.names.lookup x=Z .free:=aF B.nd hx;have U:(aP X sc s.heap.objs.size).kindOf x=_:=bU (env:=X.env) (names:=sc.names) (x:=x);rw[e1]at U;rw[U]
  by_cases L:(EC==EC&&X.env.scope.kind==.function&&X.env.kindOf x==Z .cell)=NQ
  ·exact .inl (by simp only[I0,if_pos L])
  ·exact .inr (by simp only[I0,if_neg L])
 have cellF:∀x c,(x,EC)∈sc.names->X.env.cells.lookup x=Z c->(aP X sc s.heap.objs.size).cells.lookup x=Z c:=λx c hx L=>by
  have m:=cy (acc:=[]) L (.inr hx);have m2:(x,c)∈(aP X sc s.heap.objs.size).cells:=by show(x,c)∈G5 (s.heap.objs.size+1) sc.names (aG X.env.cells sc.names []);rw[capp];exact Ed _ m
  cases F:(aP X sc s.heap.objs.size).cells.lookup x with
  |none=>
   exfalso
   have:∀{l:List (Str×NS)},(x,c)∈l->l.lookup x=Y->False:=by
    intro l
    induction l with
    |nil=>intro h;simp at h
    |cons a r ih=>
     intro h e;obtain⟨y,d⟩:=a;rw[Gv]at e
     rcases DX.mp h with z|z
     ·cases z;simp at e
     ·by_cases hxy:(x==y)=NQ
      ·rw[hxy]at e;cases e
      ·simp only[JK]at hxy;rw[hxy]at e;exact ih z e
   exact this m2 F
  |some c'=>
   rcases cof x c' F with⟨z,_⟩|⟨z,_⟩
   ·rcases cu z with q|⟨_,q⟩
    ·simp at q
    ·have a1:=aF B.nd hx;have a2:=aF B.nd q;rw[a1]at a2;cases a2
   ·rw[L]at z;rw[z]
 have kindC:∀x,(aP X sc s.heap.objs.size).kindOf x=Z .cell->(x,FZ)∈sc.names∨(x,EC)∈sc.names:=λx e=>by
  have U:(aP X sc s.heap.objs.size).kindOf x=_:=bU (env:=X.env) (names:=sc.names) (x:=x);rw[U]at e
  cases F:sc.names.lookup x with
  |none=>rw[F]at e;cases e
  |some k=>
   rw[F]at e;have m:=Fk F
   cases k with
   |cell=>exact .inl m
   |free=>exact .inr m
   |«local»=>simp at e
   |globalImplicit=>simp at e
   |globalExplicit=>simp at e
 have kindFr:∀x,(aP X sc s.heap.objs.size).kindOf x=Z .free->(x,EC)∈sc.names:=λx e=>by
  have U:(aP X sc s.heap.objs.size).kindOf x=_:=bU (env:=X.env) (names:=sc.names) (x:=x);rw[U]at e
  cases F:sc.names.lookup x with
  |none=>rw[F]at e;cases e
  |some k=>
   rw[F]at e;have m:=Fk F
   cases k with
   |free=>exact m
   |cell=>simp at e
   |«local»=>simp at e
   |globalImplicit=>simp at e
   |globalExplicit=>simp at e
 refine⟨⟨I.ok.mod,B.kind,I.ok.glob,I.ok.blt,E2 _,λy z c h1 h2=>?_,λy hy=>?_,λy c hf h=>?_,I.ok.hd,I.ok.frames,.inl rfl,λb NP=>⟨?_,λx c e=>?_⟩,λb o e=>I.bs b o e,?_,λb o e NP=>?_,λb NP=>?_,I.stack,I.stkFree⟩,
  rfl,I.bare,Un.kept J,⟨_,(Heap.Ns.new s.heap (.type "dict")).keeps (Ki _ _),λi x v h1 h2 h3=>?_⟩,λy c h=>?_,I.hok.fresh (E2 _),λy c h=>?_,λp hp=>absurd (show p∈([]:List (NS×Obj))from hp) (by simp),I.hok.kept J,?_⟩
 ·rcases cof y c h1 with⟨a1,a2⟩|⟨a1,a2⟩
  ·rcases cof z c h2 with⟨b1,b2⟩|⟨b1,b2⟩
   ·exact name_of_addr ok.apart a1 b1
   ·exact absurd (cOld z c b1) (N2.mpr (H4 a2))
  ·rcases cof z c h2 with⟨b1,b2⟩|⟨b1,b2⟩
   ·exact absurd (cOld y c a1) (N2.mpr (H4 b2))
   ·exact I.ok.inj y z c a1 b1
 ·have BJ:(y,FZ)∈sc.names∨(y,EC)∈sc.names:=by
   rcases hy with hy|hy
   ·exact kindC y hy
   ·exact .inr (kindFr y hy)
  rcases BJ with q|q
  ·exact GI.mp (Ij sc.names _ _ (.inl (aF B.nd q)))
  ·obtain⟨c,L⟩:=GI.mp (dR I B _ q rfl);exact⟨c,cellF y c q L⟩
 ·have BK:(sc.names.lookup y==Z .cell)=NQ:=hf;have BH:sc.names.lookup y=Z .cell:=by simpa using BK
  rcases cof y c h with⟨_,a2⟩|⟨_,a2⟩
  ·exact H4 a2
  ·rw[aF B.nd a2]at BH;cases BH
 ·exact Ep (BG b NP)
 ·rcases cof x c e with⟨_,a2⟩|⟨a1,_⟩
  ·exact F8 (LA (BG b NP) a2)
  ·exact(f2 b NP).2.2.2.2.1 x c a1
 ·exact Fu I.ok.bsz I.sz
 ·obtain⟨f0,f1,f3,f4,f5,f6⟩:=f2 b NP
  rcases f4 with z|z
  ·exact I.ok.noex b o e z
  ·exact absurd (Er (Er (D0 e) I.ok.bsz) z) (EB _)
 ·obtain⟨f0,f1,f3,f4,f5,f6⟩:=f2 b NP;exactλz=>(DX.mp (I.stkSub b z)).elim f1 f3
 ·have hi:∃j,fr[i]?=Z (Z j)/\σ[j]?=Z (Z v):=by
   unfold inh at h2;rw[Em]at h2
   cases e:fr[i]? with
   |none=>rw[e]at h2;cases h2
   |some o=>
    rw[e]at h2
    cases o with
    |none=>cases h2
    |some j=>
     refine⟨j,rfl,?_⟩;have O:Z ((σ[j]?).join)=Z (Z v):=h2
     cases e':σ[j]? with
     |none=>rw[e']at O;cases O
     |some w=>rw[e']at O;cases O;rfl
  obtain⟨j,e1,U⟩:=hi;obtain⟨n1,n2⟩:=B.fr i j x h1 e1;obtain⟨m,hn,F⟩:=I.loc;have hv:Vis X.env.scope x:=.inr (B.free (x,.free) n2 rfl);obtain⟨u,ru,lk⟩:=F j x v n1 U hv;refine⟨u,ru,.inr ⟨kindF x n2,?_⟩⟩
  rcases lk with⟨k1,_⟩|⟨_,c,L,fv⟩
  ·have BI:X.env.scope.names.lookup x=Z .local:=k1
   rcases B.free (x,.free) n2 rfl with z|z
   ·rw[BI]at z;cases z
   ·rw[BI]at z;cases z
  ·exact⟨c,cellF x c n2 L,fv.keeps J⟩
 ·rcases cof y c h with⟨a1,a2⟩|⟨a1,a2⟩
  ·exact⟨_,(ok.empty y c a1).1⟩
  ·obtain⟨v,q⟩:=I.cell y c a1;exact⟨v,q.keeps J⟩
 ·rcases cof y c h with⟨a1,a2⟩|⟨a1,a2⟩
  ·exact I.hok.fresh (H4 a2)
  ·exact I.freeC y c a1
 ·show(inh fr σ).length=N'.length;unfold inh;rw[DY];exact B.len
theorem iM{σ':St}{s':q7}(I:Inv X pins σ H s)(f2:∀b∈fp,ca X pins H b)(J:Inv (aw X sc N' s H fp) [] σ' H' s')(hs:Gi s.heap.objs.size s'.heap h'):
 Inv X pins σ H' {s' with heap:=h'}:=by
 have u:Un (frs X.stack) fp H H' s.heap s'.heap:=J.base;have ne:∀b o,s.heap.get? b=Z o->b≠s.heap.objs.size:=λb o e=>Ep (D0 e);refine I.call' (s':={s' with heap:=h'}) (ch:=fp) J.os ⟨λb o e n j hx=>?_,λb o e n j hx=>?_,u.free,λb o e hx=>?_,u.tups,u.frzs,u.tbls⟩ (λb v e=>?_) J.bare λb j=>?_
 ·exact(hs.2 b (ne b o e)).trans (u.keep b o e n j hx)
 ·obtain⟨sl,q⟩:=u.slot b o e n j hx;exact⟨sl,(hs.2 b (ne b o e)).trans q⟩
 ·obtain⟨o',q⟩:=u.there b o e hx;exact⟨o',(hs.2 b (ne b o e)).trans q⟩
 ·refine(J.hok b v e).stay (λc w F q=>(hs.2 c ?_).trans q) (λ_ q=>q) λ_ _ q=>q;have fr:H' s.heap.objs.size=Y:=J.free
  rcases F with z|z
  ·rw[z];intro B;rw[B,fr]at e;cases e
  ·intro B;rw[B,fr]at z;cases z
 ·obtain⟨f0,f1,U,f4,L,O⟩:=f2 b j;exact⟨f4,f1,L,O⟩
theorem ji {Q:Env->q7->Prop}{E:gV->q7->Prop}{M:IC}{A:ED}(h:Q {scope:=sc,locals:=s.heap.objs.size,globals:=X.env.globals,cells:=G5 (s.heap.objs.size+1) sc.names (aG X.env.cells sc.names []),qual:=X.env.qual,func:=Y,code:=X.env.code,frame:=X.env.frame,builtins:=X.env.builtins}
   {s with heap:=Mb (s.heap.push {cls:=.type "dict",data:=.dict #[]}) sc.names}):
 DU M A (Kw sc X.env.globals (aG X.env.cells sc.names []) [] X.env.qual Y .none (Z X.env)) Q E s:=by
 simp only[Kw,Lg,if_true];refine b3 (wpAny_alloc ?_);refine b3 (wpAny_layCells _ (λname kind cells=>by cases hkc:kind==FZ<;>simp[hkc]) _ _ _ _ ?_)
 rw[show({s with heap:=s.heap.push {cls:=.type "dict",data:=.dict #[]}}:q7).heap.objs.size=s.heap.objs.size+1 from Fp ..]
 exact b3 (r4 (r4 h))
theorem jT(hc:X.calm=NQ){rest:List ET}{E:gV->q7->Prop}(hx:∀e s,X.xe e s->False)(B:aO sc X.env.scope X.N N' fr)(ha:∀g',rest[0]?=Z g'->g'.is_async=0)(hi:PI X target iter wi){tb:NS->TC}(hg:∀s H fp,PG (aw X sc N' s H fp) target g)(j:∀s H fp p,PB (aw X sc N' s H fp) (λk=>aV ifs (aw X sc N' s H fp).env>>=λok=>if ok=NQ then aN elt (⟨target,iter,ifs,0⟩::rest) sc pos 0 (.ref p) (aw X sc N' s H fp).env k else k) (tb p)){Nn:NS->St->Hp->Prop}{RR:gV->NS->Kr->q7->Prop}(I:Inv X pins σ H s)(h:wi σ H λJ H1=>∀p,H1 p=Y->bT J g (tb p) (Nn p) (inh fr σ) (upd H1 p (.lst [])))(hR:∀p fp s3 U s' σ' H' f,Inv X pins σ U s3->(∀b∈fp,ca X pins U b)->Inv (aw X sc N' s3 U fp) [] σ' H' s'->Nn p σ' H'->RR (.ref p) s3.heap.objs.size (.ok f) s'):
 DU (model X.prog X.w) X.A (eval iter X.env) (λx s₁=>DU (model X.prog X.w) X.A (JC x) (λit s₂=>DU (model X.prog X.w) X.A (newList []) (λacc s₃=>
  DU (model X.prog X.w) X.A (Kw sc X.env.globals (aG X.env.cells sc.names []) [] X.env.qual Y .none (Z X.env)) (λcenv s₄=>Gj (model X.prog X.w) X.A (.compStart (.ListComp elt (⟨target,iter,ifs,0⟩::rest) sc pos) 0 it acc {cenv with scope:=relabel sc X.env}) (RR acc cenv.locals) s₄) E s₃) E s₂) E s₁) E s:=by
 refine nox hx (thn (hi pins s σ H _ I h) λv s1 h1=>nox hx (thn h1 λitv s2 h2=>?_));obtain⟨it,fp,tn,J,H2,e,I2,T,F,f2,hw⟩:=h2;subst e;have hf:H2 s2.heap.objs.size=Y:=I2.hok.fresh (E2 _);refine IV ?_;have I3:Inv X pins σ (upd H2 s2.heap.objs.size (.lst [])) {s2 with heap:=s2.heap.push {cls:=.type "list",dict:=Y,data:=.seq ([]:List gV).toArray}}:=I2.laid (t':=s2.toks) (λb u e=>i2 _ e) (E2 _) ⟨ER _,[],0,.nil,DW _ rfl⟩
 have fneq:∀b∈fp,b≠s2.heap.objs.size:=λb j z=>by obtain⟨o,e,_⟩:=T.obj _ _ F b j;exact absurd (D0 e) (by rw[z];exact EB _)
 have NP:∀b∈fp,ca X pins (upd H2 s2.heap.objs.size (.lst [])) b:=λb j=>⟨by rw[aj (fneq b j)];exact(f2 b j).1,(f2 b j).2⟩
 have fv:∀b∈fp,b<(s2.heap.push {cls:=.type "list",dict:=Y,data:=.seq ([]:List gV).toArray}).objs.size:=λb j=>by obtain⟨o,e,_⟩:=T.obj _ _ F b j;rw[Fp];exact Hu (D0 e)
 have BG:tn 0 (s2.heap.push {cls:=.type "list",dict:=Y,data:=.seq ([]:List gV).toArray}):=T.keep _ _ _ F λb _ o e=>i2 _ e;refine ji ?_;have O:=pz (N':=N') I3 NP fv B;have L:=T.keep _ (h':=Mb (({s2 with heap:=s2.heap.push {cls:=.type "list",dict:=Y,data:=.seq ([]:List gV).toArray}}:q7).heap.push {cls:=.type "dict",data:=.dict #[]}) sc.names) _ BG λb _ o e=>Ki _ _ b o (i2 _ e)
 have f4:∀b∈fp,ca (aw X sc N' {s2 with heap:=s2.heap.push {cls:=.type "list",dict:=Y,data:=.seq ([]:List gV).toArray}} (upd H2 s2.heap.objs.size (.lst [])) fp) [] (upd H2 s2.heap.objs.size (.lst [])) b:=λb j=>⟨(NP b j).1,(O.ok.exf b j).1,O.ok.exfs b j,.inl j,(O.ok.exf b j).2,λp hp=>absurd (show p∈([]:List (NS×Obj))from hp) (by simp)⟩
 have loop:=iK (X:=aw X sc N' {s2 with heap:=s2.heap.push {cls:=.type "list",dict:=Y,data:=.seq ([]:List gV).toArray}} (upd H2 s2.heap.objs.size (.lst [])) fp) (λ_ _ z=>z) hc
  (elt:=elt) (pos:=pos) (scope:=sc) (gens:=⟨target,iter,ifs,0⟩::rest) (d:=0) (acc:=.ref s2.heap.objs.size) rfl (λg' e=>ha g' (by simpa using e)) (hg _ _ _) (j _ _ _ _) O T L f4 (hw _ hf)
 refine FY (gv (R:=λr s'=>match r with|.ok _=>∃σ' H',Inv (aw X sc N' {s2 with heap:=s2.heap.push {cls:=.type "list",dict:=Y,data:=.seq ([]:List gV).toArray}} (upd H2 s2.heap.objs.size (.lst [])) fp) [] σ' H' s'/\Nn s2.heap.objs.size σ' H'|.error _=>False)
  (gens:=⟨target,iter,ifs,0⟩::rest) (d:=0) rfl loop (T.self _ 0 _ _ _ L loop)) λr s5 hr=>?_
 cases r with
 |error e=>exact hr.elim
 |ok f=>obtain⟨σ5,H5,I5,n5⟩:=hr;exact hR _ fp _ _ s5 σ5 H5 f I3 NP I5 n5
noncomputable def nD(wi:TI)(g:TG)(tb:NS->TC)(fr:List (Option Nat)):TE:=λσ H Q=>wi σ H λJ H1=>∀p,H1 p=Y->bT J g (tb p) (λ_ H2=>Q (.ref p) H2) (inh fr σ) (upd H1 p (.lst []))
theorem iN(B:aO sc X.env.scope X.N N' fr):∀x∈sc.names,x.2=.local->sc.names.lookup x.1=Z .local:=λx hx e=>by obtain⟨n,k⟩:=x;have e':k=.local:=e;subst e';exact aF B.nd hx
theorem fC(z:X.calm=NQ){rest:List ET}(hx:∀e s,X.xe e s->False)(B:aO sc X.env.scope X.N N' fr)(F:∀g',rest[0]?=Z g'->g'.is_async=0)(hi:PI X target iter wi){tb:NS->TC}(L:∀s H fp,PG (aw X sc N' s H fp) target g)(O:∀s H fp p,PB (aw X sc N' s H fp) (λk=>aV ifs (aw X sc N' s H fp).env>>=λok=>if ok=NQ then aN elt (⟨target,iter,ifs,0⟩::rest) sc pos 0 (.ref p) (aw X sc N' s H fp).env k else k) (tb p))(hs:∀x,G3 iter X.env x=pure x):
 PE X (.ListComp elt (⟨target,iter,ifs,0⟩::rest) sc pos) (nD wi g tb fr):=by
 intro pins s σ H Q I h;rw[eval_ListComp];refine JE (use:=Y) rfl hs (gw (dR I B)) B.kind (iN B) (jT (Nn:=λp _ H2=>Q (.ref p) H2) (RR:=λacc C=>compPost (model X.prog X.w) X.A X.xe Y (EP X pins σ Q) acc C) z hx B F hi L O I h ?_);intro p fp s3 H3 s' σ' H' f U NP J q;obtain⟨m,fv,_⟩:=J.loc;exact⟨m,fv,λh' j=>⟨.ref p,H',iM U NP J j,rfl,q⟩⟩
theorem gx(hc:X.calm=NQ){rest:List ET}{pos' spos:Pos}{x:Str}{i:Nat}(hx:∀e s,X.xe e s->False)(B:aO sc X.env.scope X.N N' fr)(ha:∀g',rest[0]?=Z g'->g'.is_async=0)(hi:PI X target iter wi){tb:NS->TC}(hg:∀s H fp,PG (aw X sc N' s H fp) target g)(F:∀s H fp p,PB (aw X sc N' s H fp) (λk=>aV ifs (aw X sc N' s H fp).env>>=λok=>if ok=NQ then aN elt (⟨target,iter,ifs,0⟩::rest) sc pos 0 (.ref p) (aw X sc N' s H fp).env k else k) (tb p))(hs:∀x,G3 iter X.env x=pure x)(L:PG X (.Name x pos') (gh i))(O:Ig (.ListComp elt (⟨target,iter,ifs,0⟩::rest) sc pos) (Z (.Name x pos')) spos.line X.env=pure NQ):
 PS X (.Assign [.Name x pos'] (.ListComp elt (⟨target,iter,ifs,0⟩::rest) sc pos) spos) (nn (nD wi g tb fr) (gh i)):=by
 intro pins s σ H D I h;rw[exec_Assign_Name_used _ _ _ _ O];refine b3 (HR (b3 ?_));show DU _ X.A (do let _ <-comprehension (.ListComp elt (⟨target,iter,ifs,0⟩::rest) sc pos) sc X.env _ (newList []) NR (eval iter X.env) (Z (assign (.Name x pos') X.env))) _ _ s
 refine b3 (F2 (JE (use:=Z (assign (.Name x pos') X.env)) (Q:=λ_ s'=>SP X pins D .next s') rfl hs (gw (dR I B)) B.kind (iN B)
  (jT (Nn:=λp _ H2=>D.nx (σ.set i (Z (.ref p))) H2) (RR:=λacc C=>compPost (model X.prog X.w) X.A X.xe (Z (assign (.Name x pos') X.env)) (λ_ s'=>SP X pins D .next s') acc C) hc hx B ha hi hg F I h ?_)) (λ_ s' hq=>r4 (r4 hq)) λ_ _ e=>e)
 intro p fp s3 H3 s' σ' H' f j f3 J q;obtain⟨m,⟨o,es,ep,ho,hd,hk,hm⟩,_⟩:=J.loc;have I4:Inv X pins σ H' s':=iM (h':=s'.heap) j f3 J ⟨rfl,λ_ _=>rfl⟩;have hL:(aw X sc N' s3 H3 fp).env.locals=s3.heap.objs.size:=rfl;rw[hL]at ho;have U:H' s3.heap.objs.size=Y:=J.free;have neL:s3.heap.objs.size≠X.env.locals:=F8 j.lt;have nfs:s3.heap.objs.size∉X.fs:=j.nofs (E2 _);have I5:Inv X (pins++[(s3.heap.objs.size,o)]) σ H' s':=I4.pins_of λpr NP=>by
  rcases Ef.mp NP with z|z
  ·exact I4.pin pr (Ed _ z)
  ·have e:pr=(s3.heap.objs.size,o):=by simpa using z
   subst e;exact⟨ho,U,neL,nfs,λv z=>by rw[hd]at z;cases z⟩
 show DU _ X.A (assign (.Name x pos') X.env (.ref p)) _ _ _;refine thn (L _ s' σ H' (.ref p) (.ref p) D.nx I5 rfl q) λ_ s6 g9=>?_;obtain⟨σ6,H6,I6,q6⟩:=g9;obtain⟨fv,BG,_⟩:=I6.pin (s3.heap.objs.size,o) (Ed _ (Ed _ (by simp)))
 refine⟨m,⟨o,es,ep,fv,hd,hk,hm⟩,λh' BH=>⟨σ6,H6,?_,q6⟩⟩;refine(I6.unpinned).turned (t':=s6.toks) (it:=s3.heap.objs.size) (λb o F e=>(BH.2 b F).trans e) BG neL (.inr j.sz) (λy c e z=>?_) λpr NP z=>?_
 ·obtain⟨v,q⟩:=j.cell y c e;exact absurd q.lt (by rw[z];exact EB _)
 ·exact absurd (D0 (j.pin pr NP).1) (by rw[z];exact EB _)
end
end
end
section
open PySem.W (CodeHd tabObj kla_fn kla_obj)
noncomputable def fzO(a:NS)(o:Obj):HO:=.frz o (.ext λh=>h.get? a=Z o)
def zV(H:Hp)(P:NS)(pos:Pos)(q:Str):Prop:=∃ps,H P=Z (.tbl ps)/\(ps=#[]∨∃c' oc vs t,ps=#[HJ pos.line,HJ pos.col,.ref c']/\H c'=Z (fzO c' oc)/\oc.data=.fields vs/\vs[1]?=Z (.str q t))
def zW(mg:Str->Option gV)(base:Heap):Prop:=∃bm ob,mg "__builtins__"=Z (.ref bm)/\bm≠JY/\base.get? bm=Z ob/\ob.cls=.type "module"/\ob.dict=Z JY/\ob.data=.plain
open PySem.W (envX)
structure yK(P:Eg)(w:Ez)(K:Frag)(mg:Str->Option gV)(base:Heap)(k:Nat)(fs:List NS)(a:NS)(sp:Sp)(H:Hp)(h:Heap):Prop where
 fn:∃o fd,H a=Z (fzO a o)/\o.data=.func fd
 run:∀(A:ED) (outer:List Env) (s1:q7) (H1:Hp) (u1 u2:gV) (v1 v2:V) (Q:VK),Un fs [] H H1 h s1.heap->Room k A->i3 P w K mg base A outer s1 H1->RelV v1 u1->RelV v2 u2->sp [v1,v2] H1 Q E0->
  Gj (model P w) A (.call (.ref a) ⟨[u1,u2],[]⟩) (CR CX0 outer P w H1 s1 Q E0) s1
structure yL(P:Eg)(w:Ez)(K:Frag)(mg:Str->Option gV)(base:Heap)(k:Nat)(f:NS)(fd:Hi)(ps:List Str)(sp:List Env->q7->Sp):Prop where
 len:∀o s vs H Q E,sp o s vs H Q E->vs.length=ps.length
 run:∀(A:ED) (outer:List Env) (s:q7) (H:Hp) (args:Args) (us:List gV) (vs:List V) (Q:VK) (E:XK),Room k A->i3 P w K mg base A outer s H->KP s fd args (ps.zip us)->Vals vs us->sp outer s vs H Q E->
  Gj (model P w) A (.call (.ref f) args) (CR CX0 outer P w H s Q E) s
end
namespace Zp
end Zp
namespace Zp
end Zp
namespace En
end En
namespace Rv
theorem m8:mroOf (.type "reversed")=pure [.type "reversed",.type "object"]:=by rw[mroOf_type];kernel_rfl
theorem rK:Lf (.type "reversed") "__new__"=pure (Z (.builtin "reversed.__new__")):=by rw[Gb,F6];kernel_rfl
theorem rL:Bind.madeBy (.type "reversed")=pure (Z "reversed.__new__"):=madeBy_type m8 rK (by decide +kernel)
theorem uN:isSubtype (.type "list_reverseiterator") (.type "reversed")=pure NR:=by rw[Fq];kernel_rfl
theorem uO:isSubtype (.type "reversed") (.type "reversed")=pure NQ:=by rw[Fq];kernel_rfl
theorem pA:JL table "reversed.__new__"=Z Fc.«reversed.__new__»:=IK (by kernel_rfl)
theorem uP(a:gV):checkTypeCall "reversed" ⟨[a],[]⟩=pure ():=by kernel_rfl
theorem rM(a:gV):JM "reversed.__new__" ⟨[.type "reversed",a],[]⟩=pure ():=by kernel_rfl
theorem uQ:((Manifest.find? "reversed").bind (·.mro.findSome? λt=>(Manifest.find? t).bind λb=>if b.noNew then Z NQ else if b.attrs.any (·.1=="__new__")then Z NR else Y)).getD NR=NR:=by decide +kernel
theorem pB:plainId "reversed.__new__"=NQ:=by decide +kernel
noncomputable def rO(l:NS)(i:Int):Obj:={cls:=.type "list_reverseiterator",data:=.fields #[.ref l,HJ i]}
theorem pC(l:NS)(items:Array gV)(n:Nat)(d:Option NS)(sl:Array (Option gV)):
 Meets (Fc.«list.__reversed__» ⟨[.ref l],[]⟩) (λ_ R s=>s.heap.get? l=Z {cls:=.type "list",dict:=d,data:=.seq items n,slots:=sl}/\R (.ok (.ret (.ref s.heap.objs.size))) {s with heap:=s.heap.push (rO l ((items.size:Nat)-1))}):=
 .of_wp λprog w A R s h=>by obtain⟨j,g,d,tk,os⟩:=s;obtain⟨z,h⟩:=h;wp_walk;exact⟨_,rfl,h⟩
variable{l it:NS}{n:Nat}
section
variable{prog:Eg}{w:Ez}{A:ED}{E:gV->q7->Prop}{s:q7}
theorem yM{items:Array gV}{dd:Option NS}{sl:Array (Option gV)}{R:Kr->q7->Prop}(j:s.heap.get? l=Z {cls:=.type "list",dict:=dd,data:=.seq items n,slots:=sl})(q:R (.ok (.ret (.ref s.heap.objs.size))) {s with heap:=s.heap.push (rO l ((items.size:Nat)-1))}):DU (model prog w) A.in1 (Fc.«reversed.__new__» ⟨[.type "reversed",.ref l],[]⟩) (λfin s'=>match fin with|.done f=>R (.ok f) s'|.again c'=>c'.quiet=NQ/\Gj (model prog w) A c' R s') (λe s'=>R (.error e) s') s:=by
 have h1:=uO;have h2:s.TypeIs (.ref l) "list":=⟨_,j,rfl⟩;have J:=F.slot_list_reversed.lookup;have L:=F.slot_list_reversed.bind (.ref l);unfold Fc.«reversed.__new__»
 repeat (any_goals (first|assumption|wp_step))
 have z:Gj (model prog w) A.in1 (.call (.builtin "list.__reversed__") ⟨[.ref l],[]⟩) (λr s'=>r=.ok (.ret (.ref s.heap.objs.size))/\s'={s with heap:=s.heap.push (rO l ((items.size:Nat)-1))}) s:=Hz F.slot_list_reversed.plain F.entry_list_reversed (F.slot_list_reversed.check _ _ _ _ _ _ _ _ h2 (F.args_list_reversed_1 _) (pC l items n dd sl prog w A.in1 (λr s'=>r=.ok (.ret (.ref s.heap.objs.size))/\s'={s with heap:=s.heap.push (rO l ((items.size:Nat)-1))}) s ⟨j,rfl,rfl⟩))
 refine FY z λr s1 B=>?_;obtain⟨rfl,rfl⟩:=B;exact r4 q
theorem call_rev{items:Array gV}{dd:Option NS}{sl:Array (Option gV)}{Q:gV->q7->Prop}(J:s.heap.get? l=Z {cls:=.type "list",dict:=dd,data:=.seq items n,slots:=sl})(q:Q (.ref s.heap.objs.size) {s with heap:=s.heap.push (rO l ((items.size:Nat)-1))}):DU (model prog w) A (call (.type "reversed") [.ref l]) Q E s:=by
 have z:=m8;have j:=rL;have B:=uN;have h1:(EG "reversed"==EG "type")=NR:=by decide
 have h2:=uQ;have L:=uP (.ref l);refine Ld (J6 ?_);show DU _ _ (callAny (.type "reversed") _) _ _ _;refine r4 ⟨Ie _ (by decide +kernel),Fi LB ?_⟩
 rw[Jl (Kl "reversed" [.ref l] []) (units_type_call_type "reversed" [.ref l] [])]
 repeat (any_goals (first|assumption|wp_step))
 have O:Gj (model prog w) A.in1 (.call (.builtin "reversed.__new__") ⟨[.type "reversed",.ref l],[]⟩) (λr s'=>r=.ok (.ret (.ref s.heap.objs.size))/\s'={s with heap:=s.heap.push (rO l ((items.size:Nat)-1))}) s:=Hz pB pA (GG (rM _) (yM (R:=λr s'=>r=.ok (.ret (.ref s.heap.objs.size))/\s'={s with heap:=s.heap.push (rO l ((items.size:Nat)-1))}) J ⟨rfl,rfl⟩))
 refine FY O λr s1 U=>?_;obtain⟨rfl,rfl⟩:=U;have NP:JF {s with heap:=s.heap.push (rO l ((items.size:Nat)-1))} (.ref s.heap.objs.size) "list_reverseiterator":=⟨_,DW _ rfl,rfl⟩
 repeat (any_goals (first|assumption|wp_step))
theorem slot_next:Slot "list_reverseiterator" "__next__" "list_reverseiterator.__next__":=.of (owner:="list_reverseiterator") (n:="__next__") (by rw[Gb,F6];kernel_rfl) (by decide +kernel) (by decide +kernel) (by decide +kernel) (.inl (by decide +kernel)) (by rw[Fq];kernel_rfl)
theorem iP:Slot "list_reverseiterator" "__iter__" "list_reverseiterator.__iter__":=.of (owner:="list_reverseiterator") (n:="__iter__") (by rw[Gb,F6];kernel_rfl) (by decide +kernel) (by decide +kernel) (by decide +kernel) (.inl (by decide +kernel)) (by rw[Fq];kernel_rfl)
theorem bw:JL table "list_reverseiterator.__next__"=Z Fc.«list_reverseiterator.__next__»:=IK (by kernel_rfl)
theorem nE:JL table "list_reverseiterator.__iter__"=Z Fc.«dict_keyiterator.__iter__»:=Kx (id':="dict_keyiterator.__iter__") (by kernel_rfl) (by first|rfl|decide +kernel|(unfold String.splitOn;simp +decide [String.splitOnAux])) (by decide +kernel) (by kernel_rfl)
theorem bN(a:gV):Ka "list_reverseiterator.__next__" ⟨[a],[]⟩:=by unfold Ka;kernel_rfl
theorem pD(a:gV):Ka "list_reverseiterator.__iter__" ⟨[a],[]⟩:=by unfold Ka;kernel_rfl
theorem yN:Lf (.type "list_reverseiterator") "__len__"=pure Y:=by rw[Gb,F6];kernel_rfl
theorem ax:Lf (.type "list_reverseiterator") "__length_hint__"=pure (Z (.builtin "list_reverseiterator.__length_hint__")):=by rw[Gb,F6];kernel_rfl
theorem uR{i:Nat}{xs:Array gV}{x:gV}{Q:Option gV->q7->Prop}(hi:s.heap.get? it=Z (rO l i))(B:s.heap.IsList l xs)(hx:xs[i]?=Z x)(q:∀h',h'.get? it=Z (rO l ((i:Int)-1))->Gi it s.heap h'->Q (Z x) {s with heap:=h'}):DU (model prog w) A (GH (.ref it)) Q E s:=by
 have ty:s.TypeIs (.ref it) "list_reverseiterator":=⟨_,hi,rfl⟩;obtain⟨oq,j,_,nq,z⟩:=B;unfold GH;refine b3 (Ho (EO (name:=F9 "__next__") ty slot_next (EH slot_next ty bw ?_ (bN _))));refine b3 (m:=field (.ref it) 1) (Gs hi rfl (x:=.int i 0) rfl ?_);dsimp only;rw[if_neg (show ¬((i:Int)<0) by lia)]
 refine b3 (m:=field (.ref it) 0) (Gs hi rfl (x:=.ref l) rfl ?_);refine b3 (m:=seqItems? (.ref l)) (Jm j z ?_);simp only[G6,hx];refine b3 (EM hi (by simp) λh' e' s'=>r4 ⟨x,rfl,r4 (q h' e' s')⟩)
theorem jU{Q:Option gV->q7->Prop}(j:A.handled=Y)(hi:s.heap.get? it=Z (rO l (-1)))(q:∀h',(∀b o,s.heap.get? b=Z o->h'.get? b=Z o)->Q Y {s with heap:=h'}):DU (model prog w) A (GH (.ref it)) Q E s:=by
 have ty:s.TypeIs (.ref it) "list_reverseiterator":=⟨_,hi,rfl⟩;unfold GH;refine b3 (Ho (EO (name:=F9 "__next__") ty slot_next (EH slot_next ty bw ?_ (bN _))));refine b3 (m:=field (.ref it) 1) (Gs hi rfl (x:=.int (-1) 0) rfl ?_);dsimp only;rw[if_pos (show(-1:Int)<0 by lia)]
 refine b3 (Ha (b3 ?_));unfold Builtin.SmallTypes.stopIteration;refine b3 (m:=N3 (.type "StopIteration") []) ?_;simp only[N3,newTuple];refine b3 (EX ?_ (by size_fits))
 refine b3 (m:=HA _ _) (GG (a:=FU) (by first|rfl|(simp only[HA];rfl)) (EX ?_ (by size_fits)))
 simp only[raiseNew];refine b3 (L5 ?_)
 first|rw[show A.in1.handled=Y from j]|rw[j]
 refine b3 (r4 (Mv ?_));exact b3 (GX (T:="StopIteration") (b:=NQ) ⟨_,DW _ rfl,rfl⟩ Kz (r4 (q _ λb o e=>i2 _ (i2 _ e))))
theorem uS{i:Int}{Q:gV->q7->Prop}(hi:s.heap.get? it=Z (rO l i))(h:Q (.ref it) s):DU (model prog w) A (JC (.ref it)) Q E s:=by have ty:s.TypeIs (.ref it) "list_reverseiterator":=⟨_,hi,rfl⟩;refine Iq ty iP (EH iP ty nE ?_ (pD _));exact r4 ⟨_,rfl,"list_reverseiterator",_,ty,slot_next.lookup,h⟩
theorem walk(hn:A.handled=Y)(it l:NS)(hne:l≠it)(xs:Array gV):
 Walks prog w A it [it,l] [it] xs.size (λi v=>xs[xs.size-1-i]?=Z v) (λi h=>h.get? it=Z (rO l ((xs.size:Int)-1-i))/\h.IsList l xs) where
 sub:=λb hb=>by simp at hb;simp[hb]
 frame:=λ_ _ _ st k=>⟨k it (by simp) _ st.1,st.2.at λo e=>k l (by simp) o e⟩
 item:=λi s Q E hi st q=>by
  have e:(xs.size:Int)-1-i=((xs.size-1-i:Nat):Int):=∅
  have e2:(xs.size:Int)-1-((i+1:Nat):Int)=((xs.size-1-i:Nat):Int)-1:=∅
  refine uR (i:=xs.size-1-i) (x:=xs[xs.size-1-i]) (by rw[<-e];exact st.1) st.2 (by simp) λh' e' s'=>?_
  exact q _ h' s.toks (by simp) ⟨by rw[e2];exact e',st.2.extBut s'.extBut hne⟩ λb o hb x=>s'.extBut b o (λz=>hb (by simp[z])) x
 done:=λs Q E st q=>by
  have e:(xs.size:Int)-1-(xs.size:Nat) = -1:=∅
  exact jU hn (by rw[<-e];exact st.1) λh' k=>q h' s.toks λb o _ x=>k b o x
 self:=λi s Q E st q=>uS st.1 q
open Builtin.List in
theorem yO{S:NS}{fp wr:List NS}{G:Array Ko->Array Ko->Prop}{P:Nat->gV->Prop}{St:Nat->q7->Prop}{R:Kr->q7->Prop}(W:WalksS prog w A.in1 it fp wr G n P St)(J:∀i s,St i s->s.TypeIs (.ref it) "list_reverseiterator")(res:gV){c:Nat}(st:St 0 s)(z:S∉fp)(O:it∈fp)(U:s.heap.get? S=Z {cls:=.type "list",data:=.seq #[] c})(NP:n<=D2)(q:∀s' acc' c',Moved (S::wr) G s s'->s'.heap.get? S=Z {cls:=.type "list",dict:=Y,data:=.seq acc' c',slots:=#[]}->ItemsOf P acc' n->R (.ok (.ret res)) s'):
 DU (model prog w) A.in1 (listExtendWith (.ref S) (.ref it) res) (λfin s'=>match fin with|.done f=>R (.ok f) s'|.again c'=>c'.quiet=NQ/\Gj (model prog w) A c' R s') (λe s'=>R (.error e) s') s:=by
 have L:S≠it:=λe=>z (e▸O);have h1:listSameRef (.ref S) (.ref it)=NR:=by simp[listSameRef,L]
 unfold listExtendWith;refine b3 (GF (J 0 _ st) ?_);rw[if_neg (by rw[h1];decide)]
 refine b3 (W.self 0 _ _ _ st (b3 (ES ?_)));unfold listLengthHint;refine b3 (I8 (J 0 _ st) yN ?_);refine b3 (m:=specialOf (Eb it) (F9 "__length_hint__")) (I8 (J 0 _ st) ax ?_);generalize j:("list_reverseiterator.__length_hint__":String)=B
 (fail_if_success (clear j B));wp_delta
 rw[show splitId B=Z ("list_reverseiterator","__length_hint__")from by subst j;decide +kernel]
 subst j;refine b3 (GX (b:=NQ) (J 0 _ st) (by rw[Fq];kernel_rfl) (r4 ?_))
 rw[if_neg (by decide)]
 exact r4 ⟨HW HK _,KA W NP _ z _ n 0 _ _ _ rfl (ER _) st U (ItemsOf.nil P) q⟩
theorem list_of{xs:Array gV}{Q:gV->q7->Prop}(hn:A.handled=Y)(O:l≠it)(hi:s.heap.get? it=Z (rO l ((xs.size:Int)-1)))(hl:s.heap.IsList l xs)(hz:xs.size<=D2)(q:∀h' tk acc c',(∀b o,b≠it->s.heap.get? b=Z o->h'.get? b=Z o)->h'.get? s.heap.objs.size=Z {cls:=.type "list",dict:=Y,data:=.seq acc c',slots:=#[]}->acc=xs.reverse->Q (.ref s.heap.objs.size) {s with heap:=h',toks:=tk}):
 DU (model prog w) A (call (.type "list") [.ref it]) Q E s:=by
 have W:=(walk (prog:=prog) (w:=w) (A:=A.in1.in1) hn it l O xs).toS;have B:s.heap.objs.size∉[it,l]:=λhm=>by
  simp only[DX,EU,or_false]at hm
  rcases hm with e|e
  ·exact absurd (e▸D0 hi) (EB _)
  ·obtain⟨o,ho,_⟩:=hl;exact absurd (e▸D0 ho) (EB _)
 have U:s.heap.get? it=Z (rO l ((xs.size:Int)-1-(0:Nat)))/\s.heap.IsList l xs:=⟨by simpa using hi,hl⟩
 refine callType_codes (Q₁:=λobj s₁=>obj=.ref s.heap.objs.size/\s₁={s with heap:=s.heap.push {cls:=.type "list",data:=.seq #[]}}) F.called_list (F.typeCall_list_1 _) F.entry_list_init (code_list_new _ ⟨rfl,rfl⟩) λobj s₁ h₁=>?_
 obtain⟨rfl,rfl⟩:=h₁;have L:(s.heap.push {cls:=.type "list",data:=.seq #[]}).get? s.heap.objs.size=Z {cls:=.type "list",data:=.seq #[]}:=DW _ rfl;refine⟨⟨_,L,rfl⟩,F.args_list_init_2 _ _,?_⟩;show DU _ _ (do let old <-Kb (.ref s.heap.objs.size);Builtin.List.listUpdate (.ref s.heap.objs.size) (λ_=>#[]);letGo old.toList.reverse;Builtin.List.listExtendWith (.ref s.heap.objs.size) (.ref it) .none) _ _ _
 refine b3 ?_;unfold Kb;refine b3 (Jm L rfl (r4 (b3 (m:=updateSeq s.heap.objs.size (λ_=>#[])) (wpAny_updateSeq L rfl (b3 (wpAny_letGo ?_))))));have NP:=Hq (Fl (λ_=>(#[]:Array gV))) L rfl;have oth:∀b o,b≠s.heap.objs.size->(s.heap.push {cls:=.type "list",data:=.seq #[]}).get? b=Z o->((s.heap.push {cls:=.type "list",data:=.seq #[]}).update s.heap.objs.size (Fl (λ_=>(#[]:Array gV)))).get? b=Z o:=λb o J e=>(Il _ _ (Ne.symm J)).trans e;have fv:=W.frame 0 s _ s.toks U (E2 _) λb J o e=>oth b o (λz=>B (z▸J)) (i2 _ e);refine yO W (λi s st=>⟨_,st.1,rfl⟩) .none fv B (by simp) NP hz λs' acc c' hm BG ha=>?_
 refine⟨rfl,?_⟩;have BH:=hm.eq_with;rw[BH];refine q _ _ acc c' (λb o J e=>?_) BG ?_
 ·exact hm.heap b o (fun z=>by
   simp only[DX,EU,or_false]at z
   rcases z with z|z
   ·exact absurd (z▸D0 e) (EB _)
   ·exact J z) (oth b o (λz=>absurd (z▸D0 e) (EB _)) (i2 _ e))
 ·obtain⟨h1,h2⟩:=ha;apply Array.ext (by simp[h1])
  intro j j1 j2;have e1:xs[xs.size-1-j]?=Z acc[j]:=h2 j acc[j] (DV j1);rw[Array.getElem_reverse];have e3:xs[xs.size-1-j]?=Z (xs[xs.size-1-j]'∅):=DV ∅
  rw[e3]at e1;exact(Fn.inj e1).symm
end
end Rv
section
variable{X:Cx}
theorem uT{e:Expr}{te:TE}{p p2 j:Pos}(hc:X.calm=NQ)(he:PE X e te)(hg:Gl X "list")(hm:X.mg "list"=Y)(F:Gl X "reversed")(J:X.mg "reversed"=Y)(hs:EA [e] X.env=[(NR,eval e X.env)]):
 PE X (.Call (.Name "list" p) [.Call (.Name "reversed" p2) [e] [] j] [] pos) (λσ H Q=>te σ H λx H1=>∃a xs,x=.ref a/\SqL X.K H1 a xs/\∀q,H1 q=Y->Q (.ref q) (upd H1 q (.lst xs.reverse))):=by
 intro pins s σ H Q I h;refine Fe (bR I hg hm (u:=.type "list") (by decide +kernel) ?_ (by decide) (by decide))
 refine FF ?_ rfl rfl;refine Fz ?_;refine Fe (bR I F J (u:=.type "reversed") boot_reversed ?_ (by decide) (by decide))
 refine FF ?_ (by rw[hs];rfl) rfl
 rw[hs];refine Fz (thn (he pins s σ H _ I h) λu s1 g9=>?_);obtain⟨x,H1,L,r1,q1⟩:=g9;obtain⟨a,xs,rfl,sq,q⟩:=q1
 cases r1
 refine G4 ?_;obtain⟨its,rv,pl,U⟩:=L.list sq;have hlen:=rv.length;have il:=pl.isList;obtain⟨⟨cls,dd,dat,sl⟩,n,NP,z,O,B⟩:=pl;dsimp only at z O B;subst z B;refine Rv.call_rev NP (G4 ?_);have lt:a<s1.heap.objs.size:=D0 NP;have sz:its.toArray.size=its.length:=E8;refine Rv.list_of (s:={s1 with heap:=s1.heap.push (Rv.rO a ((its.toArray.size:Nat)-1))}) (l:=a) (xs:=its.toArray) (I.ok.hd hc) (Ep lt) (DW _ rfl) (il.push _) (by rw[sz,<-hlen];exact U) λh' tk acc c' kp e' ha=>?_
 have fv:(s1.heap.push (Rv.rO a ((its.toArray.size:Nat)-1))).objs.size=s1.heap.objs.size+1:=Fp ..;have kp':∀b o,s1.heap.get? b=Z o->h'.get? b=Z o:=λb o e=>kp b o (Ep (D0 e)) (i2 _ e);subst ha;refine⟨.ref (s1.heap.push (Rv.rO a ((its.toArray.size:Nat)-1))).objs.size,_,L.laid (t':=tk) (o:=.lst xs.reverse) kp' (by rw[fv];lia) ?_,rfl,q _ (L.hok.fresh (by rw[fv];lia))⟩
 refine⟨by rw[HM];exact U,its.reverse,c',rv.reverse,?_⟩
 rw[List.reverse_toArray]at e';exact e'
end
section
noncomputable abbrev NK:=List (Int ⊕ List Int)
noncomputable def yP(ks:List Int):Int:=reduceHash (Ju (ks.map hashInt))
noncomputable def yQ:Int ⊕ List Int->Int
 |.inl i=>hashInt i
 |.inr ks=>yP ks
noncomputable def yR(ks:NK):Int:=reduceHash (Ju (ks.map yQ))
noncomputable def ub(a:NS)(xs:List (NK×NS×gV)):Heap->Prop:=λh=>xs.length<=D2/\(a==FV)=NR /\
 ∃o es ep,h.get? a=Z o/\o.ExactDict/\o.data=.dict es ep/\es.toList=xs.map (λx=>(⟨yR x.1,.ref x.2.1,x.2.2⟩:FC))/\(xs.map (·.1)).Nodup
noncomputable def Kt1(H:Hp):Int ⊕ List Int->V->Prop
 |.inl i,v=>v=.int i
 |.inr ks,v=>∃b,v=.ref b/\H b=Z (.tup (ks.map V.int))
def Kt(H:Hp)(k:NK)(b:NS):Prop:=∃vs,H b=Z (.tup vs)/\EZ (Kt1 H) k vs
theorem Kt.keeps{k:NK}(x:Kt H k b)(j:∀b ys,H b=Z (.tup ys)->H' b=Z (.tup ys)):Kt H' k b:=by
 obtain⟨vs,e,p⟩:=x;refine⟨vs,j _ _ e,Nw p λq v z=>?_⟩
 cases q with
 |inl i=>exact z
 |inr ks=>obtain⟨c,e,q⟩:=z;exact⟨c,e,j _ _ q⟩
end
namespace Mi
variable{a p:NS}{K:Frag}{H H':Hp}{xs vs:List V}{i:Nat}{v:V}{σ:St}{ho:HO}{X:Cx}{e:Expr}
section
inductive D where
 |non|bl (b:Bool)|int (i:Int)|str (x:Str)|tup (ds:List D)|con (ds:List D)|ref (a:NS)|fn (x:Str)
inductive O where
 |lst (ds:List D)
 |dct (t:Bool) (kvs:List (D×D))
 |fdc (kvs:List (D×D))
 |dcn (kvs:List (NK×D))
 |fdn (kvs:List (NK×D))
 |tab (pos:Pos) (q:Str)
noncomputable abbrev Mem:=NS->Option O
noncomputable def fz:Option O->Bool
 |some (.lst _)=>NR
 |some (.dct _ _)=>NR
 |some (.dcn _)=>NR
 |some (.tab _ _)=>NR
 |_=>NQ
noncomputable abbrev ak:=List (Option D)
noncomputable def af(M:Mem)(a:NS)(o:O):Mem:=λb=>if b=a then Z o else M b
theorem ag{M:Mem}{o:O}:af M a o a=Z o:=by unfold af;rw[if_pos rfl]
theorem ah{M:Mem}{b:NS}{o:O}(h:b≠a):af M a o b=M b:=by unfold af;rw[if_neg h]
def SqF(K:Frag)(H:Hp)(a:NS)(xs:List V):Prop:=
 (∃o,H a=Z (.frz o (.lst xs))) ∨
  ∃(o:Obj) (its:Array gV) (n:Nat),K.lookup a=Z o/\o.cls=.type "list"/\o.dict=Y/\o.data=.seq its n/\its.size<=D2/\Vals xs its.toList
theorem SqF.sq(h:SqF K H a xs):SqL K H a xs:=by
 rcases h with⟨o,h⟩|h
 ·exact .inl (.inr ⟨o,h⟩)
 ·exact .inr h
noncomputable def fk2:Bool:=NQ
noncomputable def fk3:Bool:=NR
noncomputable def fk:List D->Bool
 |[.int _,.int _,.int _]=>NQ
 |[.tup _,_]=>NQ
 |[.int _,_]=>fk2
 |[]=>NR
 |_=>fk3
def TupR(K:Frag)(H:Hp)(ds:List D)(a:NS)(vs:List V):Prop:=H a=Z (.tup vs)∨(fk ds=NR/\SqT K H a vs)
theorem TupR.sq{ds:List D}(h:TupR K H ds a vs):SqT K H a vs:=h.elim SqT.of (·.2)
mutual
noncomputable def RD(K:Frag)(H:Hp):D->V->Prop
 |.non,v=>v=.non
 |.bl b,v=>v=.bl b
 |.int i,v=>v=.int i
 |.str x,v=>v=.str x
 |.tup ds,v=>∃a vs,v=.ref a/\TupR K H ds a vs/\RDs K H ds vs
 |.con ds,v=>∃a vs,v=.ref a/\SqF K H a vs/\RDs K H ds vs
 |.ref a,v=>v=.ref a
 |.fn x,v=>∃f,v=.ref f/\Jb K Fd x=Z (Z (.ref f))
noncomputable def RDs(K:Frag)(H:Hp):List D->List V->Prop
 |[],vs=>vs=[]
 |d::ds,vs=>∃v r,vs=v::r/\RD K H d v/\RDs K H ds r
end
structure Stab(H H':Hp):Prop where
 tup:∀a xs,H a=Z (.tup xs)->H' a=Z (.tup xs)
 frz:∀a o u,H a=Z (.frz o u)->H' a=Z (.frz o u)
theorem Stab.sqT(st:Stab H H')(h:SqT K H a xs):SqT K H' a xs:=by
 rcases h with(h|⟨o,h⟩)|h
 ·exact .inl (.inl (st.tup _ _ h))
 ·exact .inl (.inr ⟨o,st.frz _ _ _ h⟩)
 ·exact .inr h
theorem Stab.sqF(st:Stab H H')(h:SqF K H a xs):SqF K H' a xs:=by
 rcases h with⟨o,h⟩|h
 ·exact .inl ⟨o,st.frz _ _ _ h⟩
 ·exact .inr h
mutual
theorem RD.mono{K:Frag}{H H':Hp}(st:Stab H H'):∀{d:D} {v:V},RD K H d v->RD K H' d v
 |.non,_,h=>h
 |.bl _,_,h=>h
 |.int _,_,h=>h
 |.str _,_,h=>h
 |.tup ds,v,h=>by unfold RD at h⊢;obtain⟨a,vs,e,q,r⟩:=h;exact⟨a,vs,e,q.imp (st.tup _ _) (λz=>⟨z.1,st.sqT z.2⟩),RDs.mono st r⟩
 |.con ds,v,h=>by unfold RD at h⊢;obtain⟨a,vs,e,q,r⟩:=h;exact⟨a,vs,e,st.sqF q,RDs.mono st r⟩
 |.ref _,_,h=>h
 |.fn _,_,h=>by unfold RD at h⊢;exact h
theorem RDs.mono{K:Frag}{H H':Hp}(st:Stab H H'):∀{ds:List D} {vs:List V},RDs K H ds vs->RDs K H' ds vs
 |[],_,h=>h
 |d::ds,vs,h=>by unfold RDs at h⊢;obtain⟨v,r,e,h1,h2⟩:=h;exact⟨v,r,e,RD.mono st h1,RDs.mono st h2⟩
end
section
variable{K:Frag}{H H':Hp}
theorem Nr{i:Int}:RD K H (.int i) v↔v=.int i:=by unfold RD;exact LC
theorem Nv{b:Bool}:RD K H (.bl b) v↔v=.bl b:=by unfold RD;exact LC
theorem NA:RD K H .non v↔v=.non:=by unfold RD;exact LC
theorem Nz{x:Str}:RD K H (.str x) v↔v=.str x:=by unfold RD;exact LC
theorem Nt:RD K H (.ref a) v↔v=.ref a:=by unfold RD;exact LC
theorem NG{ds:List D}:RD K H (.tup ds) v↔∃a vs,v=.ref a/\TupR K H ds a vs/\RDs K H ds vs:=by rw[RD]
theorem NI{ds:List D}(h:∃a vs,v=.ref a/\H a=Z (.tup vs)/\RDs K H ds vs):RD K H (.tup ds) v:=NG.mpr (let⟨a,vs,e,h,r⟩:=h; ⟨a,vs,e,.inl h,r⟩)
theorem Nx{ds:List D}(h:RD K H (.tup ds) v):∃a vs,v=.ref a/\SqT K H a vs/\RDs K H ds vs:=let⟨a,vs,e,h,r⟩:=NG.mp h; ⟨a,vs,e,h.sq,r⟩
theorem NO{ds:List D}(f:fk ds=NQ)(h:RD K H (.tup ds) v):∃a vs,v=.ref a/\H a=Z (.tup vs)/\RDs K H ds vs:=let⟨a,vs,e,h,r⟩:=NG.mp h; ⟨a,vs,e,h.elim id λz=>(by rw[f]at z;cases z.1),r⟩
theorem Ny{ds:List D}:RD K H (.con ds) v↔∃a vs,v=.ref a/\SqF K H a vs/\RDs K H ds vs:=by rw[RD]
theorem RDs.nil_iff:RDs K H [] vs↔vs=[]:=by rw[RDs]
theorem Nu{d:D}{ds:List D}:RDs K H (d::ds) vs↔∃v r,vs=v::r/\RD K H d v/\RDs K H ds r:=by rw[RDs]
theorem RDs.nil:RDs K H [] []:=RDs.nil_iff.mpr rfl
theorem RDs.cons{d:D}{ds:List D}{v:V}{vs:List V}(h:RD K H d v)(r:RDs K H ds vs):RDs K H (d::ds) (v::vs):=Nu.mpr ⟨v,vs,rfl,h,r⟩
theorem RDs.length:∀{ds:List D} {vs:List V},RDs K H ds vs->vs.length=ds.length
 |[],_,h=>by rw[RDs.nil_iff.mp h];rfl
 |d::ds,_,h=>by obtain⟨v,r,rfl,_,h2⟩:=Nu.mp h;simp[RDs.length h2]
theorem RDs.get:∀{ds:List D} {vs:List V} {i:Nat} {d:D},RDs K H ds vs->ds[i]?=Z d->∃v,vs[i]?=Z v/\RD K H d v
 |[],_,_,_,_,e=>by simp at e
 |d::ds,_,0,d',h,e=>by obtain⟨v,r,rfl,h1,h2⟩:=Nu.mp h;simp at e;subst e;exact⟨v,rfl,h1⟩
 |d::ds,_,i+1,d',h,e=>by
  obtain⟨v,r,rfl,h1,h2⟩:=Nu.mp h;obtain⟨u,j,z⟩:=RDs.get (i:=i) (d:=d') h2 (by simpa using e)
  exact⟨u,by simpa using j,z⟩
theorem RDs.getV{ds:List D}(h:RDs K H ds vs)(e:vs[i]?=Z v):∃d,ds[i]?=Z d/\RD K H d v:=by
 have B:=h.length;have hi:i<vs.length:=(DT.mp e).1;obtain⟨d,hd⟩:∃d,ds[i]?=Z d:=⟨ds[i]'∅,z4 ∅⟩
 obtain⟨u,j,z⟩:=h.get hd;rw[e]at j;cases j;exact⟨d,hd,z⟩
theorem RDs.append:∀{ds es:List D} {vs us:List V},RDs K H ds vs->RDs K H es us->RDs K H (ds++es) (vs++us)
 |[],_,_,_,h,q=>by rw[RDs.nil_iff.mp h];exact q
 |d::ds,_,_,_,h,q=>by obtain⟨v,r,rfl,h1,h2⟩:=Nu.mp h;exact RDs.cons h1 (RDs.append h2 q)
theorem RDs.take:∀{ds:List D} {vs:List V} (n:Nat),RDs K H ds vs->RDs K H (ds.take n) (vs.take n)
 |[],_,n,h=>by rw[RDs.nil_iff.mp h];simp;exact RDs.nil
 |_::_,_,0,h=>by simp;exact RDs.nil
 |d::ds,_,n+1,h=>by obtain⟨v,r,rfl,h1,h2⟩:=Nu.mp h;exact RDs.cons h1 (RDs.take n h2)
theorem RDs.drop:∀{ds:List D} {vs:List V} (n:Nat),RDs K H ds vs->RDs K H (ds.drop n) (vs.drop n)
 |[],_,n,h=>by rw[RDs.nil_iff.mp h];simp;exact RDs.nil
 |d::ds,_,0,h=>h
 |d::ds,_,n+1,h=>by obtain⟨v,r,rfl,h1,h2⟩:=Nu.mp h;exact RDs.drop n h2
theorem RDs.set:∀{ds:List D} {vs:List V} (n:Nat) {d:D} {v:V},RD K H d v->RDs K H ds vs->RDs K H (ds.set n d) (vs.set n v)
 |[],_,n,_,_,_,h=>by rw[RDs.nil_iff.mp h];exact RDs.nil
 |d::ds,_,0,_,_,q,h=>by obtain⟨v,r,rfl,h1,h2⟩:=Nu.mp h;exact RDs.cons q h2
 |d::ds,_,n+1,_,_,q,h=>by obtain⟨v,r,rfl,h1,h2⟩:=Nu.mp h;exact RDs.cons h1 (RDs.set n q h2)
theorem RDs.reverse{ds:List D}(h:RDs K H ds vs):RDs K H ds.reverse vs.reverse:=by
 induction ds generalizing vs with
 |nil=>rw[RDs.nil_iff.mp h];exact RDs.nil
 |cons d ds ih=>obtain⟨v,r,rfl,h1,h2⟩:=Nu.mp h;rw[Ht,Ht];exact(ih h2).append (RDs.cons h1 RDs.nil)
theorem RDs.rep{ds:List D}(h:RDs K H ds vs):∀k:Nat,RDs K H (El k ds).flatten (El k vs).flatten
 |0=>RDs.nil
 |k+1=>by rw[Fm,Fm,EY,EY];exact h.append (h.rep k)
theorem NM:∀(ns:List Int),RDs K H (ns.map D.int) (ns.map V.int)
 |[]=>RDs.nil
 |n::ns=>RDs.cons (Nr.mpr rfl) (NM ns)
end
mutual
noncomputable def D.eqb:D->D->Bool
 |.non,.non=>NQ
 |.bl a,.bl b=>a==b
 |.int a,.int b=>decide (a=b)
 |.str a,.str b=>decide (a=b)
 |.tup a,.tup b=>D.eqbs a b
 |.con a,.con b=>D.eqbs a b
 |.ref a,.ref b=>decide (a=b)
 |.fn a,.fn b=>decide (a=b)
 |_,_=>NR
noncomputable def D.eqbs:List D->List D->Bool
 |[],[]=>NQ
 |a::r,b::s=>D.eqb a b&&D.eqbs r s
 |_,_=>NR
end
mutual
theorem NN:∀(a b:D),D.eqb a b=NQ->a=b
 |.non,b,h=>by cases b<;>first|rfl|cases h
 |.bl a,b,h=>by cases b<;>first|exact congrArg D.bl (GB h)|cases h
 |.int a,b,h=>by cases b<;>first|exact congrArg D.int (of_decide_eq_true h)|cases h
 |.str a,b,h=>by cases b<;>first|exact congrArg D.str (of_decide_eq_true h)|cases h
 |.tup a,b,h=>by cases b<;>first|exact congrArg D.tup (NH a _ h)|cases h
 |.con a,b,h=>by cases b<;>first|exact congrArg D.con (NH a _ h)|cases h
 |.ref a,b,h=>by cases b<;>first|exact congrArg D.ref (of_decide_eq_true h)|cases h
 |.fn a,b,h=>by cases b<;>first|exact congrArg D.fn (of_decide_eq_true h)|cases h
theorem NH:∀(a b:List D),D.eqbs a b=NQ->a=b
 |[],b,h=>by cases b<;>first|rfl|cases h
 |a::r,b,h=>by
  cases b with
  |nil=>cases h
  |cons b s=>have h:=(tv _ _).mp h;rw[NN a b h.1,NH r s h.2]
end
mutual
theorem NL:∀(a:D),D.eqb a a=NQ
 |.non=>rfl
 |.bl a=>beq_self_eq_true a
 |.int _=>decide_eq_true rfl
 |.str _=>decide_eq_true rfl
 |.tup a=>NB a
 |.con a=>NB a
 |.ref _=>decide_eq_true rfl
 |.fn _=>decide_eq_true rfl
theorem NB:∀(a:List D),D.eqbs a a=NQ
 |[]=>rfl
 |a::r=>(tv _ _).mpr ⟨NL a,NB r⟩
end
noncomputable instance:DecidableEq D:=λa b=>if h:D.eqb a b=NQ then isTrue (NN a b h)else isFalse λe=>h (by rw[e];exact NL b)
noncomputable def RKey:D->Key->Prop
 |.int i,k=>k=.inl i
 |.str x,k=>k=.inr x
 |_,_=>False
noncomputable def RKeys:D->List Key->Prop
 |.tup ds,ks=>EZ RKey ds ks
 |_,_=>False
noncomputable def dget(kvs:List (D×D))(k:D):Option D:=(kvs.find? λp=>decide (p.1=k)).map (·.2)
noncomputable def dS(kvs:List (D×D))(k v:D):List (D×D):=if(kvs.any λp=>decide (p.1=k))=NQ then kvs.map (λp=>if p.1=k then(p.1,v)else p)else kvs++[(k,v)]
noncomputable def dv:D->Bool
 |.int _=>NQ
 |.str _=>NQ
 |_=>NR
noncomputable def cM:D->Bool
 |.tup ds=>ds.all dv&&fk ds
 |_=>NR
noncomputable def gy(t:Bool)(k:D):Bool:=if t then cM k else dv k
theorem jV{k:D}(h:dv k=NQ):∃q,RKey k q:=by cases k<;>first|(simp[dv]at h;done)|exact⟨_,rfl⟩
theorem m9:∀{ds:List D},ds.all dv=NQ->∃ks,EZ RKey ds ks
 |[],_=>⟨[],.nil⟩
 |d::ds,h=>by simp only[IW,tv]at h;obtain⟨k,j⟩:=jV h.1;obtain⟨ks,hs⟩:=m9 h.2;exact⟨k::ks,.cons j hs⟩
theorem md{k:D}(h:cM k=NQ):∃q,RKeys k q:=by cases k<;>first|(simp[cM]at h;done)|exact m9 (IY.mp h).1
theorem mf{ds:List D}(h:cM (.tup ds)=NQ):fk ds=NQ:=(IY.mp h).2
noncomputable def RO(K:Frag)(H:Hp)(a:NS):O->Prop
 |.lst ds=>∃vs,H a=Z (.lst vs)/\RDs K H ds vs
 |.dct NR kvs=>∃ps,H a=Z (.dK ps)/\EZ (λ(p:D×D) (q:Key×V)=>RKey p.1 q.1/\RD K H p.2 q.2) kvs ps
 |.dct NQ kvs=>∃ps,H a=Z (.dT ps)/\EZ (λ(p:D×D) (q:List Key×V)=>RKeys p.1 q.1/\RD K H p.2 q.2) kvs ps
 |.fdc kvs=>∃o ps,H a=Z (.frz o (.dT ps))/\EZ (λ(p:D×D) (q:List Key×V)=>RKeys p.1 q.1/\RD K H p.2 q.2) kvs ps
 |.dcn kvs=>∃xs,H a=Z (.ext (ub a xs))/\EZ (λ(p:NK×D) (q:NK×NS×gV)=>p.1=q.1/\Kt H q.1 q.2.1/\∃v,RelV v q.2.2/\RD K H p.2 v) kvs xs
 |.fdn kvs=>∃o xs,H a=Z (.frz o (.ext (ub a xs)))/\EZ (λ(p:NK×D) (q:NK×NS×gV)=>p.1=q.1/\Kt H q.1 q.2.1/\∃v,RelV v q.2.2/\RD K H p.2 v) kvs xs
 |.tab pos q=>zV H a pos q
def RM(K:Frag)(M:Mem)(H:Hp):Prop:=∀a o,M a=Z o->RO K H a o
def RS(K:Frag)(H:Hp)(σ:St)(ρ:ak):Prop:=σ.length=ρ.length/\∀(i:Nat) (d:D),ρ[i]?=Z (Z d)->∃v,σ[i]?=Z (Z v)/\RD K H d v
structure Ext(M:Mem)(H:Hp)(M':Mem)(H':Hp):Prop where
 kp:∀a o,fz (M a)=NQ->H a=Z o->H' a=Z o
 nw:∀a o,fz (M a)=NQ->H a=Z o->M' a=M a
section
variable{K:Frag}{M M' M'':Mem}{H H' H'':Hp}
theorem Ext.keep(x:Ext M H M' H')(a:NS)(o:HO)(n:M a=Y)(e:H a=Z o):H' a=Z o:=x.kp a o (by rw[n];rfl) e
theorem Ext.new(x:Ext M H M' H')(a:NS)(o:HO)(n:M a=Y)(e:H a=Z o):M' a=Y:=(x.nw a o (by rw[n];rfl) e).trans n
theorem Ext.refl:Ext M H M H:=⟨λ_ _ _ h=>h,λ_ _ _ _=>rfl⟩
theorem Ext.trans(a:Ext M H M' H')(b:Ext M' H' M'' H''):Ext M H M'' H'':=⟨λc o n h=>b.kp c o (by rw[a.nw c o n h];exact n) (a.kp c o n h),λc o n h=>(b.nw c o (by rw[a.nw c o n h];exact n) (a.kp c o n h)).trans (a.nw c o n h)⟩
theorem RM.mut(r:RM K M H){o:O}(h:M a=Z o):∃ho,H a=Z ho/\(∀xs,ho≠.tup xs)/\(fz (Z o)=NR->∀ob u,ho≠.frz ob u):=by
 have q:=r a o h
 cases o with
 |lst ds=>obtain⟨vs,e,_⟩:=q;exact⟨_,e,λ_ z=>(by cases z),λ_ _ _ z=>(by cases z)⟩
 |dct t kvs=>
  cases t with
  |false=>obtain⟨ps,e,_⟩:=q;exact⟨_,e,λ_ z=>(by cases z),λ_ _ _ z=>(by cases z)⟩
  |true=>obtain⟨ps,e,_⟩:=q;exact⟨_,e,λ_ z=>(by cases z),λ_ _ _ z=>(by cases z)⟩
 |fdc kvs=>obtain⟨ob,ps,e,_⟩:=q;exact⟨_,e,λ_ z=>(by cases z),λz=>(by cases z)⟩
 |fdn kvs=>obtain⟨ob,ps,e,_⟩:=q;exact⟨_,e,λ_ z=>(by cases z),λz=>(by cases z)⟩
 |dcn kvs=>obtain⟨xs,e,_⟩:=q;exact⟨_,e,λ_ z=>(by cases z),λ_ _ _ z=>(by cases z)⟩
 |tab pos u=>obtain⟨ps,e,_⟩:=q;exact⟨_,e,λ_ z=>(by cases z),λ_ _ _ z=>(by cases z)⟩
theorem RM.fzT(r:RM K M H)(e:H a=Z (.tup xs)):M a=Y:=by
 cases q:M a with
 |none=>rfl
 |some o=>obtain⟨ho,j,z,_⟩:=r.mut q;rw[e]at j;cases j;exact absurd rfl (z xs)
theorem RM.fzF(r:RM K M H){ob:Obj}{u:HO}(e:H a=Z (.frz ob u)):fz (M a)=NQ:=by
 cases q:M a with
 |none=>rfl
 |some o=>
  obtain⟨ho,j,_,B⟩:=r.mut q;rw[e]at j;cases j
  cases z:fz (Z o)with
  |true=>rfl
  |false=>exact absurd rfl (B z ob u)
theorem RM.out(r:RM K M H)(h:H a=Y):M a=Y:=by
 cases e:M a with
 |none=>rfl
 |some o=>obtain⟨ho,q,_⟩:=r.mut e;rw[h]at q;cases q
theorem Ext.stab(r:RM K M H)(x:Ext M H M' H'):Stab H H' where
 tup:=λa xs e=>x.keep a _ (r.fzT e) e
 frz:=λa o u e=>x.kp a _ (r.fzF e) e
theorem RS.mono(st:Stab H H'){ρ:ak}(h:RS K H σ ρ):RS K H' σ ρ:=⟨h.1,λi d e=>let⟨v,q,r⟩:=h.2 i d e; ⟨v,q,r.mono st⟩⟩
theorem RS.set{ρ:ak}(h:RS K H σ ρ)(i:Nat){d:D}(r:RD K H d v):RS K H (σ.set i (Z v)) (ρ.set i (Z d)):=by
 refine⟨by simp[h.1],λj e q=>?_⟩
 by_cases hij:i=j
 ·subst hij;have hi:i<ρ.length:=by
   have:=(DT.mp q).1;simpa using this
  rw[H8 hi]at q
  cases q
  exact⟨v,by rw[H8 (by rw[h.1];exact hi)],r⟩
 ·rw[IX hij]at q⊢;exact h.2 j e q
noncomputable def nF(fr:List (Option Nat))(ρ:ak):ak:=fr.map λo=>o.bind λj=>(ρ[j]?).join
theorem RS.inh{ρ:ak}(h:RS K H σ ρ)(fr:List (Option Nat)):RS K H (inh fr σ) (nF fr ρ):=by
 refine⟨by simp[L2.inh,nF],λi d e=>?_⟩
 unfold nF at e;unfold L2.inh;rw[Em]at e⊢
 cases q:fr[i]? with
 |none=>rw[q]at e;cases e
 |some o=>
  rw[q]at e
  cases o with
  |none=>cases e
  |some j=>
   have e':Z ((ρ[j]?).join)=Z (Z d):=e
   cases q':ρ[j]? with
   |none=>rw[q']at e';cases e'
   |some w=>
    rw[q']at e'
    cases e'
    obtain⟨v,v1,v2⟩:=h.2 j d q';exact⟨v,by simp[v1],v2⟩
theorem RO.mono(st:Stab H H'){o:O}(h:RO K H a o)(e:∀ho,H a=Z ho->H' a=Z ho):RO K H' a o:=by
 cases o with
 |lst ds=>obtain⟨vs,q,r⟩:=h;exact⟨vs,e _ q,r.mono st⟩
 |dct t kvs=>
  cases t with
  |false=>obtain⟨ps,q,r⟩:=h;exact⟨ps,e _ q,Nw r λ_ _ z=>⟨z.1,z.2.mono st⟩⟩
  |true=>obtain⟨ps,q,r⟩:=h;exact⟨ps,e _ q,Nw r λ_ _ z=>⟨z.1,z.2.mono st⟩⟩
 |fdc kvs=>obtain⟨ob,ps,q,r⟩:=h;exact⟨ob,ps,e _ q,Nw r λ_ _ z=>⟨z.1,z.2.mono st⟩⟩
 |fdn kvs=>obtain⟨ob,xs,q,r⟩:=h;exact⟨ob,xs,e _ q,Nw r λ_ _ j=>(by obtain⟨B,F,v,J,L⟩:=j;exact⟨B,F.keeps st.tup,v,J,L.mono st⟩)⟩
 |dcn kvs=>obtain⟨xs,q,r⟩:=h;exact⟨xs,e _ q,Nw r λ_ _ j=>(by obtain⟨B,F,v,J,L⟩:=j;exact⟨B,F.keeps st.tup,v,J,L.mono st⟩)⟩
 |tab pos u=>obtain⟨ps,U,NP⟩:=h;exact⟨ps,e _ U,NP.imp_right λj=>(by obtain⟨c',oc,vs,t,B,F,J⟩:=j;exact⟨c',oc,vs,t,B,st.frz _ _ _ F,J⟩)⟩
theorem RM.new(r:RM K M H)(n:H p=Y):RM K M (upd H p ho):=λa o e=>by
 have ne:a≠p:=λz=>by subst z;obtain⟨_,q,_⟩:=r.mut e;rw[n]at q;cases q
 refine(r a o e).mono ⟨λb xs q=>?_,λb o u q=>?_⟩ λj q=>by rw[aj ne];exact q
 ·rw[aj (aJ q n)];exact q
 ·rw[aj (aJ q n)];exact q
theorem NF(n:H p=Y):Ext M H M (upd H p ho):=⟨λa o _ e=>by rw[aj (aJ e n)];exact e,λ_ _ _ _=>rfl⟩
theorem RM.lay{o:O}(r:RM K M H)(n:H p=Y)(h:RO K (upd H p ho) p o):RM K (af M p o) (upd H p ho):=λa o' e=>by
 by_cases z:a=p
 ·subst z;rw[ag]at e;cases e;exact h
 ·rw[ah z]at e;exact r.new n a o' e
theorem Ext.lay{o:O}(n:H p=Y):Ext M H (af M p o) (upd H p ho):=⟨λa u _ e=>by rw[aj (aJ e n)];exact e,λa u m e=>by rw[ah (aJ e n)]⟩
theorem RM.put{o o0:O}(r:RM K M H)(m:M p=Z o0)(h:RO K (upd H p ho) p o)(w:fz (Z o0)=NR:=by rfl):RM K (af M p o) (upd H p ho):=λa o' e=>by
 by_cases z:a=p
 ·subst z;rw[ag]at e;cases e;exact h
 ·rw[ah z]at e;obtain⟨L,j,B,F⟩:=r.mut m;refine(r a o' e).mono ⟨λb xs q=>?_,λb o u q=>?_⟩ λJ q=>by rw[aj z];exact q
  ·rw[aj (λz=>by subst z;rw[j]at q;cases q;exact B xs rfl)];exact q
  ·rw[aj (λz=>by subst z;rw[j]at q;cases q;exact F w o u rfl)];exact q
theorem Ext.put{o o0:O}(m:M p=Z o0)(w:fz (Z o0)=NR:=by rfl):Ext M H (af M p o) (upd H p ho):=⟨λa u n e=>by rw[aj (λz=>by subst z;rw[m,w]at n;cases n)];exact e,λa u n e=>ah (λz=>by subst z;rw[m,w]at n;cases n)⟩
theorem RM.stabPut{o0:O}(r:RM K M H)(m:M p=Z o0)(w:fz (Z o0)=NR:=by rfl):Stab H (upd H p ho):=(Ext.put (o:=o0) (ho:=ho) m w).stab r
end
noncomputable abbrev QD:=D->Mem->Prop
noncomputable abbrev TEd:=ak->Mem->QD->Prop
noncomputable abbrev TTd:=ak->Mem->(Bool->Mem->Prop)->Prop
noncomputable abbrev TAd:=ak->Mem->(List D->Mem->Prop)->Prop
structure bD where
 nx:ak->Mem->Prop
 rt:QD
 bk:ak->Mem->Prop:=λ_ _=>False
 ct:ak->Mem->Prop:=λ_ _=>False
noncomputable abbrev TSd:=bD->ak->Mem->Prop
def ab(T:TEd):Prop:=∀ρ M Q Q',(∀d M',Q d M'->Q' d M')->T ρ M Q->T ρ M Q'
def av(T:TTd):Prop:=∀ρ M Q Q',(∀d M',Q d M'->Q' d M')->T ρ M Q->T ρ M Q'
def ba(T:TAd):Prop:=∀ρ M Q Q',(∀d M',Q d M'->Q' d M')->T ρ M Q->T ρ M Q'
structure LeD(a b:bD):Prop where
 nx:∀ρ M,a.nx ρ M->b.nx ρ M
 rt:∀d M,a.rt d M->b.rt d M
 bk:∀ρ M,a.bk ρ M->b.bk ρ M
 ct:∀ρ M,a.ct ρ M->b.ct ρ M
def aA(T:TSd):Prop:=∀a b ρ M,LeD a b->T a ρ M->T b ρ M
noncomputable def KE'(K:Frag)(M:Mem)(H:Hp)(Q:VK):QD:=λd M'=>∀v H',Ext M H M' H'->RM K M' H'->RD K H' d v->Q v H'
noncomputable def KT'(K:Frag)(M:Mem)(H:Hp)(Q:Bool->Hp->Prop):Bool->Mem->Prop:=λb M'=>∀H',Ext M H M' H'->RM K M' H'->Q b H'
noncomputable def KA'(K:Frag)(M:Mem)(H:Hp)(Q:List V->Hp->Prop):List D->Mem->Prop:=λds M'=>∀vs H',Ext M H M' H'->RM K M' H'->RDs K H' ds vs->Q vs H'
noncomputable def lE(K:Frag)(T:TEd):TE:=λσ H Q=>∃ρ M,RS K H σ ρ/\RM K M H/\T ρ M (KE' K M H Q)
noncomputable def lT(K:Frag)(T:TTd):TT:=λσ H Q=>∃ρ M,RS K H σ ρ/\RM K M H/\T ρ M (KT' K M H Q)
noncomputable def lA(K:Frag)(T:TAd):TA:=λσ H Q=>∃ρ M,RS K H σ ρ/\RM K M H/\T ρ M (KA' K M H Q)
structure Link(K:Frag)(M:Mem)(H:Hp)(a:bD)(b:bi):Prop where
 nx:∀ρ M' σ H',Ext M H M' H'->RS K H' σ ρ->RM K M' H'->a.nx ρ M'->b.nx σ H'
 rt:∀d M' v H',Ext M H M' H'->RM K M' H'->RD K H' d v->a.rt d M'->b.rt v H'
 bk:∀ρ M' σ H',Ext M H M' H'->RS K H' σ ρ->RM K M' H'->a.bk ρ M'->b.bk σ H'
 ct:∀ρ M' σ H',Ext M H M' H'->RS K H' σ ρ->RM K M' H'->a.ct ρ M'->b.ct σ H'
noncomputable def lS(K:Frag)(T:TSd):TS:=λD σ H=>∃ρ M A,RS K H σ ρ/\RM K M H/\Link K M H A D/\T A ρ M
theorem Link.ext{M M':Mem}{a:bD}{b:bi}(l:Link K M H a b)(x:Ext M H M' H'):Link K M' H' a b:=⟨λρ M2 σ H2 y=>l.nx ρ M2 σ H2 (x.trans y),λd M2 v H2 y=>l.rt d M2 v H2 (x.trans y),λρ M2 σ H2 y=>l.bk ρ M2 σ H2 (x.trans y),λρ M2 σ H2 y=>l.ct ρ M2 σ H2 (x.trans y)⟩
theorem PE.imp{t t':TE}(h:PE X e t)(i:∀σ H Q,t' σ H Q->t σ H Q):PE X e t':=λpins s σ H Q I q=>h pins s σ H Q I (i _ _ _ q)
theorem PT.imp{t t':TT}(h:PT X e t)(i:∀σ H Q,t' σ H Q->t σ H Q):PT X e t':=λpins s σ H Q I q=>h pins s σ H Q I (i _ _ _ q)
theorem PW.imp{t t':TT}(h:PW X e t)(i:∀σ H Q,t' σ H Q->t σ H Q):PW X e t':=λwh pins s σ H Q I q=>h wh pins s σ H Q I (i _ _ _ q)
theorem PA.imp{e:List Expr}{t t':TA}(h:PA X e t)(i:∀σ H Q,t' σ H Q->t σ H Q):PA X e t':=λp pins s σ H Q I q=>h p pins s σ H Q I (i _ _ _ q)
theorem PS.imp{e:Stmt}{t t':TS}(h:PS X e t)(i:∀D σ H,t' D σ H->t D σ H):PS X e t':=λpins s σ H D I q=>h pins s σ H D I (i _ _ _ q)
theorem PSs.imp{e:List Stmt}{t t':TS}(h:PSs X e t)(i:∀D σ H,t' D σ H->t D σ H):PSs X e t':=λpins s σ H D I q=>h pins s σ H D I (i _ _ _ q)
end
variable{M M':Mem}{ds:List D}{d:D}{Q:VK}{ta:TEd}{tr:TAd}{j:Nat}{es:List Expr}
section
theorem KE'.ext{M2:Mem}{H2:Hp}(x:Ext M H M2 H2)(h:KE' K M H Q d M'):KE' K M2 H2 Q d M':=λv H' y=>h v H' (x.trans y)
theorem KT'.ext{M2:Mem}{H2:Hp}{Q:Bool->Hp->Prop}{d:Bool}(x:Ext M H M2 H2)(h:KT' K M H Q d M'):KT' K M2 H2 Q d M':=λH' y=>h H' (x.trans y)
noncomputable abbrev R2d:=D->D->Mem->QD->Prop
noncomputable abbrev R1d:=D->Mem->QD->Prop
noncomputable abbrev RAd:=List D->Mem->QD->Prop
def aM(r:R2d):Prop:=∀x y M Q Q',(∀d M',Q d M'->Q' d M')->r x y M Q->r x y M Q'
def nG(r:R1d):Prop:=∀x M Q Q',(∀d M',Q d M'->Q' d M')->r x M Q->r x M Q'
def aX(r:RAd):Prop:=∀x M Q Q',(∀d M',Q d M'->Q' d M')->r x M Q->r x M Q'
noncomputable def l2(K:Frag)(rd:R2d):R2:=λv u H Q=>∃x y M,RM K M H/\RD K H x v/\RD K H y u/\rd x y M (KE' K M H Q)
noncomputable def l1(K:Frag)(rd:R1d):V->Hp->VK->Prop:=λv H Q=>∃x M,RM K M H/\RD K H x v/\rd x M (KE' K M H Q)
noncomputable def lR(K:Frag)(rd:RAd):List V->Hp->VK->Prop:=λvs H Q=>∃ds M,RM K M H/\RDs K H ds vs/\rd ds M (KE' K M H Q)
noncomputable def lMt(K:Frag)(rd:D->List D->Mem->QD->Prop):V->List V->Hp->VK->Prop:=λv vs H Q=>∃x ds M,RM K M H/\RD K H x v/\RDs K H ds vs/\rd x ds M (KE' K M H Q)
noncomputable def i6(i:Nat):TEd:=λρ M Q=>∃d,ρ[i]?=Z (Z d)/\Q d M
noncomputable def wC(d:D):TEd:=λ_ M Q=>Q d M
noncomputable def wOp(rd:R2d)(ta tb:TEd):TEd:=λρ M Q=>ta ρ M λx M1=>tb ρ M1 λy M2=>rd x y M2 Q
noncomputable def wUn(rd:R1d)(ta:TEd):TEd:=λρ M Q=>ta ρ M λx M1=>rd x M1 Q
noncomputable def cY:TAd:=λ_ M Q=>Q [] M
noncomputable def cg(ta:TEd)(tr:TAd):TAd:=λρ M Q=>ta ρ M λx M1=>tr ρ M1 λxs M2=>Q (x::xs) M2
noncomputable def wAr(rd:RAd)(t:TAd):TEd:=λρ M Q=>t ρ M λds M1=>rd ds M1 Q
theorem rN:ab (i6 i):=λ_ _ _ _ h j=>(by obtain⟨d,e,q⟩:=j;exact⟨d,e,h _ _ q⟩)
theorem jW:ab (wC d):=λ_ _ _ _ h q=>h _ _ q
theorem df{rd:R2d}{tb:TEd}(j:aM rd)(z:ab ta)(B:ab tb):ab (wOp rd ta tb):=λρ M Q Q' h q=>z _ _ _ _ (λx L F=>B _ _ _ _ (λy M2 J=>j _ _ _ _ _ h J) F) q
theorem uU{rd:R1d}(j:nG rd)(z:ab ta):ab (wUn rd ta):=λρ M Q Q' h q=>z _ _ _ _ (λx F B=>j _ _ _ _ h B) q
theorem bH:ba cY:=λ_ _ _ _ h q=>h _ _ q
theorem cj(j:ab ta)(z:ba tr):ba (cg ta tr):=λρ M Q Q' h q=>j _ _ _ _ (λx J B=>z _ _ _ _ (λxs M2 F=>h _ _ F) B) q
theorem eM{rd:RAd}{t:TAd}(j:aX rd)(z:ba t):ab (wAr rd t):=λρ M Q Q' h q=>z _ _ _ _ (λds F B=>j _ _ _ _ h B) q
section
variable{X:Cx}{a b:Expr}{ta tb:TEd}{pos:Pos}
theorem xf{x:Str}(B:X.N[i]?=Z x)(j:Vis X.env.scope x)(hd:(x==("__debug__":Str))=NR)(z:(x==("__classdict__":Str))=NR):PE X (.Name x pos) (lE X.K (i6 i)):=by refine PE.imp (wm B j hd z) λσ H Q h=>?_;obtain⟨ρ,M,rs,rm,d,e,q⟩:=h;obtain⟨v,j,rd⟩:=rs.2 i d e;exact⟨v,j,q v H Ext.refl rm rd⟩
theorem xg{i:Int}:PE X (.Constant (.int i) j pos) (lE X.K (wC (.int i))):=PE.imp wn λσ H Q g9=>(by obtain⟨ρ,M,rs,rm,q⟩:=g9;exact q _ H Ext.refl rm (Nr.mpr rfl))
theorem yS{i:Bool}:PE X (.Constant (.bool i) j pos) (lE X.K (wC (.bl i))):=PE.imp yp λσ H Q g9=>(by obtain⟨ρ,M,rs,rm,q⟩:=g9;exact q _ H Ext.refl rm (Nv.mpr rfl))
theorem xh:PE X (.Constant .none j pos) (lE X.K (wC .non)):=PE.imp wo λσ H Q g9=>(by obtain⟨ρ,M,rs,rm,q⟩:=g9;exact q _ H Ext.refl rm (NA.mpr rfl))
theorem eN{rd:R2d}(O:aM rd)(ma:ab ta)(mb:ab tb)(σ:St)(H:Hp)(Q:VK)(h:lE K (wOp rd ta tb) σ H Q):tOp (l2 K rd) (lE K ta) (lE K tb) σ H Q:=by obtain⟨ρ,M,rs,rm,q⟩:=h;refine⟨ρ,M,rs,rm,ma _ _ _ _ (λx U NP v H1 J j z=>?_) q⟩;refine⟨ρ,U,rs.mono (J.stab rm),j,mb _ _ _ _ (λy M2 fv u H2 L B F=>?_) NP⟩;exact⟨x,y,M2,B,z.mono (L.stab j),F,O _ _ _ _ _ (λd M' k=>k.ext (J.trans L)) fv⟩
theorem yT{op:Lq}{rd:R2d}(ho:OpR X (Fo op) (l2 X.K rd))(j:aM rd)(ma:ab ta)(mb:ab tb)(z:PE X a (lE X.K ta))(B:PE X b (lE X.K tb)):PE X (.BinOp a op b pos) (lE X.K (wOp rd ta tb)):=PE.imp (yz ho z B) (eN j ma mb)
theorem xi{op:CmpOp}{rd:R2d}(ho:OpR X (GA op) (l2 X.K rd))(j:aM rd)(ma:ab ta)(mb:ab tb)(z:PE X a (lE X.K ta))(B:PE X b (lE X.K tb))(hm:HS op b=NR):PE X (.Compare a [op] [b] pos) (lE X.K (wOp rd ta tb)):=PE.imp (uG ho z B hm) (eN j ma mb)
noncomputable def i7(t:TEd):TTd:=λρ M Q=>t ρ M λx M1=>∃k,x=.bl k/\Q k M1
theorem rP{t:TEd}(h:ab t):av (i7 t):=λρ M Q Q' i q=>h _ _ _ _ (λx B j=>(by obtain⟨k,e,z⟩:=j;exact⟨k,e,i _ _ z⟩)) q
theorem rQ{t:TEd}(m:ab t)(σ:St)(H:Hp)(Q:Bool->Hp->Prop)(h:lT K (i7 t) σ H Q):tY (lE K t) σ H Q:=by obtain⟨ρ,M,rs,rm,q⟩:=h;refine⟨ρ,M,rs,rm,m _ _ _ _ (λx J g9 v H1 F j z=>?_) q⟩;obtain⟨k,e,B⟩:=g9;subst e;exact⟨k,Nv.mp z,B H1 F j⟩
theorem xj{op:CmpOp}{rd:R2d}(ho:OpR X (GA op) (l2 X.K rd))(j:aM rd)(ma:ab ta)(mb:ab tb)(z:PE X a (lE X.K ta))(B:PE X b (lE X.K tb))(hm:HS op b=NR):
 PT X (.Compare a [op] [b] pos) (lT X.K (i7 (wOp rd ta tb))):=
 PT.imp (uH ho z B hm) λσ H Q h=>by have h1:=rQ (df j ma mb) σ H Q h;exact eN j ma mb σ H _ h1
theorem yU{op:UnaryOp}{rd:R1d}(ho:UnR X (unaryOp op) (l1 X.K rd))(B:nG rd)(ma:ab ta)(F:PE X a (lE X.K ta)):PE X (.UnaryOp op a pos) (lE X.K (wUn rd ta)):=PE.imp (yA ho F) λσ H Q g9=>(by obtain⟨ρ,M,rs,rm,q⟩:=g9;exact⟨ρ,M,rs,rm,ma _ _ _ _ (λx J L v H1 O j z=>⟨x,J,j,z,B _ _ _ _ (λd M' k=>k.ext O) L⟩) q⟩)
theorem yV{rd:R2d}(ho:IxR X (l2 X.K rd))(j:aM rd)(ma:ab ta)(mb:ab tb)(z:PE X a (lE X.K ta))(B:PE X b (lE X.K tb))(hs:i4 b):PE X (.Subscript a b pos) (lE X.K (wOp rd ta tb)):=PE.imp (yG ho z B hs) (eN j ma mb)
theorem jX:PA X [] (lA X.K cY):=PA.imp p9 λσ H Q g9=>(by obtain⟨ρ,M,rs,rm,q⟩:=g9;exact q _ H Ext.refl rm RDs.nil)
theorem pE(ma:ab ta)(mr:ba tr)(σ:St)(H:Hp)(Q:List V->Hp->Prop)(h:lA K (cg ta tr) σ H Q):u4 (lE K ta) (lA K tr) σ H Q:=by obtain⟨ρ,M,rs,rm,q⟩:=h;refine⟨ρ,M,rs,rm,ma _ _ _ _ (λx O U v H1 J j z=>?_) q⟩;refine⟨ρ,O,rs.mono (J.stab rm),j,mr _ _ _ _ (λxs M2 NP vs H2 L B F=>?_) U⟩;exact NP (v::vs) H2 (J.trans L) B (RDs.cons (z.mono (L.stab j)) F)
theorem i8(ma:ab ta)(mr:ba tr)(j:PE X e (lE X.K ta))(z:PA X es (lA X.K tr))(hs:EA (e::es) X.env=(NR,eval e X.env)::EA es X.env):PA X (e::es) (lA X.K (cg ta tr)):=PA.imp (hZ j z hs) (pE ma mr)
theorem cb{rd:RAd}{t:TAd}(B:aX rd)(mt:ba t)(σ:St)(H:Hp)(Q:VK)(h:lE K (wAr rd t) σ H Q):tCB (lR K rd) (lA K t) σ H Q:=by obtain⟨ρ,M,rs,rm,q⟩:=h;exact⟨ρ,M,rs,rm,mt _ _ _ _ (λds F J vs H1 L j z=>⟨ds,F,j,z,B _ _ _ _ (λd M' k=>k.ext L) J⟩) q⟩
noncomputable def nH:RAd:=λds M Q=>ds.length<=D2/\Q (.tup ds) M
noncomputable def nI:RAd:=λds M Q=>ds.length<=D2/\∀p,M p=Y->Q (.ref p) (af M p (.lst ds))
theorem pF:aX nH:=λ_ _ _ _ h j=>(by obtain⟨z,q⟩:=j;exact⟨z,h _ _ q⟩)
theorem pG:aX nI:=λ_ _ _ _ h j=>(by obtain⟨z,q⟩:=j;exact⟨z,λp n=>h _ _ (q p n)⟩)
theorem eO(rm:RM K M H)(rd:RDs K H ds vs)(q:KE' K M H Q (.tup ds) M)(n:H p=Y):Q (.ref p) (upd H p (.tup vs)):=by have x:Ext M H M (upd H p (.tup vs)):=NF n;exact q (.ref p) _ x (rm.new n) (NI ⟨p,vs,rfl,aH,rd.mono (x.stab rm)⟩)
theorem bO(rm:RM K M H)(rd:RDs K H ds vs)(q:∀p,M p=Y->KE' K M H Q (.ref p) (af M p (.lst ds)))(n:H p=Y):Q (.ref p) (upd H p (.lst vs)):=by have x:Ext M H (af M p (.lst ds)) (upd H p (.lst vs)):=Ext.lay n;have x0:Ext M H M (upd H p (.lst vs)):=NF n;exact q p (rm.out n) (.ref p) _ x (rm.lay n ⟨vs,aH,rd.mono (x0.stab rm)⟩) (Nt.mpr rfl)
theorem xk{t:TAd}{k:Nat}(mt:ba t)(h:PA X es (lA X.K t)):PE X (.Tuple es k pos) (lE X.K (wAr nH t)):=PE.imp (wU h) λσ H Q B=>(by obtain⟨ρ,M,rs,rm,q⟩:=B;exact⟨ρ,M,rs,rm,mt _ _ _ _ (λds O B vs H1 J F j=>(by obtain⟨z,L⟩:=B;exact⟨by rw[j.length];exact z,λp n=>eO F j (L.ext J) n⟩)) q⟩)
theorem xm{t:TAd}(mt:ba t)(h:PA X es (lA X.K t)):PE X (.List es pos) (lE X.K (wAr nI t)):=PE.imp (wV h) λσ H Q B=>(by obtain⟨ρ,M,rs,rm,q⟩:=B;exact⟨ρ,M,rs,rm,mt _ _ _ _ (λds O B vs H1 J F j=>(by obtain⟨z,L⟩:=B;exact⟨by rw[j.length];exact z,λp n=>bO F j (λp' n'=>(L p' n').ext J) n⟩)) q⟩)
end
end
end Mi
namespace Mi
end Mi
section
theorem fJ:fillsNumberSlot (.type "tuple") "mul"=pure NR:=PyProof.Rows.fillsNumberSlot_seq (id:="tuple.__mul__") (r:=Z (.builtin "tuple.__rmul__")) F.slot_tuple_mul.lookup (by decide +kernel) F.slot_tuple_rmul.lookup (by decide +kernel)
theorem jY:seqRepeat? (.type "tuple")=pure (Z (.builtin "tuple.__mul__")):=by
 unfold seqRepeat?;rw[JN (T:="tuple") (name:="__mul__") (id:="tuple.__mul__") F.slot_tuple_mul.lookup (by decide +kernel),JN (T:="tuple") (name:="__rmul__") (id:="tuple.__rmul__") F.slot_tuple_rmul.lookup (by decide +kernel)]
 rfl
theorem i9(a:Int)(t:Tok)(l:NS)(items:Array gV)(n:Nat)(d:Option NS)(sl:Array (Option gV)):
 Meets (Fc.«int.__rmul__» ⟨[.int a t,.ref l],[]⟩) (λ_ R s=>s.heap.get? l=Z {cls:=.type "tuple",dict:=d,data:=.seq items n,slots:=sl}/\R (.ok (.ret Value.notImplemented)) s):=
 .of_wp λprog w A R s h=>by obtain⟨j,g,d,tk,os⟩:=s;obtain⟨z,h⟩:=h;wp_walk;exact⟨_,rfl,h⟩
open AutoSeq1 (wpAny_loadPart') in
theorem pH(l:NS)(items:Array gV)(n:Nat)(dd:Option NS)(sl:Array (Option gV))(x:Int)(u:Tok)(h1:-(2^63)<=x)(h2:x<2^63)(F:items.size*x.toNat<=D2):
 Meets (Fc.«tuple.__mul__» ⟨[.ref l,.int x u],[]⟩) (λ_ R s=>s.heap.get? l=Z {cls:=.type "tuple",dict:=dd,data:=.seq items n,slots:=sl} /\
  (if items.isEmpty || x==1 then R (.ok (.ret (.ref l))) s else R (.ok (.ret (.ref s.heap.objs.size))) {s with heap:=s.heap.push {cls:=.type "tuple",data:=.seq ((El x.toNat items).foldl (· ++ ·) #[])}})):=
 .of_wp λprog w A R s h=>by
  obtain⟨fv,g,d,tk,os⟩:=s;obtain⟨z,h⟩:=h;have f1:=AutoSeq1.idx_int;have J:(decide (x < -(2^63)) || decide (x≥2^63))=NR:=by rw[decide_eq_false ∅,decide_eq_false ∅];rfl
  wp_walk using Kj z
  refine GC (decide_eq_false (by rw[J];decide)) ?_
  dsimp only
  by_cases j:(items.isEmpty || x==1)=NQ
  ·rw[if_pos j]at h
   wp_walk using Kj z
   exact⟨_,rfl,h⟩
  ·rw[if_neg j]at h
   wp_walk using Kj z
   simp only[Kk,not_or]at j
   by_cases e2:x<=0
   ·have B:(decide (x<=0) || items.isEmpty)=NQ:=by rw[decide_eq_true e2];rfl
    rw[if_pos B];have L:x.toNat=0:=∅
    rw[L]at h
    wp_walk
    exact⟨_,rfl,h⟩
   ·have B:¬(decide (x<=0) || items.isEmpty)=NQ:=by simp;exact⟨∅,by simpa using j.1⟩
    rw[if_neg B];have hx:((items.size:Nat):Int)*x=((items.size*x.toNat:Nat):Int):=by rw[Int.natCast_mul,Int.toNat_of_nonneg ∅]
    have hs:D2=16777216:=Ek;have O:¬((items.size:Nat):Int)*x > (2^63-1) / 8:=by rw[hx];lia
    rw[if_neg O];have U:¬Jn (((items.size:Nat):Int)*x)=NQ:=by rw[hx];unfold Jn;intro NP;have h7:=of_decide_eq_true NP;lia
    rw[if_neg U]
    wp_walk
    have hsz:((El x.toNat items).foldl (· ++ ·) #[]).size<=D2:=by
     have:∀(k:Nat) (a:Array gV),((El k items).foldl (· ++ ·) a).size=a.size+items.size*k:=by
      intro k;induction k with
      |zero=>intro a;simp
      |succ k ih=>intro a;rw[Fm,J2,ih,Hv,Nat.mul_succ];lia
     rw[this];simpa using F
    refine GC (decide_eq_false (N2.mpr hsz)) ?_
    wp_walk
    exact⟨_,rfl,h⟩
end
section
section
variable{X:Cx}
noncomputable def uc(K:Frag):R2:=λx y H Q=>∃l k xs,x=.ref l/\y=.int k/\SqT K H l xs /\ -(2^63)<=k/\k<2^63/\xs.length*k.toNat<=D2 /\
 ((xs=[]∨k=1)->Q (.ref l) H)/\(¬(xs=[]∨k=1)->∀p,H p=Y->Q (.ref p) (upd H p (.tup (El k.toNat xs).flatten)))
theorem uV:OpR X (Fo .Mult) (uc X.K):=by
 intro pins s σ H x y v u Q I rx ry h;obtain⟨l,k,xs,rfl,rfl,J,h1,h2,j,L,O⟩:=h
 cases rx
 obtain⟨t,rfl⟩:=ry;obtain⟨its,r,NP,_⟩:=I.tuple J;have fv:=r.length;obtain⟨⟨cls,dd,dat,sl⟩,e,B,n,hd⟩:=NP;dsimp only at B hd;subst B hd;have hlen:its.toArray.size*k.toNat<=D2:=by rw[E8,<-fv];exact j
 have f0:∀m:Nat,IH (λx1 x2=>x1++x2) #[] (El m its.toArray)=(El m its).flatten.toArray:=λm=>by have:=dQ its m [];rw[J3]at this;exact this
 refine Jt (T:="tuple") (U:="int") (by decide) ⟨_,e,rfl⟩ (λs'=>K5 s' k t) fJ MM J4 jY F.slot_int_index.lookup
  (K7 J4 (K5 s k t) LZ (Ly _ _) (i9 k t l its.toArray n dd sl)
    ⟨e,rfl,⟨_,e,rfl⟩,K7 F.slot_tuple_mul ⟨_,e,rfl⟩ F.entry_tuple_mul (F.args_tuple_mul_2 _ _) (pH l its.toArray n dd sl k t h1 h2 hlen) ⟨e,?_⟩⟩)
 have hi:(its.toArray.isEmpty || k==1)=NQ↔(xs=[]∨k=1):=by rw[<-r.nil_iff];simp
 split
 ·next c=>exact⟨.ref l,H,I,rfl,L (hi.mp c)⟩
 ·next c=>rw[f0];refine⟨.ref s.heap.objs.size,_,I.laid (t':=s.toks) (o:=.tup (El k.toNat xs).flatten) (λb ob q=>i2 _ q) (E2 _) ?_,rfl,O (λz=>c (hi.mpr z)) _ (I.hok.fresh (E2 _))⟩;exact⟨by rw[lW,Lz];exact j,_,r.rep k.toNat,Nh _ _⟩
end
end
section
section
variable{X:Cx}
theorem uW:OpR X (Fo .Add) (λx y H Q=>∃a b ys,x=.ref a/\y=.ref b/\SqT X.K H a []/\SqT X.K H b ys/\Q (.ref b) H):=by
 intro pins s σ H x y v u Q I rx ry h;obtain⟨a,b,ys,rfl,rfl,NP,fv,q⟩:=h
 cases rx
 cases ry
 obtain⟨its,r1,p1,_⟩:=I.tuple NP;obtain⟨j,r2,p2,_⟩:=I.tuple fv;have e0:its=[]:=r1.nil_iff.mpr rfl;obtain⟨⟨cls,dd,data,sl⟩,ho,O,n,hd⟩:=id p1;obtain⟨⟨U,J,data2,L⟩,z,B,n2,hd2⟩:=id p2;simp only at O hd B hd2;subst O hd B hd2;exact Lv ⟨_,ho,rfl⟩ ⟨_,z,rfl⟩ JI L3 Ik Ih (HU _ _)
  (tuple_addW0 a b its.toArray j.toArray n n2 dd J sl L (by simp[e0])) ⟨ho,z,⟨.ref b,H,I,rfl,q⟩⟩
end
end
namespace Mi
variable{ta:TEd}{e:Expr}{p p2 pos:Pos}
section
section
variable{X:Cx}
noncomputable def jm(ta:TEd):TEd:=λρ M Q=>ta ρ M λx M1=>∃a ds,x=.ref a/\M1 a=Z (.lst ds)/\∀p,M1 p=Y->Q (.ref p) (af M1 p (.lst ds.reverse))
theorem pI(h:ab ta):ab (jm ta):=λρ M Q Q' i q=>h _ _ _ _ (λx F j=>(by obtain⟨a,ds,e,z,B⟩:=j;exact⟨a,ds,e,z,λp n=>i _ _ (B p n)⟩)) q
theorem uX{j:Pos}(m:ab ta)(J:X.calm=NQ)(he:PE X e (lE X.K ta))(L:Gl X "list")(hm:X.mg "list"=Y)(B:Gl X "reversed")(F:X.mg "reversed"=Y)(hs:EA [e] X.env=[(NR,eval e X.env)]):
 PE X (.Call (.Name "list" p) [.Call (.Name "reversed" p2) [e] [] j] [] pos) (lE X.K (jm ta)):=by
 refine PE.imp (uT J he L hm B F hs) λσ H Q h=>?_;obtain⟨ρ,M,rs,rm,q⟩:=h;refine⟨ρ,M,rs,rm,m _ _ _ _ (λx M1 g9 v H1 NP z rd1=>?_) q⟩;obtain⟨a,ds,e,O,U⟩:=g9;subst e
 cases Nt.mp rd1
 obtain⟨vs,fv,rv⟩:=z _ _ O;exact⟨a,vs,rfl,SqL.of fv,λp n=>bO z rv.reverse (λp' n'=>(U p' n').ext NP) n⟩
end
end
variable{K:Frag}{M:Mem}{H:Hp}{Q:VK}{v:V}
section
def MulOk(i j:Int):Prop:=(-(2^64)<i/\i<2^64)∨(-(2^64)<j/\j<2^64)∨(KU i<=2^20/\KU j<=2^20)
theorem MulOk.ok{i j:Int}(h:MulOk i j):IntMulOk i j:=by
 rcases h with h|h|h
 ·exact IntMulOk.of_left (intBits_le_64 h.1 h.2)
 ·exact IntMulOk.of_right (intBits_le_64 h.1 h.2)
 ·exact IntMulOk.of_bits h.1 h.2
noncomputable def dw:R2d
 |.int i,.int j,M,Q=>Q (.int (i+j)) M
 |.tup a,.tup b,M,Q=>(a≠[]∨True)/\a.length+b.length<=D2/\Q (.tup (a++b)) M
 |.ref a,.ref b,M,Q=>∃xs ys,M a=Z (.lst xs)/\M b=Z (.lst ys)/\xs.length+ys.length<=D2/\∀p,M p=Y->Q (.ref p) (af M p (.lst (xs++ys)))
 |.str x,.str y,M,Q=>x.length+y.length<=D2/\Q (.str (x++y)) M
 |_,_,_,_=>False
noncomputable def jZ:R2d
 |.int i,.int j,M,Q=>Q (.int (i-j)) M
 |_,_,_,_=>False
noncomputable def fK:R2d
 |.int i,.int j,M,Q=>MulOk i j/\Q (.int (i*j)) M
 |.ref a,.int k,M,Q=>∃xs,M a=Z (.lst xs) /\ -(2^63)<=k/\k<2^63/\xs.length*k.toNat<=D2/\∀p,M p=Y->Q (.ref p) (af M p (.lst (El k.toNat xs).flatten))
 |.tup ds,.int k,M,Q=>-(2^63)<=k/\k<2^63/\ds.length*k.toNat<=D2/\Q (.tup (El k.toNat ds).flatten) M
 |_,_,_,_=>False
noncomputable def gz:R2d
 |.int i,.int j,M,Q=>0<j/\j<2^256/\Q (.int (i / j)) M
 |_,_,_,_=>False
noncomputable def ka:R2d
 |.int i,.int j,M,Q=>0<j/\Q (.int (i%j)) M
 |_,_,_,_=>False
noncomputable def kb:R2d
 |.int i,.int j,M,Q=>0<=j/\j<=1000000/\i.natAbs<2^64/\Q (.int (i^j.toNat)) M
 |_,_,_,_=>False
theorem rR:aM dw:=by
 intro x y M Q Q' h q
 cases x<;>cases y<;>first
  |exact q.elim
  |exact h _ _ q
  |exact⟨q.1,h _ _ q.2⟩
  |exact⟨q.1,q.2.1,h _ _ q.2.2⟩
  |(obtain⟨xs,ys,j,B,z,q⟩:=q;exact⟨xs,ys,j,B,z,λp n=>h _ _ (q p n)⟩)
theorem rS:aM jZ:=by
 intro x y M Q Q' h q
 cases x<;>cases y<;>first|exact q.elim|exact h _ _ q
theorem rT:aM fK:=by
 intro x y M Q Q' h q
 cases x<;>cases y<;>first
  |exact q.elim
  |exact⟨q.1,h _ _ q.2⟩
  |exact⟨q.1,q.2.1,q.2.2.1,h _ _ q.2.2.2⟩
  |(obtain⟨xs,j,z,B,F,q⟩:=q;exact⟨xs,j,z,B,F,λp n=>h _ _ (q p n)⟩)
theorem pJ:aM gz:=by
 intro x y M Q Q' h q
 cases x<;>cases y<;>first|exact q.elim|exact⟨q.1,q.2.1,h _ _ q.2.2⟩
theorem rV:aM ka:=by
 intro x y M Q Q' h q
 cases x<;>cases y<;>first|exact q.elim|exact⟨q.1,h _ _ q.2⟩
theorem rW:aM kb:=by
 intro x y M Q Q' h q
 cases x<;>cases y<;>first|exact q.elim|exact⟨q.1,q.2.1,q.2.2.1,h _ _ q.2.2.2⟩
section
variable{X:Cx}
theorem OpR.of{f:gV->gV->Sem gV}{r r':R2}(h:OpR X f r)(i:∀v u H Q,r' v u H Q->r v u H Q):OpR X f r':=λpins s σ H x y v u Q I rx ry q=>h pins s σ H x y v u Q I rx ry (i _ _ _ _ q)
theorem IxR.of{r r':R2}(h:IxR X r)(i:∀v u H Q,r' v u H Q->r v u H Q):IxR X r':=λa b pins s σ H x y v u Q I rx ry q=>h a b pins s σ H x y v u Q I rx ry (i _ _ _ _ q)
theorem CallR.of{f:gV}{r r':List V->Hp->VK->Prop}(h:CallR X f r)(i:∀vs H Q,r' vs H Q->r vs H Q):CallR X f r':=λpins s σ H xs us Q I rx q=>h pins s σ H xs us Q I rx (i _ _ _ q)
theorem yW{a b:List D}{u:V}(rm:RM K M H)(rx:RD K H (.tup a) v)(ry:RD K H (.tup b) u)(q:dw (.tup a) (.tup b) M (KE' K M H Q)):u6 K v u H Q∨∃a b ys,v=.ref a/\u=.ref b/\SqT K H a []/\SqT K H b ys/\Q (.ref b) H:=by
 obtain⟨a',vs,rfl,z,j⟩:=Nx rx;obtain⟨b',us,rfl,B,F⟩:=Nx ry;obtain⟨_,L,q⟩:=q;have l1:=j.length;have l2:=F.length
 by_cases J:a=[]
 ·subst J;have:vs=[]:=RDs.nil_iff.mp j;subst this;exact .inr ⟨a',b',us,rfl,rfl,z,B,q _ H Ext.refl rm ry⟩
 refine .inl ⟨a',b',vs,us,rfl,rfl,z,B,λe=>J (Eo.mp (by rw[<-l1,e];rfl)),∅,λe=>?_,λ_ p n=>eO rm (j.append F) q n⟩
 have eb:b=[]:=Eo.mp (by rw[<-l2,e];rfl)
 subst eb;rw[F5]at q;exact q _ H Ext.refl rm rx
theorem rX:OpR X (Fo .Add) (l2 X.K dw):=by
 refine OpR.of (op_add.or ((op_catT.or uW).or (op_cat.or nv))) λv u H Q h=>?_;obtain⟨x,y,M,rm,rx,ry,q⟩:=h
 cases x<;>cases y<;>first
  |exact q.elim
  |(cases Nr.mp rx;cases Nr.mp ry;exact .inl ⟨_,_,rfl,rfl,q _ H Ext.refl rm (Nr.mpr rfl)⟩)
  |exact .inr (.inl (yW rm rx ry q))
  | (cases Nt.mp rx;cases Nt.mp ry
     obtain⟨xs,ys,F,J,z,q⟩:=q;obtain⟨vs,h1,j⟩:=rm _ _ F;obtain⟨us,h2,B⟩:=rm _ _ J;have l1:=j.length;have l2:=B.length;refine .inr (.inr (.inl ⟨_,_,vs,us,rfl,rfl,h1,h2,∅,λp n=>bO rm (j.append B) q n⟩)))
  |(cases Nz.mp rx;cases Nz.mp ry;exact .inr (.inr (.inr ⟨_,_,rfl,rfl,q.1,q.2 _ H Ext.refl rm (Nz.mpr rfl)⟩)))
theorem rY:OpR X (Fo .Sub) (l2 X.K jZ):=by
 refine OpR.of wL λv u H Q h=>?_;obtain⟨x,y,M,rm,rx,ry,q⟩:=h
 cases x<;>cases y<;>first
  |exact q.elim
  |(cases Nr.mp rx;cases Nr.mp ry;exact⟨_,_,rfl,rfl,q _ H Ext.refl rm (Nr.mpr rfl)⟩)
theorem op_mul_i:OpR X (Fo .Mult) (rI MulOk λi j=>.int (i*j)):=opI λ_ _ _ _ _ _ _ z q=>mul_int q z.ok
theorem yX{a:List D}{k:Int}{u:V}(rm:RM K M H)(rx:RD K H (.tup a) v)(ry:RD K H (.int k) u)(q:fK (.tup a) (.int k) M (KE' K M H Q)):uc K v u H Q:=by
 obtain⟨a',vs,rfl,z,j⟩:=Nx rx
 cases Nr.mp ry
 obtain⟨B,F,J,q⟩:=q;have l1:=j.length;refine⟨a',k,vs,rfl,rfl,z,B,F,by rw[l1];exact J,λe=>?_,λ_ p n=>eO rm (j.rep _) q n⟩
 have ea:(El k.toNat a).flatten=a:=by
  rcases e with e|e
  ·have:a=[]:=Eo.mp (by rw[<-l1,e];rfl)
   subst this;simp
  ·subst e;simp
 rw[ea]at q;exact q _ H Ext.refl rm rx
theorem rZ:OpR X (Fo .Mult) (l2 X.K fK):=by
 refine OpR.of (op_mul_i.or (op_rep.or uV)) λv u H Q h=>?_;obtain⟨x,y,M,rm,rx,ry,q⟩:=h
 cases x<;>cases y<;>first
  |exact q.elim
  |(cases Nr.mp rx;cases Nr.mp ry;exact .inl ⟨_,_,rfl,rfl,q.1,q.2 _ H Ext.refl rm (Nr.mpr rfl)⟩)
  | (cases Nt.mp rx;cases Nr.mp ry
     obtain⟨xs,z,B,F,J,q⟩:=q;obtain⟨vs,h1,j⟩:=rm _ _ z;have l1:=j.length;exact .inr (.inl ⟨_,_,vs,rfl,rfl,h1,B,F,by rw[l1];exact J,λp n=>bO rm (j.rep _) q n⟩))
  |exact .inr (.inr (yX rm rx ry q))
theorem s8:OpR X (Fo .FloorDiv) (rI (λ_ j=>0<j/\j<2^256) λi j=>.int (i / j)):=L2.opI λi j _ _ _ _ _ z q=>by
 have h1:(0:Int)<j:=z.1;have h2:j<2^256:=z.2;have B:j.natAbs.log2<256:=(Nat.log2_lt ∅).mpr ∅
 exact floordiv_int ∅ (by rw[Int.fdiv_eq_ediv_of_nonneg i ∅];exact q) (.inl (PyProof.noPylong_of_log2 ∅))
theorem pK:OpR X (Fo .FloorDiv) (l2 X.K gz):=by
 refine OpR.of s8 λv u H Q h=>?_;obtain⟨x,y,M,rm,rx,ry,q⟩:=h
 cases x<;>cases y<;>first
  |exact q.elim
  |(cases Nr.mp rx;cases Nr.mp ry;exact⟨_,_,rfl,rfl,⟨q.1,q.2.1⟩,q.2.2 _ H Ext.refl rm (Nr.mpr rfl)⟩)
theorem s9:OpR X (Fo .Mod) (l2 X.K ka):=by
 refine OpR.of wM λv u H Q h=>?_;obtain⟨x,y,M,rm,rx,ry,q⟩:=h
 cases x<;>cases y<;>first
  |exact q.elim
  |(cases Nr.mp rx;cases Nr.mp ry;exact⟨_,_,rfl,rfl,q.1,q.2 _ H Ext.refl rm (Nr.mpr rfl)⟩)
theorem sd:OpR X (Fo .Pow) (l2 X.K kb):=by
 refine OpR.of wN λv u H Q h=>?_;obtain⟨x,y,M,rm,rx,ry,q⟩:=h
 cases x<;>cases y<;>first
  |exact q.elim
  |(cases Nr.mp rx;cases Nr.mp ry;exact⟨_,_,rfl,rfl,⟨q.1,q.2.1,q.2.2.1⟩,q.2.2.2 _ H Ext.refl rm (Nr.mpr rfl)⟩)
noncomputable def kc:R1d
 |.int i,M,Q=>Q (.int (-i)) M
 |_,_,_=>False
theorem ke:nG kc:=by
 intro x M Q Q' h q
 cases x<;>first|exact q.elim|exact h _ _ q
theorem UnR.of{f:gV->Sem gV}{r r':V->Hp->VK->Prop}(h:UnR X f r)(i:∀v H Q,r' v H Q->r v H Q):UnR X f r':=λpins s σ H x v Q I rx q=>h pins s σ H x v Q I rx (i _ _ _ q)
theorem se:UnR X (unaryOp .USub) (l1 X.K kc):=by
 refine UnR.of wP λv H Q h=>?_;obtain⟨x,M,rm,rx,q⟩:=h
 cases x<;>first
  |exact q.elim
  |(cases Nr.mp rx;exact⟨_,rfl,q _ H Ext.refl rm (Nr.mpr rfl)⟩)
noncomputable def aI{α β:Type}(f:α->Option β):List α->Option (List β)
 |[]=>Z []
 |x::xs=>(f x).bind λy=>(aI f xs).map (y :: ·)
noncomputable def rb:Nat->Mem->D->Option F3
 |_,_,.non=>Z .none
 |_,_,.bl b=>Z (.bool b)
 |_,_,.int i=>Z (.int i)
 |_,_,.str x=>if PyData.strOk x=NQ then Z (.str x)else Y
 |n+1,M,.tup ds=>(aI (rb n M) ds).map PyData.tuple
 |n+1,M,.con ds=>(aI (rb n M) ds).map Mw
 | n+1,M,.ref a=>match M a with
   |some (.lst ds)=>(aI (rb n M) ds).map Mw
   |_=>Y
 |0,_,.tup _=>Y
 |0,_,.con _=>Y
 |0,_,.ref _=>Y
 |_,_,.fn _=>Y
theorem cz{n:Nat}{M:Mem}(ih:∀d p,rb n M d=Z p->p.depth<=n/\p.canLay0=NQ):∀{ds:List D} {ps:List F3},aI (rb n M) ds=Z ps->Gc ps<=n/\Fb ps=NQ
 |[],ps,h=>by simp[aI]at h;subst h;exact⟨ER _,rfl⟩
 |d::ds,ps,h=>by
  simp only[aI]at h
  cases e1:rb n M d with
  |none=>rw[e1]at h;cases h
  |some p=>
   rw[e1]at h
   cases e2:aI (rb n M) ds with
   |none=>simp[e2]at h
   |some qs=>
    simp[e2]at h;subst h;obtain⟨a1,a2⟩:=ih d p e1;obtain⟨b1,j⟩:=cz ih e2;refine⟨?_,?_⟩
    ·show max p.depth (Gc qs)<=n;lia
    ·show(p.canLay0&&Fb qs)=NQ;rw[a2,j];rfl
theorem bI{M:Mem}:∀(n:Nat) (d:D) (p:F3),rb n M d=Z p->p.depth<=n/\p.canLay0=NQ
 |n,.non,p,h=>by simp[rb]at h;subst h;exact⟨ER _,rfl⟩
 |n,.bl b,p,h=>by simp[rb]at h;subst h;exact⟨ER _,rfl⟩
 |n,.int b,p,h=>by simp[rb]at h;subst h;exact⟨ER _,rfl⟩
 |n,.str x,p,h=>by simp[rb]at h;obtain⟨h1,h2⟩:=h;subst h2;exact⟨ER _,h1⟩
 |0,.tup _,p,h=>by simp[rb]at h
 |0,.con _,p,h=>by simp[rb]at h
 |0,.ref _,p,h=>by simp[rb]at h
 |n,.fn _,p,h=>by simp[rb]at h
 |n+1,.tup ds,p,h=>by
  simp only[rb]at h
  cases e:aI (rb n M) ds with
  |none=>rw[e]at h;cases h
  |some ps=>rw[e]at h;cases h;obtain⟨a,b⟩:=cz (bI n) e;exact⟨JO a,b⟩
 |n+1,.con ds,p,h=>by
  simp only[rb]at h
  cases e:aI (rb n M) ds with
  |none=>rw[e]at h;cases h
  |some ps=>rw[e]at h;cases h;obtain⟨a,b⟩:=cz (bI n) e;exact⟨JO a,b⟩
 |n+1,.ref a,p,h=>by
  simp only[rb]at h
  cases e0:M a with
  |none=>rw[e0]at h;cases h
  |some o=>
   rw[e0]at h
   cases o with
   |dct _ _=>cases h
   |fdc _=>cases h
   |dcn _=>cases h
   |tab _ _=>cases h
   |fdn _=>cases h
   |lst ds=>
    simp only at h
    cases e:aI (rb n M) ds with
    |none=>rw[e]at h;cases h
    |some ps=>rw[e]at h;cases h;obtain⟨a,b⟩:=cz (bI n) e;exact⟨JO a,b⟩
theorem cA{K:Frag}{H:Hp}{n:Nat}{M:Mem}{h:Heap}(ih:∀d p v u,rb n M d=Z p->RD K H d v->RelV v u->∃as,HX h u p as):
 ∀{ds:List D} {ps:List F3} {vs:List V} {us:List gV},aI (rb n M) ds=Z ps->RDs K H ds vs->Vals vs us->∃as,KD h us ps as
 |[],ps,vs,us,hm,r,rv=>by
  simp[aI]at hm;subst hm;rw[RDs.nil_iff.mp r]at rv
  cases rv
  exact⟨_,.nil⟩
 |d::ds,ps,vs,us,hm,r,rv=>by
  obtain⟨v,vr,rfl,j,z⟩:=Nu.mp r
  cases rv with
  |cons B F=>
   simp only[aI]at hm
   cases e1:rb n M d with
   |none=>rw[e1]at hm;cases hm
   |some p=>
    rw[e1]at hm
    cases e2:aI (rb n M) ds with
    |none=>simp[e2]at hm
    |some qs=>simp[e2]at hm;subst hm;obtain⟨as,ra⟩:=ih d p v _ e1 j B;obtain⟨bs,rbs⟩:=cA ih e2 z F;exact⟨_,.cons ra rbs⟩
theorem aZ{pins:List (NS×Obj)}{σ:St}{H:Hp}{s:q7}{M:Mem}(I:Inv X pins σ H s)(rm:RM X.K M H):∀(n:Nat) (d:D) (p:F3) (v:V) (u:gV),rb n M d=Z p->RD X.K H d v->RelV v u->∃as,HX s.heap u p as
 |n,.non,p,v,u,h,r,q=>by simp[rb]at h;subst h;cases NA.mp r;cases q;exact⟨_,.none⟩
 |n,.bl b,p,v,u,h,r,q=>by simp[rb]at h;subst h;cases Nv.mp r;cases q;exact⟨_,.bool b⟩
 |n,.int b,p,v,u,h,r,q=>by simp[rb]at h;subst h;cases Nr.mp r;obtain⟨t,rfl⟩:=q;exact⟨_,.int b t⟩
 |n,.str x,p,v,u,h,r,q=>by simp[rb]at h;obtain⟨_,h2⟩:=h;subst h2;cases Nz.mp r;obtain⟨t,rfl⟩:=q;exact⟨_,.str x t⟩
 |0,.tup _,p,_,_,h,_,_=>by simp[rb]at h
 |0,.con _,p,_,_,h,_,_=>by simp[rb]at h
 |0,.ref _,p,_,_,h,_,_=>by simp[rb]at h
 |n,.fn _,p,_,_,h,_,_=>by simp[rb]at h
 |n+1,.tup ds,p,v,u,h,r,q=>by
  simp only[rb]at h
  cases e:aI (rb n M) ds with
  |none=>rw[e]at h;cases h
  |some ps=>
   rw[e]at h;cases h;obtain⟨a,vs,rfl,j,rs⟩:=Nx r
   cases q
   obtain⟨its,rv,⟨o,ho,z,k,hd⟩,_⟩:=I.tuple j;obtain⟨as,ra⟩:=cA (aZ I rm n) e rs rv;exact⟨_,.tuple ho z hd (by simpa using ra)⟩
 |n+1,.con ds,p,v,u,h,r,q=>by
  simp only[rb]at h
  cases e:aI (rb n M) ds with
  |none=>rw[e]at h;cases h
  |some ps=>
   rw[e]at h;cases h;obtain⟨a,vs,rfl,j,rs⟩:=Ny.mp r
   cases q
   obtain⟨its,rv,⟨o,k,ho,z,_,hd⟩,_⟩:=I.list j.sq;obtain⟨as,ra⟩:=cA (aZ I rm n) e rs rv;exact⟨_,.list ho z hd (by simpa using ra)⟩
 |n+1,.ref a,p,v,u,h,r,q=>by
  simp only[rb]at h
  cases e0:M a with
  |none=>rw[e0]at h;cases h
  |some o=>
   rw[e0]at h
   cases o with
   |dct _ _=>cases h
   |fdc _=>cases h
   |dcn _=>cases h
   |tab _ _=>cases h
   |fdn _=>cases h
   |lst ds=>
    simp only at h
    cases e:aI (rb n M) ds with
    |none=>rw[e]at h;cases h
    |some ps=>
     rw[e]at h;cases h
     cases Nt.mp r
     cases q
     obtain⟨vs,j,rs⟩:=rm _ _ e0;obtain⟨its,rv,⟨o,k,ho,z,_,hd⟩,_⟩:=I.list (SqL.of j);obtain⟨as,ra⟩:=cA (aZ I rm n) e rs rv;exact⟨_,.list ho z hd (by simpa using ra)⟩
noncomputable def wEq:R2d:=λx y M Q=>∃p q,rb 16 M x=Z p/\rb 16 M y=Z q/\Q (.bl (F4 p q)) M
noncomputable def wNe:R2d:=λx y M Q=>∃p q,rb 16 M x=Z p/\rb 16 M y=Z q/\Q (.bl (!PyData.eqv p q)) M
theorem uY:aM wEq:=λ_ _ _ _ _ h j=>(by obtain⟨p,q,a,b,c⟩:=j;exact⟨p,q,a,b,h _ _ c⟩)
theorem uZ:aM wNe:=λ_ _ _ _ _ h j=>(by obtain⟨p,q,a,b,c⟩:=j;exact⟨p,q,a,b,h _ _ c⟩)
theorem v4(hu:X.A.units+16<GZ):OpR X (GA .Eq) (l2 X.K wEq):=by intro pins s σ H x y v u Q I rx ry h;obtain⟨d,e,M,rm,rd,re,p,q,j,z,k⟩:=h;obtain⟨as,ra⟩:=aZ I rm _ _ _ _ _ j rd rx;obtain⟨bs,rb'⟩:=aZ I rm _ _ _ _ _ z re ry;obtain⟨F,p2⟩:=bI _ _ _ j;obtain⟨J,B⟩:=bI _ _ _ z;exact SeqAt.compareEq_reads ra rb' p2 B ∅ ⟨.bl _,H,I,rfl,k _ H Ext.refl rm (Nv.mpr rfl)⟩
theorem v5(hu:X.A.units+16<GZ):OpR X (GA .NotEq) (l2 X.K wNe):=by intro pins s σ H x y v u Q I rx ry h;obtain⟨d,e,M,rm,rd,re,p,q,j,z,k⟩:=h;obtain⟨as,ra⟩:=aZ I rm _ _ _ _ _ j rd rx;obtain⟨bs,rb'⟩:=aZ I rm _ _ _ _ _ z re ry;obtain⟨F,p2⟩:=bI _ _ _ j;obtain⟨J,B⟩:=bI _ _ _ z;exact SeqAt.compareNe_reads ra rb' p2 B ∅ ⟨.bl _,H,I,rfl,k _ H Ext.refl rm (Nv.mpr rfl)⟩
noncomputable def wLt:R2d
 |.int i,.int j,M,Q=>Q (.bl (decide (i<j))) M
 |_,_,_,_=>False
noncomputable def wGt:R2d
 |.int i,.int j,M,Q=>Q (.bl (decide (j<i))) M
 |_,_,_,_=>False
noncomputable def wGe:R2d
 |.int i,.int j,M,Q=>Q (.bl (decide (j<=i))) M
 |_,_,_,_=>False
theorem v6:aM wLt:=by
 intro x y M Q Q' h q
 cases x<;>cases y<;>first|exact q.elim|exact h _ _ q
theorem v7:aM wGt:=by
 intro x y M Q Q' h q
 cases x<;>cases y<;>first|exact q.elim|exact h _ _ q
theorem v8:aM wGe:=by
 intro x y M Q Q' h q
 cases x<;>cases y<;>first|exact q.elim|exact h _ _ q
theorem v9:OpR X (GA .Lt) (l2 X.K wLt):=by
 refine OpR.of yB λv u H Q h=>?_;obtain⟨x,y,M,rm,rx,ry,q⟩:=h
 cases x<;>cases y<;>first
  |exact q.elim
  |(cases Nr.mp rx;cases Nr.mp ry;exact⟨_,_,rfl,rfl,q _ H Ext.refl rm (Nv.mpr rfl)⟩)
theorem va:OpR X (GA .Gt) (l2 X.K wGt):=by
 refine OpR.of yC λv u H Q h=>?_;obtain⟨x,y,M,rm,rx,ry,q⟩:=h
 cases x<;>cases y<;>first
  |exact q.elim
  |(cases Nr.mp rx;cases Nr.mp ry;exact⟨_,_,rfl,rfl,q _ H Ext.refl rm (Nv.mpr rfl)⟩)
theorem vc:OpR X (GA .GtE) (l2 X.K wGe):=by
 refine OpR.of yD λv u H Q h=>?_;obtain⟨x,y,M,rm,rx,ry,q⟩:=h
 cases x<;>cases y<;>first
  |exact q.elim
  |(cases Nr.mp rx;cases Nr.mp ry;exact⟨_,_,rfl,rfl,q _ H Ext.refl rm (Nv.mpr rfl)⟩)
end
end
variable{a:NS}{ds:List D}{vs:List V}{d x:D}
section
noncomputable def wIx:R2d:=λx y M Q=>match x with
 |.tup ds=>∃i d,y=.int i/\atI ds i=Z d/\Q d M
 |.con ds=>∃i d,y=.int i/\atI ds i=Z d/\Q d M
 |.ref a=>(∃ds i d,M a=Z (.lst ds)/\y=.int i/\atI ds i=Z d/\Q d M)∨(∃t kvs d,M a=Z (.dct t kvs)/\gy t y=NQ/\dget kvs y=Z d/\Q d M)∨∃kvs d,M a=Z (.fdc kvs)/\cM y=NQ/\dget kvs y=Z d/\Q d M
 |_=>False
theorem mj:aM wIx:=by
 intro x y M Q Q' h q
 cases x with
 |tup ds=>obtain⟨i,d,e,j,q⟩:=q;exact⟨i,d,e,j,h _ _ q⟩
 |con ds=>obtain⟨i,d,e,j,q⟩:=q;exact⟨i,d,e,j,h _ _ q⟩
 |ref a=>
  rcases q with⟨ds,i,d,z,j,B,q⟩|⟨t,kvs,d,z,j,B,q⟩|⟨kvs,d,z,j,B,q⟩
  ·exact .inl ⟨ds,i,d,z,j,B,h _ _ q⟩
  ·exact .inr (.inl ⟨t,kvs,d,z,j,B,h _ _ q⟩)
  ·exact .inr (.inr ⟨kvs,d,z,j,B,h _ _ q⟩)
 |_=>exact q.elim
theorem kf{i:Int}(r:RDs K H ds vs)(e:atI ds i=Z d):∃v,atI vs i=Z v/\RD K H d v:=by
 unfold atI at e⊢;rw[r.length]
 cases q:ixN ds.length i with
 |none=>rw[q]at e;cases e
 |some j=>rw[q]at e;exact r.get e
theorem ic{k:D}{q:Key}(r:RKey k q)(h:RD K H k v):v=kV q:=by
 cases k<;>first
  |exact r.elim
  |(cases(show q=_ from r);first|exact Nr.mp h|exact Nz.mp h)
theorem fL{K:Frag}{H:Hp}:∀{ds:List D} {ks:List Key} {vs:List V},EZ RKey ds ks->RDs K H ds vs->vs=ks.map kV
 |_,_,vs,.nil,h=>by rw[RDs.nil_iff.mp h];rfl
 |_,_,vs,.cons r t,h=>by obtain⟨v,vr,rfl,h1,h2⟩:=Nu.mp h;rw[ic r h1,fL t h2];rfl
theorem RKey.inj{e:D}{k:Key}(a:RKey d k)(b:RKey e k):d=e:=by
 cases d<;>first
  |exact a.elim
  |(cases e<;>first|exact b.elim|(cases(show k=_ from a);injection (show _=_ from b)with z;rw[z])|(cases(show k=_ from a);cases(show _=_ from b)))
theorem RKeysP.inj:∀{d e:List D} {k:List Key},EZ RKey d k->EZ RKey e k->d=e
 |_,_,_,.nil,.nil=>rfl
 |_,_,_,.cons r t,.cons r' t'=>by rw[r.inj r',RKeysP.inj t t']
theorem RKeys.inj{e:D}{k:List Key}(a:RKeys d k)(b:RKeys e k):d=e:=by
 cases d<;>first
  |exact a.elim
  |(cases e<;>first|exact b.elim|exact congrArg D.tup (RKeysP.inj a b))
theorem RKey.fun{k k':Key}(a:RKey d k)(b:RKey d k'):k=k':=by
 cases d<;>first
  |exact a.elim
  |(cases(show k=_ from a);cases(show k'=_ from b);rfl)
theorem RKeysP.fun:∀{d:List D} {k k':List Key},EZ RKey d k->EZ RKey d k'->k=k'
 |_,_,_,.nil,.nil=>rfl
 |_,_,_,.cons r t,.cons r' t'=>by rw[r.fun r',RKeysP.fun t t']
theorem RKeys.fun{k k':List Key}(a:RKeys d k)(b:RKeys d k'):k=k':=by
 cases d<;>first
  |exact a.elim
  |exact RKeysP.fun a b
section
variable{κ:Type}[DecidableEq κ]{K:Frag}{H:Hp}{RK:D->κ->Prop}(inj:∀{d e:D} {k:κ},RK d k->RK e k->d=e)(fn:∀{d:D} {k k':κ},RK d k->RK d k'->k=k')
include inj fn
theorem fM{k:D}{q:κ}(j:RK k q):∀{kvs:List (D×D)} {ps:List (κ×V)},EZ (λp r=>RK p.1 r.1/\RD K H p.2 r.2) kvs ps->
 (∀d,dget kvs k=Z d->∃v,bo ps q=Z v/\RD K H d v)/\(dget kvs k=Y->bo ps q=Y)
 |_,_,.nil=>⟨λd e=>by simp[dget]at e,λ_=>rfl⟩
 |_,_,.cons (a:=p) (b:=r) (l₂:=ps) B t=>by
  obtain⟨F,J⟩:=fM j t
  by_cases e:p.1=k
  ·have e':r.1=q:=by
    have h1:=B.1;rw[e]at h1;exact fn h1 j
   refine⟨λd he=>?_,λhe=>?_⟩
   ·simp[dget,FO,e]at he;subst he;exact⟨r.2,dt e',B.2⟩
   ·simp[dget,FO,e]at he
  ·have e':¬r.1=q:=fun z=>e (by
    have h1:=B.1;rw[z]at h1;exact inj h1 j)
   have eq1:∀l:List (D×D),dget (p::l) k=dget l k:=λl=>by simp[dget,FO,e]
   have eq2:bo (r::ps) q=bo ps q:=du e';refine⟨λd he=>?_,λhe=>?_⟩
   ·rw[eq1]at he;rw[eq2];exact F d he
   ·rw[eq1]at he;rw[eq2];exact J he
end
section
variable{X:Cx}
theorem pM{ps:List (List Key×V)}{kvs:List (D×D)}{k:D}(B:Rd H a (.dT ps))(pr:EZ (λ(p:D×D) (q:List Key×V)=>RKeys p.1 q.1/\RD K H p.2 q.2) kvs ps)(ok:cM k=NQ)(rk:RD K H k v):
 ∃o,DGet H a v o/\(∀d,dget kvs k=Z d->∃w,o=Z w/\RD K H d w)/\(dget kvs k=Y->o=Y):=by
 obtain⟨q,j⟩:=md ok;obtain⟨g1,g2⟩:=fM (RK:=RKeys) RKeys.inj RKeys.fun j pr;refine⟨bo ps q,?_,g1,g2⟩
 cases k<;>first
  |exact j.elim
  | (obtain⟨b,us,rfl,z,ru⟩:=NO (mf ok) rk
     rw[fL j ru]at z;exact .inr ⟨ps,q,b,B,rfl,z,rfl⟩)
theorem mm{t:Bool}{kvs:List (D×D)}{k:D}(rm:RM K M H)(e:M a=Z (.dct t kvs))(ok:gy t k=NQ)(rk:RD K H k v):
 ∃o,DGet H a v o/\(∀d,dget kvs k=Z d->∃w,o=Z w/\RD K H d w)/\(dget kvs k=Y->o=Y):=by
 have ro:=rm a _ e
 cases t with
 |false=>obtain⟨ps,j,pr⟩:=ro;obtain⟨q,z⟩:=jV (show dv k=NQ from ok);obtain⟨g1,g2⟩:=fM (RK:=RKey) RKey.inj RKey.fun z pr;refine⟨bo ps q,?_,g1,g2⟩;rw[ic z rk];exact DGet.k j
 |true=>obtain⟨ps,j,pr⟩:=ro;exact pM (.inl j) pr ok rk
theorem vd(hu:X.A.units+1<GZ):IxR X (λx y H Q=>∃a v,x=.ref a/\DGet H a y (Z v)/\Q v H):=by
 intro value slice pins s σ H x y v u Q I rx ry h hs;obtain⟨a,w,rfl,g,q⟩:=h
 cases rx
 have hd:IsD H a:=by
  rcases g with⟨kvs,k,e,_⟩|⟨kvs,k,b,e,_⟩
  ·exact .inl ⟨kvs,e⟩
  ·exact .inr ⟨kvs,e⟩
 obtain⟨j,_⟩:=jQ I hd;exact tail_any j PySem.F.slot_dict_getitem.lookup (pq hu I g ry λw' s' I' r'=>⟨w,H,I',r',q⟩) hs
theorem zX(hu:X.A.units+1<GZ):IxR X (l2 X.K wIx):=by
 refine IxR.of (ix_list.or (ix_tup.or (vd hu))) λv u H Q h=>?_;obtain⟨x,y,M,rm,rx,ry,q⟩:=h
 cases x with
 |tup ds=>
  obtain⟨i,d,rfl,e,q⟩:=q;obtain⟨a,vs,rfl,j,rs⟩:=Nx rx
  cases Nr.mp ry
  obtain⟨w,hw,rw'⟩:=kf rs e;exact .inr (.inl ⟨a,vs,i,w,rfl,rfl,j,hw,q w H Ext.refl rm rw'⟩)
 |con ds=>
  obtain⟨i,d,rfl,e,q⟩:=q;obtain⟨a,vs,rfl,j,rs⟩:=Ny.mp rx
  cases Nr.mp ry
  obtain⟨w,hw,rw'⟩:=kf rs e;exact .inl ⟨a,vs,i,w,rfl,rfl,j.sq,hw,q w H Ext.refl rm rw'⟩
 |ref a=>
  cases Nt.mp rx
  rcases q with⟨ds,i,d,z,rfl,B,q⟩|⟨t,kvs,d,z,F,B,q⟩|⟨kvs,d,z,F,B,q⟩
  ·cases Nr.mp ry
   obtain⟨vs,j,rs⟩:=rm _ _ z;obtain⟨w,hw,rw'⟩:=kf rs B;exact .inl ⟨a,vs,i,w,rfl,rfl,SqL.of j,hw,q w H Ext.refl rm rw'⟩
  ·obtain⟨o,g,g1,_⟩:=mm rm z F ry;obtain⟨w,rfl,rw'⟩:=g1 d B;exact .inr (.inr ⟨a,w,rfl,g,q w H Ext.refl rm rw'⟩)
  ·obtain⟨ob,ps,J,pr⟩:=rm _ _ z;obtain⟨o,g,g1,_⟩:=pM (.inr ⟨ob,J⟩) pr F ry;obtain⟨w,rfl,rw'⟩:=g1 d B;exact .inr (.inr ⟨a,w,rfl,g,q w H Ext.refl rm rw'⟩)
 |_=>exact q.elim
noncomputable def kg(M:Mem):D->Option Nat
 |.tup ds=>Z ds.length
 |.con ds=>Z ds.length
 |.ref a=>match M a with
  |some (.lst ds)=>Z ds.length
  |_=>Y
 |_=>Y
noncomputable def dy:RAd:=λxs M Q=>∃x n,xs=[x]/\kg M x=Z n/\Q (.int n) M
theorem kh:aX dy:=λ_ _ _ _ h j=>(by obtain⟨x,n,e,l,q⟩:=j;exact⟨x,n,e,l,h _ _ q⟩)
theorem RDs.one(h:RDs K H [d] vs):∃v,vs=[v]/\RD K H d v:=by obtain⟨v,r,rfl,h1,h2⟩:=Nu.mp h;rw[RDs.nil_iff.mp h2];exact⟨v,rfl,h1⟩
theorem RDs.two{e:D}(h:RDs K H [d,e] vs):∃v u,vs=[v,u]/\RD K H d v/\RD K H e u:=by obtain⟨v,r,rfl,h1,h2⟩:=Nu.mp h;obtain⟨u,rfl,j⟩:=RDs.one h2;exact⟨v,u,rfl,h1,j⟩
theorem nJ:CallR X (.builtin "len") (lR X.K dy):=by
 refine CallR.of rj λvs H Q h=>?_;obtain⟨ds,M,rm,rs,x,n,rfl,l,q⟩:=h;obtain⟨v,rfl,r⟩:=rs.one;refine⟨v,n,rfl,?_,q _ H Ext.refl rm (Nr.mpr rfl)⟩
 cases x with
 |tup ds=>
  cases l
  obtain⟨a,us,rfl,j,ru⟩:=Nx r;exact .inr ⟨us,j,ru.length.symm⟩
 |con ds=>
  cases l
  obtain⟨a,us,rfl,j,ru⟩:=Ny.mp r;exact .inl ⟨us,j.sq,ru.length.symm⟩
 |ref a=>
  cases Nt.mp r
  simp only[kg]at l
  cases e:M a with
  |none=>rw[e]at l;cases l
  |some o=>
   rw[e]at l
   cases o with
   |dct _ _=>cases l
   |fdc _=>cases l
   |dcn _=>cases l
   |tab _ _=>cases l
   |fdn _=>cases l
   |lst ds=>
    cases l
    obtain⟨us,j,ru⟩:=rm _ _ e;exact .inl ⟨us,SqL.of j,ru.length.symm⟩
 |_=>cases l
noncomputable def ie:RAd:=λxs M Q=>∃i,xs=[.int i]/\Q (.int (if i<0 then -i else i)) M
noncomputable def gA:RAd:=λxs M Q=>∃i j,xs=[.int i,.int j]/\Q (.int (if j<i then j else i)) M
noncomputable def ig:RAd:=λxs M Q=>(∃i,xs=[.int i]/\Q (.int i) M)∨∃k,xs=[.bl k]/\Q (.int (if k then 1 else 0)) M
theorem ki:aX ie:=λ_ _ _ _ h j=>(by obtain⟨i,e,q⟩:=j;exact⟨i,e,h _ _ q⟩)
theorem iQ:aX gA:=λ_ _ _ _ h z=>(by obtain⟨i,j,e,q⟩:=z;exact⟨i,j,e,h _ _ q⟩)
theorem kj:aX ig:=λ_ _ _ _ h q=>q.elim (λj=>(by obtain⟨i,e,q⟩:=j;exact .inl ⟨i,e,h _ _ q⟩)) λj=>(by obtain⟨i,e,q⟩:=j;exact .inr ⟨i,e,h _ _ q⟩)
theorem nK:CallR X (.builtin "abs") (lR X.K ie):=by
 refine CallR.of rh λvs H Q h=>?_;obtain⟨ds,M,rm,rs,i,rfl,q⟩:=h;obtain⟨v,rfl,r⟩:=rs.one
 cases Nr.mp r
 exact⟨i,rfl,q _ H Ext.refl rm (Nr.mpr rfl)⟩
theorem lu(z:X.calm=NQ):CallR X (.builtin "min") (lR X.K gA):=by
 refine CallR.of (oW z) λvs H Q h=>?_;obtain⟨ds,M,rm,rs,i,j,rfl,q⟩:=h;obtain⟨v,u,rfl,B,F⟩:=rs.two
 cases Nr.mp B
 cases Nr.mp F
 exact⟨i,j,rfl,q _ H Ext.refl rm (Nr.mpr rfl)⟩
theorem nL:CallR X (.type "int") (lR X.K ig):=by
 refine CallR.of oZ λvs H Q h=>?_;obtain⟨ds,M,rm,rs,⟨i,rfl,q⟩|⟨i,rfl,q⟩⟩:=h
 ·obtain⟨v,rfl,r⟩:=rs.one
  cases Nr.mp r
  exact .inl ⟨i,rfl,q _ H Ext.refl rm (Nr.mpr rfl)⟩
 ·obtain⟨v,rfl,r⟩:=rs.one
  cases Nv.mp r
  exact .inr ⟨i,rfl,q _ H Ext.refl rm (Nr.mpr rfl)⟩
noncomputable def bj(M:Mem):D->Option (List D)
 |.tup ds=>Z ds
 |.con ds=>Z ds
 |.ref a=>match M a with
  |some (.lst ds)=>Z ds
  |_=>Y
 |_=>Y
theorem pN(rm:RM K M H)(r:RD K H x v)(e:bj M x=Z ds):∃p vs,v=.ref p/\(SqL K H p vs∨SqT K H p vs)/\RDs K H ds vs:=by
 cases x with
 |tup es=>
  cases e
  obtain⟨a,us,rfl,j,ru⟩:=Nx r;exact⟨a,us,rfl,.inr j,ru⟩
 |con es=>
  cases e
  obtain⟨a,us,rfl,j,ru⟩:=Ny.mp r;exact⟨a,us,rfl,.inl j.sq,ru⟩
 |ref a=>
  cases Nt.mp r
  simp only[bj]at e
  cases e0:M a with
  |none=>rw[e0]at e;cases e
  |some o=>
   rw[e0]at e
   cases o with
   |dct _ _=>cases e
   |fdc _=>cases e
   |dcn _=>cases e
   |tab _ _=>cases e
   |fdn _=>cases e
   |lst es=>
    cases e
    obtain⟨us,j,ru⟩:=rm _ _ e0;exact⟨a,us,rfl,.inl (SqL.of j),ru⟩
 |_=>cases e
noncomputable def jn:RAd:=λxs M Q=>∃x ds,xs=[x]/\bj M x=Z ds/\∀p,M p=Y->Q (.ref p) (af M p (.lst ds))
theorem iR:aX jn:=λ_ _ _ _ h j=>(by obtain⟨x,ds,e,l,q⟩:=j;exact⟨x,ds,e,l,λp n=>h _ _ (q p n)⟩)
theorem lw:CallR X (.type "list") (lR X.K jn):=by refine CallR.of jO λvs H Q h=>?_;obtain⟨ds,M,rm,rs,x,es,rfl,l,q⟩:=h;obtain⟨v,rfl,r⟩:=rs.one;obtain⟨p,us,rfl,sq,ru⟩:=pN rm r l;exact⟨p,us,rfl,sq,λl' n=>bO rm ru q n⟩
end
end
variable{tA:TTd}
section
section
variable{X:Cx}
noncomputable def nM:RAd:=λxs M Q=>∃(x:D) (ns:List Int),xs=[x]/\bj M x=Z (ns.map D.int)/\Q (.int ns.sum) M
theorem kl:aX nM:=λ_ _ _ _ h j=>(by obtain⟨x,ds,e,l,q⟩:=j;exact⟨x,ds,e,l,h _ _ q⟩)
theorem ND{K:Frag}{H:Hp}:∀{ns:List Int} {vs:List V},RDs K H (ns.map D.int) vs->vs=ns.map V.int
 |[],_,h=>RDs.nil_iff.mp h
 |n::ns,_,h=>by obtain⟨v,r,rfl,h1,h2⟩:=Nu.mp h;rw[Nr.mp h1,ND h2];rfl
theorem km{pins:List (NS×Obj)}{σ:St}{s:q7}{p:NS}{ns:List Int}{its:List gV}(I:Inv X pins σ H s)(O:X.calm=NQ)(rv:Vals (ns.map V.int) its)(q:Q (.int ns.sum) H)(h:∀(R:gV->q7->Prop),(∀I' St fp,(∀b∈fp,b<(s.heap.push I').objs.size)->St 0 (s.heap.push I')->Walks X.prog X.w X.A.in1 s.heap.objs.size fp [s.heap.objs.size] its.toArray.size (λi v=>its.toArray[i]?=Z v) St->R (.ref s.heap.objs.size) {s with heap:=s.heap.push I'})->DU (model X.prog X.w) X.A.in1 (JC (.ref p)) R X.xe s):
 DU (model X.prog X.w) X.A (call (.builtin "sum") [.ref p]) (EP X pins σ Q) X.xe s:=by
 refine call_sum_walkG (h _ λob St fp z st W=>⟨_,fp,_,_,_,St,λi=>ns.getD i 0,rfl,W,st,z,λi v B=>?_,λh' tk t' F=>?_⟩)
 ·have j:its[i]?=Z v:=by simpa using B
  have J:=rv.length;rw[DY]at J;have hi:i<its.length:=(DT.mp j).1;have L:(ns.map V.int)[i]?=Z (.int (ns.getD i 0)):=by
   rw[Em,z4 ∅]
   simp[List.getD_eq_getElem?_getD,z4 (show i<ns.length by lia)]
  obtain⟨u,hu,t,rfl⟩:=rv.get L;rw[j]at hu;cases hu;exact⟨t,rfl⟩
 ·have e:preSum (fun i=>ns.getD i 0) its.toArray.size=ns.sum:=by
   rw[preSum_getD,E8,<-rv.length,DY,List.take_length]
  rw[e];refine⟨.int ns.sum,H,I.kept (h':=h') (t':=tk) λb o eb=>?_,⟨t',rfl⟩,q⟩;exact F b o (by simp;exact Ep (D0 eb)) (i2 _ eb)
theorem nN(B:X.calm=NQ):CallR X (.builtin "sum") (lR X.K nM):=by
 intro pins s σ H xs us Q I rv h;obtain⟨ds,M,rm,rs,x,ns,rfl,l,q⟩:=h;obtain⟨v,rfl,r⟩:=rs.one;obtain⟨u,rfl,ru⟩:=eJ rv;obtain⟨p,vs,rfl,sq,L⟩:=pN rm r l
 cases ru
 have e:=ND L;subst e;have fin:=q (.int ns.sum) H Ext.refl rm (Nr.mpr rfl)
 rcases sq with sq|sq
 ·obtain⟨its,rv,pl,O⟩:=I.list sq;have F:p≠s.heap.objs.size:=by
   obtain⟨o,n,e,_⟩:=pl;exact Ep (D0 e)
  refine km I B rv fin λR hR=>Jz pl.isList ?_;refine hR _ _ [s.heap.objs.size,p] (λb J=>?_) ⟨⟨_,DW _ rfl,rfl,rfl⟩,pl.isList.at λo e=>i2 _ e⟩ (Walks.list (by rw[Lh];exact I.ok.hd B) s.heap.objs.size p F its.toArray)
  rw[Fp]
  rcases DX.mp J with z|z
  ·lia
  ·have z':b=p:=by simpa using z
   subst z';obtain⟨o,n,e,_⟩:=pl;exact Hu (D0 e)
 ·obtain⟨its,rv,pl,O⟩:=I.tuple sq;have j:p<s.heap.objs.size:=by
   obtain⟨o,e,_⟩:=pl;exact D0 e
  refine km I B rv fin λR hR=>Li (show s.heap.IsTuple p its.toArray from pl) ?_;refine hR _ _ [s.heap.objs.size,p] (λb J=>?_) ⟨⟨_,DW _ rfl,rfl,rfl⟩,?_⟩ (Walks.tuple (by rw[Lh];exact I.ok.hd B) s.heap.objs.size p (Ep j) its.toArray)
  ·rw[Fp]
   rcases DX.mp J with z|z
   ·lia
   ·have z':b=p:=by simpa using z
    rw[z'];exact Hu j
  ·obtain⟨o,e,c,n,d⟩:=pl;exact⟨o,i2 _ e,c,n,d⟩
noncomputable def sf(M:Mem):D->Option Bool
 |.non=>Z NR
 |.bl b=>Z b
 |.int i=>Z (i != 0)
 |.tup ds=>Z (!ds.isEmpty)
 |.con ds=>Z (!ds.isEmpty)
 |.ref a=>match M a with
  |some (.lst ds)=>Z (!ds.isEmpty)
  |_=>Y
 |_=>Y
noncomputable def nO(t:TEd):TTd:=λρ M Q=>t ρ M λx M1=>∃b,sf M1 x=Z b/\Q b M1
theorem sg{t:TEd}(h:ab t):av (nO t):=λρ M Q Q' i q=>h _ _ _ _ (λx B j=>(by obtain⟨k,e,z⟩:=j;exact⟨k,e,i _ _ z⟩)) q
theorem xo{b:Bool}(rm:RM K M H)(r:RD K H x v)(e:sf M x=Z b):rf K v H b:=by
 have emp:∀{ds:List D} {vs:List V},RDs K H ds vs->(!ds.isEmpty) = !vs.isEmpty:=λ{ds vs} h=>by
  have l:=h.length
  cases ds<;>cases vs<;>first|rfl|(simp at l)
 cases x with
 |non=>cases e;cases NA.mp r;rfl
 |bl k=>cases e;cases Nv.mp r;rfl
 |int i=>cases e;cases Nr.mp r;rfl
 |tup ds=>
  cases e
  obtain⟨a,vs,rfl,j,rs⟩:=Nx r;exact .inr (.inl ⟨vs,j,emp rs⟩)
 |con ds=>
  cases e
  obtain⟨a,vs,rfl,j,rs⟩:=Ny.mp r;exact .inl ⟨vs,j.sq,emp rs⟩
 |ref a=>
  cases Nt.mp r
  simp only[sf]at e
  cases e0:M a with
  |none=>rw[e0]at e;cases e
  |some o=>
   rw[e0]at e
   cases o with
   |dct _ _=>cases e
   |fdc _=>cases e
   |dcn _=>cases e
   |tab _ _=>cases e
   |fdn _=>cases e
   |lst ds=>
    cases e
    obtain⟨vs,j,rs⟩:=rm _ _ e0;exact .inl ⟨vs,SqL.of j,emp rs⟩
 |str _=>cases e
 |fn _=>cases e
variable{a b:Expr}{ta tb:TEd}{pos:Pos}
theorem xp(m:ab ta)(B:PE X a (lE X.K ta))(he:∀whole,isTrue a X.env whole=(do let v <-whole;Jy a.pos;holding [v] (truthy v))):PT X a (lT X.K (nO ta)):=by refine PT.imp (rg B he) λσ H Q h=>?_;obtain⟨ρ,M,rs,rm,q⟩:=h;exact⟨ρ,M,rs,rm,m _ _ _ _ (λx O F v H1 J j z=>(by obtain⟨k,e,L⟩:=F;exact⟨k,xo j z e,L H1 J j⟩)) q⟩
noncomputable def jo(t:TTd):TTd:=λρ M Q=>t ρ M λc M1=>Q (!c) M1
theorem pO{t:TTd}(h:av t):av (jo t):=λρ M Q Q' i q=>h _ _ _ _ (λc z j=>i _ _ j) q
theorem xq(m:av tA)(j:PT X a (lT X.K tA)):PT X (.UnaryOp .Not a pos) (lT X.K (jo tA)):=by refine PT.imp (wu j) λσ H Q h=>?_;obtain⟨ρ,M,rs,rm,q⟩:=h;exact⟨ρ,M,rs,rm,m _ _ _ _ (λc B z=>z) q⟩
noncomputable def jq(t u:TTd):TTd:=λρ M Q=>t ρ M λc M1=>if c=NQ then u ρ M1 Q else Q NR M1
noncomputable def nP(t u:TTd):TTd:=λρ M Q=>t ρ M λc M1=>if c=NQ then Q NQ M1 else u ρ M1 Q
theorem pP{t u:TTd}(h:av t)(k:av u):av (jq t u):=λρ M Q Q' i q=>h _ _ _ _ (λc z j=>by
 cases c with
 |true=>rw[if_pos rfl]at j⊢;exact k _ _ _ _ i j
 |false=>rw[if_neg E5]at j⊢;exact i _ _ j) q
theorem si{t u:TTd}(h:av t)(k:av u):av (nP t u):=λρ M Q Q' i q=>h _ _ _ _ (λc z j=>by
 cases c with
 |true=>rw[if_pos rfl]at j⊢;exact i _ _ j
 |false=>rw[if_neg E5]at j⊢;exact k _ _ _ _ i j) q
theorem ve(j:PT X a (lT X.K tA)):PW X (.BoolOp .And [a] pos) (lT X.K tA):=uB j
theorem xt(j:PT X a (lT X.K tA)):PW X (.BoolOp .Or [a] pos) (lT X.K tA):=wq j
theorem xu{tB:TTd}{rest:List Expr}(mA:av tA)(mB:av tB)(F:PT X a (lT X.K tA))(J:PW X (.BoolOp .And (b::rest) pos) (lT X.K tB)):PW X (.BoolOp .And (a::b::rest) pos) (lT X.K (jq tA tB)):=by
 refine PW.imp (wt F J) λσ H Q h=>?_;obtain⟨ρ,M,rs,rm,q⟩:=h;refine⟨ρ,M,rs,rm,mA _ _ _ _ (λc L z H1 B j=>?_) q⟩
 cases c with
 |true=>rw[if_pos rfl]at z⊢;exact⟨ρ,L,rs.mono (B.stab rm),j,mB _ _ _ _ (λd M2 k=>k.ext B) z⟩
 |false=>rw[if_neg E5]at z⊢;exact z H1 B j
theorem yY{tB:TTd}{rest:List Expr}(mA:av tA)(mB:av tB)(F:PT X a (lT X.K tA))(J:PW X (.BoolOp .Or (b::rest) pos) (lT X.K tB)):PW X (.BoolOp .Or (a::b::rest) pos) (lT X.K (nP tA tB)):=by
 refine PW.imp (yq F J) λσ H Q h=>?_;obtain⟨ρ,M,rs,rm,q⟩:=h;refine⟨ρ,M,rs,rm,mA _ _ _ _ (λc L z H1 B j=>?_) q⟩
 cases c with
 |true=>rw[if_pos rfl]at z⊢;exact z H1 B j
 |false=>rw[if_neg E5]at z⊢;exact⟨ρ,L,rs.mono (B.stab rm),j,mB _ _ _ _ (λd M2 k=>k.ext B) z⟩
noncomputable def jr(ta tb:TEd):TEd:=λρ M Q=>ta ρ M λx M1=>∃c,x=.bl c/\if c=NQ then tb ρ M1 Q else Q (.bl NR) M1
noncomputable def nQ(ta tb:TEd):TEd:=λρ M Q=>ta ρ M λx M1=>∃c,x=.bl c/\if c=NQ then Q (.bl NQ) M1 else tb ρ M1 Q
noncomputable def jt(ta:TEd):TEd:=λρ M Q=>ta ρ M λx M1=>∃c,x=.bl c/\Q (.bl (!c)) M1
theorem pQ(h:ab ta)(k:ab tb):ab (jr ta tb):=λρ M Q Q' i q=>h _ _ _ _ (λx z ⟨c,e,j⟩=>⟨c,e,by
 cases c with
 |true=>rw[if_pos rfl]at j⊢;exact k _ _ _ _ i j
 |false=>rw[if_neg E5]at j⊢;exact i _ _ j⟩) q
theorem sj(h:ab ta)(k:ab tb):ab (nQ ta tb):=λρ M Q Q' i q=>h _ _ _ _ (λx z ⟨c,e,j⟩=>⟨c,e,by
 cases c with
 |true=>rw[if_pos rfl]at j⊢;exact i _ _ j
 |false=>rw[if_neg E5]at j⊢;exact k _ _ _ _ i j⟩) q
theorem pR(h:ab ta):ab (jt ta):=λρ M Q Q' i q=>h _ _ _ _ (λx B j=>(by obtain⟨c,e,z⟩:=j;exact⟨c,e,i _ _ z⟩)) q
theorem pS{op:BoolOp}{t:TEd}(h:PE X a (lE X.K t)):PE X (.BoolOp op [a] pos) (lE X.K t):=wv h
theorem xv{rest:List Expr}(ma:ab ta)(mb:ab tb)(J:PE X a (lE X.K ta))(L:PE X (.BoolOp .And (b::rest) pos) (lE X.K tb)):PE X (.BoolOp .And (a::b::rest) pos) (lE X.K (jr ta tb)):=by
 refine PE.imp (ww J L) λσ H Q h=>?_;obtain⟨ρ,M,rs,rm,q⟩:=h;refine⟨ρ,M,rs,rm,ma _ _ _ _ (λx O g9 v H1 B j F=>?_) q⟩;obtain⟨c,e,z⟩:=g9;subst e;refine⟨c,Nv.mp F,?_⟩
 cases c with
 |true=>rw[if_pos rfl]at z⊢;exact⟨ρ,O,rs.mono (B.stab rm),j,mb _ _ _ _ (λd M2 k=>k.ext B) z⟩
 |false=>rw[if_neg E5]at z⊢;exact z _ H1 B j (Nv.mpr rfl)
theorem yZ{rest:List Expr}(ma:ab ta)(mb:ab tb)(J:PE X a (lE X.K ta))(L:PE X (.BoolOp .Or (b::rest) pos) (lE X.K tb)):PE X (.BoolOp .Or (a::b::rest) pos) (lE X.K (nQ ta tb)):=by
 refine PE.imp (yu J L) λσ H Q h=>?_;obtain⟨ρ,M,rs,rm,q⟩:=h;refine⟨ρ,M,rs,rm,ma _ _ _ _ (λx O g9 v H1 B j F=>?_) q⟩;obtain⟨c,e,z⟩:=g9;subst e;refine⟨c,Nv.mp F,?_⟩
 cases c with
 |true=>rw[if_pos rfl]at z⊢;exact z _ H1 B j (Nv.mpr rfl)
 |false=>rw[if_neg E5]at z⊢;exact⟨ρ,O,rs.mono (B.stab rm),j,mb _ _ _ _ (λd M2 k=>k.ext B) z⟩
theorem xx(ma:ab ta)(B:PE X a (lE X.K ta)):PE X (.UnaryOp .Not a pos) (lE X.K (jt ta)):=by refine PE.imp (wx B) λσ H Q h=>?_;obtain⟨ρ,M,rs,rm,q⟩:=h;refine⟨ρ,M,rs,rm,ma _ _ _ _ (λx L g9 v H1 J j z=>?_) q⟩;obtain⟨c,e,F⟩:=g9;subst e;exact⟨c,Nv.mp z,F _ H1 J j (Nv.mpr rfl)⟩
noncomputable def wIf(t:TTd)(ta tb:TEd):TEd:=λρ M Q=>t ρ M λc M1=>if c=NQ then ta ρ M1 Q else tb ρ M1 Q
theorem vf{t:TTd}(h:av t)(z:ab ta)(B:ab tb):ab (wIf t ta tb):=λρ M Q Q' i q=>h _ _ _ _ (λc F j=>by
 cases c with
 |true=>rw[if_pos rfl]at j⊢;exact z _ _ _ _ i j
 |false=>rw[if_neg E5]at j⊢;exact B _ _ _ _ i j) q
theorem z0{c:Expr}{t:TTd}(mt:av t)(ma:ab ta)(mb:ab tb)(J:PT X c (lT X.K t))(L:PE X a (lE X.K ta))(O:PE X b (lE X.K tb)):PE X (.IfExp c a b pos) (lE X.K (wIf t ta tb)):=by
 refine PE.imp (qV J L O) λσ H Q h=>?_;obtain⟨ρ,M,rs,rm,q⟩:=h;refine⟨ρ,M,rs,rm,mt _ _ _ _ (λx F z H1 B j=>?_) q⟩
 cases x with
 |true=>rw[if_pos rfl]at z⊢;exact⟨ρ,F,rs.mono (B.stab rm),j,ma _ _ _ _ (λd M2 k=>k.ext B) z⟩
 |false=>rw[if_neg E5]at z⊢;exact⟨ρ,F,rs.mono (B.stab rm),j,mb _ _ _ _ (λd M2 k=>k.ext B) z⟩
noncomputable def dz(xs:List D)(lo hi:Option Int):List D:=(xs.drop (HT.sIx xs.length 0 lo)).take (HT.sIx xs.length xs.length hi-HT.sIx xs.length 0 lo)
theorem kn(r:RDs K H ds vs)(lo hi:Option Int):RDs K H (dz ds lo hi) (dP vs lo hi):=by unfold dz dP;rw[r.length];exact(r.drop _).take _
noncomputable abbrev TOd:=ak->Mem->(Option Int->Mem->Prop)->Prop
def dA(T:TOd):Prop:=∀ρ M Q Q',(∀d M',Q d M'->Q' d M')->T ρ M Q->T ρ M Q'
noncomputable def eP:TOd:=λ_ M Q=>Q Y M
noncomputable def ju(t:TEd):TOd:=λρ M Q=>t ρ M λx M1=>∃i,x=.int i/\Q (Z i) M1
theorem lz:dA eP:=λ_ _ _ _ h q=>h _ _ q
theorem pT(h:ab ta):dA (ju ta):=λρ M Q Q' i q=>h _ _ _ _ (λx B j=>(by obtain⟨c,e,z⟩:=j;exact⟨c,e,i _ _ z⟩)) q
noncomputable def lO(K:Frag)(T:TOd):TO:=λσ H Q=>∃ρ M,RS K H σ ρ/\RM K M H/\T ρ M (λo M'=>∀H',Ext M H M' H'->RM K M' H'->Q o H')
theorem vg:PO X Y (lO X.K eP):=λpins s σ H Q I h=>by obtain⟨ρ,M,rs,rm,q⟩:=h;exact uL pins s σ H Q I (q H Ext.refl rm)
theorem vh(m:ab ta)(h:PE X e (lE X.K ta)):PO X (Z e) (lO X.K (ju ta)):=λpins s σ H Q I hq=>by obtain⟨ρ,M,rs,rm,q⟩:=hq;refine uM h pins s σ H Q I ⟨ρ,M,rs,rm,m _ _ _ _ (λx J g9 v H1 F j z=>?_) q⟩;obtain⟨i,e,B⟩:=g9;subst e;exact⟨i,Nr.mp z,B H1 F j⟩
noncomputable def bg:D->Option Int->Option Int->Mem->QD->Prop:=λx lo hi M Q=>match x with
 |.tup ds=>Q (.tup (dz ds lo hi)) M
 |.ref a=>∃ds,M a=Z (.lst ds)/\∀p,M p=Y->Q (.ref p) (af M p (.lst (dz ds lo hi)))
 |.con ds=>∀p,M p=Y->Q (.ref p) (af M p (.lst (dz ds lo hi)))
 |_=>False
noncomputable def wSl(te:TEd)(tl th:TOd):TEd:=λρ M Q=>te ρ M λx M1=>tl ρ M1 λl M2=>th ρ M2 λu M3=>bg x l u M3 Q
theorem nR{lo hi:Option Int}{Q Q':QD}(h:∀d M',Q d M'->Q' d M')(q:bg x lo hi M Q):bg x lo hi M Q':=by
 cases x with
 |tup ds=>exact h _ _ q
 |ref a=>obtain⟨ds,e,q⟩:=q;exact⟨ds,e,λp n=>h _ _ (q p n)⟩
 |con ds=>exactλp n=>h _ _ (q p n)
 |_=>exact q.elim
theorem vj{tl th:TOd}(m:ab ta)(ml:dA tl)(mh:dA th):ab (wSl ta tl th):=λρ M Q Q' i q=>m _ _ _ _ (λx F j=>ml _ _ _ _ (λl M2 z=>mh _ _ _ _ (λu J B=>nR i B) z) j) q
theorem z5{lo hi:Option Expr}{tl th:TOd}(m:ab ta)(ml:dA tl)(mh:dA th)(he:PE X e (lE X.K ta))(hl:PO X lo (lO X.K tl))(hu:PO X hi (lO X.K th)):
 PE X (.Subscript e (.Slice lo hi Y p2) pos) (lE X.K (wSl ta tl th)):=by
 refine PE.imp (rp (sl_tup.or (sl_list.or rC)) he hl hu) λσ H Q h=>?_;obtain⟨ρ,M,rs,rm,q⟩:=h;refine⟨ρ,M,rs,rm,m _ _ _ _ (λx M1 q1 v H1 U J NP=>?_) q⟩;refine⟨ρ,M1,rs.mono (U.stab rm),J,ml _ _ _ _ (λl M2 q2 H2 fv O=>?_) q1⟩;refine⟨ρ,M2,(rs.mono (U.stab rm)).mono (fv.stab J),O,mh _ _ _ _ (λu M3 z H3 x3 j=>?_) q2⟩;have B:=U.trans (fv.trans x3);have F:=(NP.mono (fv.stab J)).mono (x3.stab O)
 cases x with
 |tup ds=>
  obtain⟨a,vs,rfl,L,r⟩:=Nx F
  by_cases hw:HT.sIx vs.length 0 l=0/\HT.sIx vs.length vs.length u=vs.length
  ·refine .inr (.inr ⟨a,vs,rfl,L,hw,?_⟩);have e:dz ds l u=ds:=by
    unfold dz;rw[<-r.length,hw.1,hw.2,r.length];simp
   simp only[bg]at z;rw[e]at z;exact z.ext B _ H3 Ext.refl j F
  ·simp only[bg]at z;exact .inl ⟨a,vs,rfl,L,hw,λp n=>eO j (kn r l u) (z.ext B) n⟩
 |ref a=>
  cases Nt.mp F
  obtain⟨ds,e,z⟩:=z;obtain⟨vs,L,r⟩:=j _ _ e;exact .inr (.inl ⟨a,vs,rfl,SqL.of L,λp n=>bO j (kn r l u) (λp' n'=>(z p' n').ext B) n⟩)
 |con ds=>obtain⟨a,vs,rfl,L,r⟩:=Ny.mp F;exact .inr (.inl ⟨a,vs,rfl,L.sq,λp n=>bO j (kn r l u) (λp' n'=>(z p' n').ext B) n⟩)
 |_=>exact z.elim
end
end
variable{tg:Expr}{H1:Hp}
section
section
variable{X:Cx}
noncomputable def tyN(M:Mem):D->Option String
 |.non=>Z "NoneType"
 |.bl _=>Z "bool"
 |.int _=>Z "int"
 |.str _=>Z "str"
 |.tup _=>Z "tuple"
 |.ref a=>match M a with
  |some (.lst _)=>Z "list"
  |some (.dct _ _)=>Z "dict"
  |_=>Y
 |.con _=>Y
 |.fn _=>Y
noncomputable def sk(T t:String):Bool:=t==T || (t=="bool"&&T=="int")
theorem z6{t:String}(rm:RM K M H)(r:RD K H x v)(e:tyN M x=Z t):bS K H v (.type t):=by
 cases x with
 |non=>cases e;cases NA.mp r;exact .non
 |bl k=>cases e;cases Nv.mp r;exact .bl k
 |int i=>cases e;cases Nr.mp r;exact .int i
 |str i=>cases e;cases Nz.mp r;exact .str i
 |tup ds=>
  cases e
  obtain⟨a,vs,rfl,j,rs⟩:=Nx r;exact .tup j
 |con ds=>cases e
 |fn _=>cases e
 |ref a=>
  cases Nt.mp r
  simp only[tyN]at e
  cases e0:M a with
  |none=>rw[e0]at e;cases e
  |some o=>
   rw[e0]at e
   cases o with
   |lst ds=>
    cases e
    obtain⟨vs,j,rs⟩:=rm _ _ e0;exact .lst j
   |dct t kvs=>
    cases e
    have ro:=rm _ _ e0
    cases t with
    |false=>obtain⟨ps,j,_⟩:=ro;exact .dK j
    |true=>obtain⟨ps,j,_⟩:=ro;exact .dT j
   |fdc kvs=>cases e
   |dcn _=>cases e
   |tab _ _=>cases e
   |fdn _=>cases e
noncomputable def cF:List String:=["NoneType","bool","int","str","tuple","list","dict"]
theorem vm(K:Frag):∀T∈["bool","int","str","tuple","list","dict"],∀t∈cF,PySem.W.kitOne K (.type t) (.type T)=Z (sk T t):=by
 intro T j t z;simp only[cF,DX,EU,or_false]at j z
 rcases j with rfl|rfl|rfl|rfl|rfl|rfl<;>rcases z with rfl|rfl|rfl|rfl|rfl|rfl|rfl<;>rfl
noncomputable def jv(T:String)(ta:TEd):TEd:=λρ M Q=>ta ρ M λx M1=>∃t,tyN M1 x=Z t/\Q (.bl (sk T t)) M1
theorem pU{T:String}(h:ab ta):ab (jv T ta):=λρ M Q Q' i q=>h _ _ _ _ (λx B j=>(by obtain⟨t,e,z⟩:=j;exact⟨t,e,i _ _ z⟩)) q
theorem vp{t:String}(e:tyN M x=Z t):t∈cF:=by
 cases x with
 |ref a=>
  simp only[tyN]at e
  cases e0:M a with
  |none=>rw[e0]at e;cases e
  |some o=>rw[e0]at e;cases o<;>cases e<;>simp[cF]
 |con _=>cases e
 |fn _=>cases e
 |_=>cases e;simp[cF]
theorem pV(T:String)(j:T∈["bool","int","str","tuple","list","dict"]):CallR X (.builtin "isinstance") (λvs H Q=>∃v t,vs=[v,.ty T]/\bS X.K H v (.type t)/\t∈cF/\Q (.bl (sk T t)) H):=by
 intro pins s σ H xs us Q I r h;obtain⟨v,t,rfl,ty,z,q⟩:=h;obtain⟨u,c,rfl,ru,rc⟩:=tZ r
 cases rc
 exact p7 I ru ty (vm X.K T j t z) λtk=>⟨.bl _,H,I.tok tk,rfl,q⟩
theorem vq{T:String}{y:Str}(O:T∈["bool","int","str","tuple","list","dict"])(m:ab ta)(he:PE X e (lE X.K ta))(U:Gl X "isinstance")(hm:X.mg "isinstance"=Y)(z:Gl X y)(B:X.mg y=Y)(NP:H0 y=Z (.type T))(fv:y≠"__name__")(F:(y==("__debug__":Str))=NR)(hs:EA [e,.Name y p2] X.env=(NR,eval e X.env)::EA [.Name y p2] X.env)(J:(Ic pos (EA [.Name y p2] X.env)).any (·.1)=NR):
 PE X (.Call (.Name "isinstance" p) [e,.Name y p2] [] pos) (lE X.K (jv T ta)):=by
 have h2:PE X (.Name y p2) (tC (.ty T)):=uA z B NP rfl fv F;refine PE.imp (cK (pV T O) U hm (by decide +kernel) (hZ he (hZ h2 p9 rfl) hs) (by decide) (by decide) hs J) λσ H Q h=>?_
 obtain⟨ρ,M,rs,rm,q⟩:=h;exact⟨ρ,M,rs,rm,m _ _ _ _ (λx M1 g9 v H1 x1 j L=>(by obtain⟨t,e,q1⟩:=g9;exact⟨v,t,rfl,z6 j L e,vp e,q1 _ H1 x1 j (Nv.mpr rfl)⟩)) q⟩
noncomputable def wBM(rd:D->List D->Mem->QD->Prop)(to:TEd)(t:TAd):TEd:=λρ M Q=>to ρ M λx M1=>(∃a xs,x=.ref a/\M1 a=Z (.lst xs))/\t ρ M1 λds M2=>rd x ds M2 Q
def jw(rd:D->List D->Mem->QD->Prop):Prop:=∀x ds M Q Q',(∀d M',Q d M'->Q' d M')->rd x ds M Q->rd x ds M Q'
theorem vt{rd:D->List D->Mem->QD->Prop}{to:TEd}{t:TAd}(j:jw rd)(mo:ab to)(mt:ba t):ab (wBM rd to t):=λρ M Q Q' i q=>mo _ _ _ _ (λx J z=>(by obtain⟨e,B⟩:=z;exact⟨e,mt _ _ _ _ (λds M2 F=>j _ _ _ _ _ i F) B⟩)) q
theorem z7(rm:RM K M H)(r:RD K H x v)(h:∃a xs,x=.ref a/\M a=Z (.lst xs)):tyV K "list" v H:=by
 obtain⟨a,xs,rfl,e⟩:=h
 cases Nt.mp r
 obtain⟨vs,j,_⟩:=rm _ _ e;exact .inl ⟨rfl,vs,SqL.of j⟩
theorem vw{rd:D->List D->Mem->QD->Prop}{r:V->List V->Hp->VK->Prop}{to:TEd}{t:TAd}(O:jw rd)(mo:ab to)(mt:ba t)(U:∀v vs H Q,lMt K rd v vs H Q->r v vs H Q)(σ:St)(H:Hp)(Q:VK)(h:lE K (wBM rd to t) σ H Q):tBM K "list" r (lE K to) (lA K t) σ H Q:=by obtain⟨ρ,M,rs,rm,q⟩:=h;refine⟨ρ,M,rs,rm,mo _ _ _ _ (λx NP ⟨e,fv⟩ v H1 J j z=>⟨z7 j z e,?_⟩) q⟩;refine⟨ρ,NP,rs.mono (J.stab rm),j,mt _ _ _ _ (λds M2 q2 vs H2 L B F=>?_) fv⟩;exact U v vs H2 Q ⟨x,ds,M2,B,z.mono (L.stab j),F,O _ _ _ _ _ (λd M' k=>k.ext (J.trans L)) q2⟩
noncomputable def eQ:D->List D->Mem->QD->Prop:=λx ds M Q=>∃a xs y,x=.ref a/\ds=[y]/\M a=Z (.lst xs)/\xs.length<D2/\Q .non (af M a (.lst (xs++[y])))
theorem fD:jw eQ:=λ_ _ _ _ _ h j=>(by obtain⟨a,xs,y,B,F,J,z,q⟩:=j;exact⟨a,xs,y,B,F,J,z,h _ _ q⟩)
theorem vx{o0:O}(rm:RM K M H)(m:M a=Z o0)(rd:RDs K H ds vs)(r:RD K H d v)(q:KE' K M H Q d (af M a (.lst ds)))(w:fz (Z o0)=NR:=by rfl):
 Q v (upd H a (.lst vs)):=by
 have st:Stab H (upd H a (.lst vs)):=rm.stabPut m w;exact q v _ (Ext.put m w) (rm.put m ⟨vs,aH,rd.mono st⟩ w) (r.mono st)
theorem sn(v:V)(vs:List V)(H:Hp)(Q:VK)(h:lMt K eQ v vs H Q):lV v vs H Q:=by
 obtain⟨x,ds,M,rm,rx,rs,a,xs,y,rfl,rfl,e,z,q⟩:=h
 cases Nt.mp rx
 obtain⟨w,rfl,rw'⟩:=rs.one;obtain⟨us,j,ru⟩:=rm _ _ e;exact⟨a,us,w,rfl,rfl,j,by rw[ru.length];exact z,vx rm e (ru.append (RDs.cons rw' RDs.nil)) (NA.mpr rfl) q⟩
noncomputable abbrev BT:=D->ak->Option ak
noncomputable abbrev BTs:=List D->ak->Option ak
noncomputable def jx(i:Nat):BT:=λd ρ=>Z (ρ.set i (Z d))
noncomputable def so:BTs:=λds ρ=>match ds with|[]=>Z ρ|_=>Y
noncomputable def gB(b:BT)(bs:BTs):BTs:=λds ρ=>match ds with|d::r=>(b d ρ).bind λρ'=>bs r ρ'|[]=>Y
noncomputable def sr(bs:BTs):BT:=λd ρ=>match d with|.tup ds=>bs ds ρ|_=>Y
noncomputable def lG(K:Frag)(b:BT):TG:=λv σ H Q=>∃d ρ ρ',RD K H d v/\RS K H σ ρ/\b d ρ=Z ρ'/\∀σ',RS K H σ' ρ'->Q σ' H
noncomputable def lGs(K:Frag)(b:BTs):TGs:=λvs σ H Q=>∃ds ρ ρ',RDs K H ds vs/\RS K H σ ρ/\b ds ρ=Z ρ'/\∀σ',RS K H σ' ρ'->Q σ' H
theorem PG.imp{t t':TG}(h:PG X e t)(i:∀v σ H Q,t' v σ H Q->t v σ H Q):PG X e t':=λpins s σ H v u Q I r q=>h pins s σ H v u Q I r (i _ _ _ _ q)
theorem PGs.imp{e:List Expr}{t t':TGs}(h:PGs X e t)(i:∀v σ H Q,t' v σ H Q->t v σ H Q):PGs X e t':=λpins s σ H v u Q I r q=>h pins s σ H v u Q I r (i _ _ _ _ q)
theorem vy{i:Nat}{x:Str}(j:X.N.Nodup)(hi:X.N[i]?=Z x)(hx:Loc X.env.scope x)(hf:X.fn x=NQ∨X.env.scope.names.lookup x=Z .local):PG X (.Name x pos) (lG X.K (jx i)):=
 PG.imp (lN j hi hx hf) λv σ H Q ⟨d,ρ,ρ',r,rs,e,q⟩=>by
  cases e
  exact q _ (rs.set i r)
theorem vz:PGs X [] (lGs X.K so):=PGs.imp uF λvs σ H Q ⟨ds,ρ,ρ',r,rs,e,q⟩=>by
 cases ds with
 |nil=>cases e;exact⟨RDs.nil_iff.mp r,q σ rs⟩
 |cons _ _=>cases e
theorem su{es:List Expr}{b:BT}{bs:BTs}(h1:PG X e (lG X.K b))(h2:PGs X es (lGs X.K bs))(hs:(FX (e::es) X.env).map (·.2)=assign e X.env::(FX es X.env).map (·.2)):
 PGs X (e::es) (lGs X.K (gB b bs)):=PGs.imp (qY h1 h2 hs) λvs σ H Q ⟨ds,ρ,ρ',r,rs,e,q⟩=>by
 cases ds with
 |nil=>cases e
 |cons d ds=>
  obtain⟨v,vr,rfl,z,B⟩:=Nu.mp r;simp only[gB]at e
  cases j:b d ρ with
  |none=>rw[j]at e;cases e
  |some ρ1=>rw[j]at e;exact⟨v,vr,rfl,d,ρ,ρ1,z,rs,j,λσ' rs'=>⟨ds,ρ1,ρ',B,rs',e,q⟩⟩
theorem xz{es:List Expr}{k:Nat}{bs:BTs}{n:Nat}(z:X.calm=NQ)(hlen:∀ds ρ ρ',bs ds ρ=Z ρ'->ds.length=n)(h:PGs X es (lGs X.K bs))(B:(FX es X.env).length=n)(j:(FX es X.env).findIdx? (·.1)=Y):
 PG X (.Tuple es k pos) (lG X.K (sr bs)):=PG.imp (wF z h B j) λv σ H Q ⟨d,ρ,ρ',r,rs,e,q⟩=>by
 cases d with
 |tup ds=>obtain⟨a,vs,rfl,F,rv⟩:=Nx r;exact⟨a,vs,rfl,F,by rw[rv.length];exact hlen _ _ _ e,ds,ρ,ρ',rv,rs,e,q⟩
 |_=>cases e
noncomputable abbrev TId:=ak->Mem->(List D->(Mem->Prop)->Mem->Prop)->Prop
def cB(T:TId):Prop:=∀ρ M Q Q',(∀xs c M',Q xs c M'->Q' xs c M')->T ρ M Q->T ρ M Q'
def Yl(H H':Hp):Prop:=H'=H∨∃q vs,H q=Y/\H'=upd H q (.tup vs)
def ko(K:Frag)(H1:Hp)(xs:List D)(chk:Mem->Prop)(J:It):Prop:=∀M H,Stab H1 H->RM K M H->chk M->∀i,(xs.length<=i->J.stop i H)/\(i<xs.length->J.go i H /\
 ∀x H',J.yld i H x H'->Yl H H'/\∃d,xs[i]?=Z d/\RD K H' d x)
noncomputable def lI(K:Frag)(T:TId):TI:=λσ H R=>∃ρ M,RS K H σ ρ/\RM K M H/\T ρ M (λxs chk M1=>∀J H1,Ext M H M1 H1->RM K M1 H1->ko K H1 xs chk J->R J H1)
theorem PI.imp{t t':TI}(h:PI X tg e t)(i:∀σ H Q,t' σ H Q->t σ H Q):PI X tg e t':=λpins s σ H Q I q=>h pins s σ H Q I (i _ _ _ q)
theorem Yl.ext{H':Hp}(rm:RM K M H)(y:Yl H H'):Ext M H M H'/\RM K M H':=by
 rcases y with rfl|⟨q,vs,n,rfl⟩
 ·exact⟨Ext.refl,rm⟩
 ·exact⟨NF n,rm.new n⟩
noncomputable def zY(K:Frag)(tl:TE):TI:=λσ H R=>tl σ H λx H1=>∃a,x=.ref a/\(((∃xs,SqL K H1 a xs)/\R (Itl K a) H1)∨((∃xs,SqT K H1 a xs)/\R (Itt K a) H1))
theorem xA{l:Expr}{tl:TE}(F:PE X l tl):PI X tg l (zY X.K tl):=by
 intro pins s σ H R I h;refine thn (F pins s σ H _ I h) λv s1 J=>?_;obtain⟨x,H1,j,L,O⟩:=J;obtain⟨a,e,q⟩:=O;subst e
 cases L
 rcases q with⟨⟨xs,z⟩,q⟩|⟨⟨xs,z⟩,q⟩
 ·obtain⟨its,rv,p,U⟩:=j.list z;refine Jz p.isList ?_;refine⟨s1.heap.objs.size,[s1.heap.objs.size],_,_,H1,rfl,j.kept (t':=s1.toks) λb o e=>i2 _ e,oT a _,⟨_,DW _ rfl,rfl,rfl⟩,λb B=>?_,q⟩;have e:b=s1.heap.objs.size:=by simpa using B
  subst e;exact j.fpOk (E2 _) (j.hok.fresh (E2 _))
 ·obtain⟨its,rv,p,U⟩:=j.tuple z;refine Li (show s1.heap.IsTuple a its.toArray from p) ?_;refine⟨s1.heap.objs.size,[s1.heap.objs.size],_,_,H1,rfl,j.kept (t':=s1.toks) λb o e=>i2 _ e,nr a _,⟨_,DW _ rfl,rfl,rfl⟩,λb B=>?_,q⟩;have e:b=s1.heap.objs.size:=by simpa using B
  subst e;exact j.fpOk (E2 _) (j.hok.fresh (E2 _))
noncomputable def nS(ta:TEd):TId:=λρ M R=>ta ρ M λx M1=>∃ds,bj M1 x=Z ds/\R ds (λM=>bj M x=Z ds) M1
theorem sv(h:ab ta):cB (nS ta):=λρ M Q Q' i q=>h _ _ _ _ (λx B j=>(by obtain⟨ds,e,z⟩:=j;exact⟨ds,e,i _ _ _ z⟩)) q
theorem pW{chk:Mem->Prop}(h:∀M H,Stab H1 H->RM K M H->chk M->∃vs,SqL K H a vs/\RDs K H ds vs):ko K H1 ds chk (Itl K a):=λM H st rm c i=>by
 obtain⟨vs,sq,r⟩:=h M H st rm c;have l:=r.length;refine⟨λhi=>⟨vs,sq,∅⟩,λhi=>⟨⟨vs,vs[i]'∅,sq,z4 ∅⟩,λx H' y=>?_⟩⟩
 obtain⟨e,y⟩:=y;subst e;exact⟨.inl rfl,r.getV (y vs sq)⟩
theorem xB{chk:Mem->Prop}(h:∀M H,Stab H1 H->RM K M H->chk M->∃vs,SqT K H a vs/\RDs K H ds vs):ko K H1 ds chk (Itt K a):=λM H st rm c i=>by
 obtain⟨vs,sq,r⟩:=h M H st rm c;have l:=r.length;refine⟨λhi=>⟨vs,sq,∅⟩,λhi=>⟨⟨vs,vs[i]'∅,sq,z4 ∅⟩,λx H' y=>?_⟩⟩
 obtain⟨e,y⟩:=y;subst e;exact⟨.inl rfl,r.getV (y vs sq)⟩
theorem xC{l:Expr}(m:ab ta)(J:PE X l (lE X.K ta)):PI X tg l (lI X.K (nS ta)):=by
 refine PI.imp (xA J) λσ H R h=>?_;obtain⟨ρ,M,rs,rm,q⟩:=h;refine⟨ρ,M,rs,rm,m _ _ _ _ (λx O g9 v H1 F j rd1=>?_) q⟩;obtain⟨ds,e,B⟩:=g9
 cases x with
 |tup es=>
  cases e
  obtain⟨a,vs,rfl,z,rv⟩:=Nx rd1;exact⟨a,rfl,.inr ⟨⟨vs,z⟩,B _ H1 F j (xB λM' H' st _ _=>⟨vs,st.sqT z,rv.mono st⟩)⟩⟩
 |con es=>
  cases e
  obtain⟨a,vs,rfl,z,rv⟩:=Ny.mp rd1;exact⟨a,rfl,.inl ⟨⟨vs,z.sq⟩,B _ H1 F j (pW λM' H' st _ _=>⟨vs,(st.sqF z).sq,rv.mono st⟩)⟩⟩
 |ref a=>
  cases Nt.mp rd1
  have get:∀{M':Mem} {es:List D},bj M' (.ref a)=Z es->M' a=Z (.lst es):=λ{M' es} e=>by
   simp only[bj]at e
   cases e0:M' a with
   |none=>rw[e0]at e;cases e
   |some o=>
    rw[e0]at e
    cases o with
    |dct _ _=>cases e
    |fdc _=>cases e
    |dcn _=>cases e
    |tab _ _=>cases e
    |fdn _=>cases e
    |lst es'=>cases e;rfl
  obtain⟨vs,z,rv⟩:=j _ _ (get e);exact⟨a,rfl,.inl ⟨⟨vs,SqL.of z⟩,B _ H1 F j (pW λM' H' st rm' c=>by obtain⟨us,L,ru⟩:=rm' _ _ (get c);exact⟨us,SqL.of L,ru⟩)⟩⟩
 |_=>cases e
noncomputable def bV(lo:Int)(n:Nat):List D:=(FW n).map λi=>.int (lo+(i:Nat))
theorem xD{lo:Int}{n:Nat}:ko K H1 (bV lo n) (λ_=>True) (Itr lo n):=λM H st rm c i=>by
 have l:(bV lo n).length=n:=by simp[bV]
 refine⟨λhi=>by show n<=i;lia,λhi=>⟨by show i<n;lia,λx H' y=>?_⟩⟩
 obtain⟨e,y⟩:=y;subst e y;refine⟨.inl rfl,.int (lo+i),?_,Nr.mpr rfl⟩;simp only[bV,Em,KW (show i<n by lia),I0]
noncomputable def jy(ta:TAd):TId:=λρ M R=>ta ρ M λds M1=>∃j:Int,ds=[.int j] /\ -(2^62)<=j/\j<2^62/\R (bV 0 j.toNat) (λ_=>True) M1
theorem pX{ta:TAd}(h:ba ta):cB (jy ta):=λρ M Q Q' i q=>h _ _ _ _ (λx F z=>(by obtain⟨j,e,a,b,B⟩:=z;exact⟨j,e,a,b,i _ _ _ B⟩)) q
theorem vA{a:Expr}{ta:TAd}(m:ba ta)(B:Gl X "range")(hm:X.mg "range"=Y)(F:PA X [a] (lA X.K ta))(hs:EA [a] X.env=[(NR,eval a X.env)]):PI X tg (.Call (.Name "range" p) [a] [] pos) (lI X.K (jy ta)):=by
 refine PI.imp (oU B hm F hs) λσ H R h=>?_;obtain⟨ρ,M,rs,rm,q⟩:=h;refine⟨ρ,M,rs,rm,m _ _ _ _ (λds NP g9 vs H1 U z rd1=>?_) q⟩;obtain⟨j,e,J,L,O⟩:=g9;subst e;obtain⟨v,rfl,r⟩:=rd1.one
 cases Nr.mp r
 exact⟨j,rfl,J,L,O _ H1 U z xD⟩
end
end
end Mi
namespace Mi
end Mi
namespace Mi
variable{vs:List V}{M:Mem}{te:TEd}{src:TId}{b:BT}
section
noncomputable abbrev NC:=ak->Mem->List D->Prop
noncomputable abbrev TCd:=ak->Mem->List D->NC->Prop
def bx(T:TCd):Prop:=∀ρ M acc N N',(∀ρ' M' acc',N ρ' M' acc'->N' ρ' M' acc')->T ρ M acc N->T ρ M acc N'
structure ExtP(p:NS)(M:Mem)(H:Hp)(M':Mem)(H':Hp):Prop where
 kp:∀a o,a≠p->fz (M a)=NQ->H a=Z o->H' a=Z o
 nw:∀a o,fz (M a)=NQ->H a=Z o->M' a=M a
section
variable{K:Frag}{M M' M'':Mem}{H H' H'':Hp}{p:NS}
theorem ExtP.new(x:ExtP p M H M' H')(a:NS)(o:HO)(n:M a=Y)(e:H a=Z o):M' a=Y:=(x.nw a o (by rw[n];rfl) e).trans n
theorem Ext.toP(x:Ext M H M' H'):ExtP p M H M' H':=⟨λa o _=>x.kp a o,x.nw⟩
theorem ExtP.refl:ExtP p M H M H:=⟨λ_ _ _ _ h=>h,λ_ _ _ _=>rfl⟩
theorem ExtP.trans(a:ExtP p M H M' H')(B:H p=Z (.lst vs))(j:∃vs',H' p=Z (.lst vs'))(b:ExtP p M' H' M'' H''):ExtP p M H M'' H'':=
 ⟨fun c o ne n h=>b.kp c o ne (by rw[a.nw c o n h];exact n) (a.kp c o ne n h),fun c o n h=>by
  have n':fz (M' c)=NQ:=by rw[a.nw c o n h];exact n
  refine Eq.trans ?_ (a.nw c o n h)
  by_cases z:c=p
  ·subst z;obtain⟨vs',e⟩:=j;exact b.nw c _ n' e
  ·exact b.nw c o n' (a.kp c o z n h)⟩
theorem ExtP.stab(r:RM K M H)(j:H p=Z (.lst vs))(x:ExtP p M H M' H'):Stab H H' where
 tup:=λa xs e=>x.kp a _ (λz=>by subst z;rw[j]at e;cases e) (by rw[r.fzT e];rfl) e
 frz:=λa o u e=>x.kp a _ (λz=>by subst z;rw[j]at e;cases e) (r.fzF e) e
theorem kr{ho:HO}(j:H p=Z (.lst vs)):Stab H (upd H p ho):=⟨λa xs e=>by rw[aj (λz=>by subst z;rw[j]at e;cases e)];exact e,λa o u e=>by rw[aj (λz=>by subst z;rw[j]at e;cases e)];exact e⟩
theorem RM.side{ho:HO}(r:RM K M H)(n:M p=Y)(j:H p=Z (.lst vs)):RM K M (upd H p ho):=λa o e=>by
 have ne:a≠p:=λz=>by subst z;rw[n]at e;cases e
 exact(r a o e).mono (kr j) λB q=>by rw[aj ne];exact q
end
def eS(K:Frag)(H:Hp)(p:NS)(acc:List D):Prop:=∃vs,H p=Z (.lst vs)/\RDs K H acc vs
noncomputable def KC(K:Frag)(p:NS)(M:Mem)(H:Hp)(N:St->Hp->Prop):NC:=λρ' M' acc'=>∀σ' H',ExtP p M H M' H'->RS K H' σ' ρ'->RM K M' H'->eS K H' p acc'->N σ' H'
noncomputable def lC(K:Frag)(p:NS)(T:TCd):TC:=λσ H N=>∃ρ M acc,RS K H σ ρ/\RM K M H/\M p=Y/\eS K H p acc/\T ρ M acc (KC K p M H N)
theorem KC.ext{K:Frag}{p:NS}{M2 M':Mem}{H H2:Hp}{N:St->Hp->Prop}{ρ:ak}{acc:List D}(z:H p=Z (.lst vs))(j:∃vs',H2 p=Z (.lst vs'))(x:ExtP p M H M2 H2)(h:KC K p M H N ρ M' acc):KC K p M2 H2 N ρ M' acc:=λσ' H' y=>h σ' H' (x.trans z j y)
noncomputable def cS(te:TEd):TCd:=λρ M acc N=>te ρ M λx M1=>acc.length<D2/\N ρ M1 (acc++[x])
noncomputable def aR:List TTd->TCd->TCd
 |[],tb=>tb
 |t::r,tb=>λρ M acc N=>t ρ M λb M1=>if b=NQ then aR r tb ρ M1 acc N else N ρ M1 acc
noncomputable def bE(b:BT)(tb:TCd)(chk:Mem->Prop)(N:NC):List D->NC
 |[]=>λρ M acc=>chk M/\N ρ M acc
 |x::xs=>λρ M acc=>chk M/\∃ρ',b x ρ=Z ρ'/\tb ρ' M acc (bE b tb chk N xs)
noncomputable def cG(src:TId)(b:BT)(tb:TCd):TCd:=λρ M acc N=>src ρ M λxs chk M1=>bE b tb chk N xs ρ M1 acc
noncomputable def eV(fr:List (Option Nat))(src:TId)(b:BT)(tb:TCd):TEd:=λρ M Q=>src ρ M λxs chk M1=>bE b tb chk (λ_ M' acc=>∀p,M' p=Y->Q (.ref p) (af M' p (.lst acc))) xs (nF fr ρ) M1 []
theorem bb(h:ab te):bx (cS te):=λρ M acc N N' i q=>h _ _ _ _ (λx F j=>(by obtain⟨z,B⟩:=j;exact⟨z,i _ _ _ B⟩)) q
theorem aB{tb:TCd}(z:bx tb):∀{ts:List TTd},(∀t∈ts,av t)->bx (aR ts tb)
 |[],_=>z
 |t::r,h=>fun ρ M acc N N' i q=>h t Ey _ _ _ _ (fun b F j=>by
  cases b with
  |true=>rw[if_pos rfl]at j⊢;exact aB z (λt' B=>h t' (Ee _ B)) _ _ _ _ _ i j
  |false=>rw[if_neg E5]at j⊢;exact i _ _ _ j) q
theorem dU{b:BT}{tb:TCd}(z:bx tb){chk:Mem->Prop}{N N':NC}(i:∀ρ' M' acc',N ρ' M' acc'->N' ρ' M' acc'):∀(xs:List D) (ρ:ak) (M:Mem) (acc:List D),bE b tb chk N xs ρ M acc->bE b tb chk N' xs ρ M acc
 |[],ρ,M,acc,h=>⟨h.1,i _ _ _ h.2⟩
 |x::xs,ρ,M,acc,⟨c,ρ',e,q⟩=>⟨c,ρ',e,z _ _ _ _ _ (λρ2 M2 j B=>dU z i xs ρ2 M2 j B) q⟩
theorem fE{tb:TCd}(hs:cB src)(j:bx tb):bx (cG src b tb):=λρ M acc N N' i q=>hs _ _ _ _ (λxs c B z=>dU j i xs _ _ _ z) q
theorem iS{fr:List (Option Nat)}{tb:TCd}(hs:cB src)(j:bx tb):ab (eV fr src b tb):=λρ M Q Q' i q=>hs _ _ _ _ (λxs c F z=>dU j (λ_ M' acc B p n=>i _ _ (B p n)) xs _ _ _ z) q
section
variable{K:Frag}{p:NS}
theorem dW(m:ab te)(σ:St)(H:Hp)(N:St->Hp->Prop)(h:lC K p (cS te) σ H N):ua p (lE K te) σ H N:=by
 obtain⟨ρ,M,acc,rs,rm,n,⟨vs,O,ra⟩,q⟩:=h;refine⟨ρ,M,rs,rm,m _ _ _ _ (λx fv g9 v H1 F J L=>?_) q⟩;obtain⟨z,U⟩:=g9;have j:=F.keep p _ n O;have NP:=F.new p _ n O;have st:=F.stab rm;have B:Stab H1 (upd H1 p (.lst (vs++[v]))):=kr j;refine⟨vs,j,by rw[ra.length];exact z,U σ _ ⟨λa o ne m' e=>?_,F.nw⟩ ((rs.mono st).mono B) (J.side NP j) ⟨vs++[v],aH,((ra.mono st).mono B).append (RDs.cons (L.mono B) RDs.nil)⟩⟩
 rw[aj ne];exact F.kp a o m' e
theorem gC{tb:TCd}(mb:bx tb):∀{ts:List TTd},(∀t∈ts,av t)->∀(σ:St) (H:Hp) (N:St->Hp->Prop),lC K p (aR ts tb) σ H N->gr (ts.map (lT K)) (lC K p tb) σ H N
 |[],_,σ,H,N,h=>h
 |t::r,hm,σ,H,N,h=>by
  obtain⟨ρ,M,acc,rs,rm,n,⟨vs,J,ra⟩,q⟩:=h;refine⟨ρ,M,rs,rm,hm t Ey _ _ _ _ (λb O F H1 z B=>?_) q⟩;have j:=z.keep p _ n J;have U:=z.new p _ n J;have st:=z.stab rm
  cases b with
  |false=>rw[if_neg E5]at F;dsimp only;rw[if_neg E5];exact F σ H1 z.toP (rs.mono st) B ⟨vs,j,ra.mono st⟩
  |true=>
   rw[if_pos rfl]at F;dsimp only;rw[if_pos rfl];exact gC mb (λt' L=>hm t' (Ee _ L)) σ H1 N ⟨ρ,O,acc,rs.mono st,B,U,⟨vs,j,ra.mono st⟩,
    aB mb (λt' L=>hm t' (Ee _ L)) _ _ _ _ _ (λρ' M' acc' k=>k.ext J ⟨vs,j⟩ z.toP) F⟩
theorem iT{tb:TCd}(mb:bx tb){xs:List D}{chk:Mem->Prop}{J:It}{H1:Hp}{B:Mem}{Nd:NC}{N:St->Hp->Prop}{σ:St}{ρ:ak}{acc:List D}(it:ko K H1 xs chk J)(rs:RS K H1 σ ρ)(rm:RM K B H1)(n:B p=Y)(ac:eS K H1 p acc)(q:bE b tb chk Nd xs ρ B acc)(hN:∀ρ' M' acc' σ' H',ExtP p B H1 M' H'->RS K H' σ' ρ'->RM K M' H'->eS K H' p acc'->Nd ρ' M' acc'->N σ' H'):
 bT J (lG K b) (lC K p tb) N σ H1:=by
 obtain⟨BH,F,_⟩:=id ac;refine⟨λi m σ H=>m=xs.length-i/\i<=xs.length/\∃ρ M acc,RS K H σ ρ/\RM K M H/\M p=Y/\eS K H p acc/\ExtP p B H1 M H/\bE b tb chk Nd (xs.drop i) ρ M acc,⟨xs.length,by simp,ER _,ρ,B,acc,rs,rm,n,ac,ExtP.refl,q⟩,?_⟩
 rintro i m σ H ⟨rfl,hi,ρ,M,acc,rs,j,n,ac,x,q⟩;have st:=x.stab rm F;obtain⟨vs,hp,ra⟩:=id ac
 by_cases z:i<xs.length
 ·rw[F1 z]at q;obtain⟨c,ρ',hb,q⟩:=q;obtain⟨go,yl⟩:=(it M H st j c i).2 z;refine .inr ⟨go,λσ' H'=>∃m',m'<xs.length-i/\(m'=xs.length-(i+1)/\i+1<=xs.length/\∃ρ M acc,RS K H' σ' ρ/\RM K M H'/\M p=Y/\eS K H' p acc/\ExtP p B H1 M H'/\bE b tb chk Nd (xs.drop (i+1)) ρ M acc),λσ' H' h=>h,λx' H' y=>?_⟩;obtain⟨yy,d,hd,rd⟩:=yl x' H' y;rw[z4 z]at hd
  cases hd
  obtain⟨xy,rmy⟩:=yy.ext j;have sty:=xy.stab j;have L:=xy.keep p _ n hp;refine⟨_,ρ,ρ',rd,rs.mono sty,hb,λσ2 U=>?_⟩;refine⟨ρ',M,acc,U,rmy,n,⟨vs,L,ra.mono sty⟩,mb _ _ _ _ _ (λρ3 M3 O q3 σ3 H3 x3 NP fv BG=>?_) q⟩;have n3:M3 p=Y:=x3.new p _ n L;exact⟨xs.length-(i+1),∅,rfl,z,ρ3,M3,O,NP,fv,n3,BG,(x.trans F ⟨vs,hp⟩ xy.toP).trans F ⟨vs,L⟩ x3,q3⟩
 ·have e:i=xs.length:=by lia
  subst e;rw[Mc]at q;exact .inl ⟨(it M H st j q.1 _).1 (E2 _),hN ρ M acc σ H x rs j ac q.2⟩
theorem fF{tb:TCd}(ms:cB src)(mb:bx tb)(σ:St)(H:Hp)(N:St->Hp->Prop)(h:lC K p (cG src b tb) σ H N):(lI K src) σ H λJ H1=>bT J (lG K b) (lC K p tb) N σ H1:=by obtain⟨ρ,M,acc,rs,rm,n,⟨vs,B,ra⟩,q⟩:=h;refine⟨ρ,M,rs,rm,ms _ _ _ _ (λxs chk U L J H1 z F it=>?_) q⟩;have j:=z.keep p _ n B;have O:=z.new p _ n B;have st:=z.stab rm;exact iT mb it (rs.mono st) F O ⟨vs,j,ra.mono st⟩ L λρ' M' acc' σ' H' x2 rs' rm' ac' k=>k σ' H' (z.toP.trans B ⟨vs,j⟩ x2) rs' rm' ac'
theorem cT{fr:List (Option Nat)}{tb:TCd}(ms:cB src)(mb:bx tb)(σ:St)(H:Hp)(Q:VK)(h:lE K (eV fr src b tb) σ H Q):nD (lI K src) (lG K b) (λp=>lC K p tb) fr σ H Q:=by
 obtain⟨ρ,M,rs,rm,q⟩:=h;refine⟨ρ,M,rs,rm,ms _ _ _ _ (λxs chk L NP J H1 F j it p n=>?_) q⟩;have st:=F.stab rm;have xn:Ext L H1 L (upd H1 p (.lst [])):=NF n;have stn:=xn.stab j;have U:L p=Y:=j.out n;refine iT (p:=p) mb (xs:=xs) (chk:=chk) (λM' H' st'=>it M' H' ⟨λa xs e=>st'.tup _ _ (stn.tup _ _ e),λa o u e=>st'.frz _ _ _ (stn.frz _ _ _ e)⟩) (((rs.mono st).mono stn).inh fr) (j.new n) U ⟨[],aH,RDs.nil⟩ NP λρ' M' acc' σ' H' O rs' rm' ac' k=>?_;obtain⟨vs,fv,ra⟩:=ac';have n':M' p=Y:=O.new p _ U aH;refine k p n' (.ref p) H' ⟨λa o m e=>?_,λa o m e=>?_⟩ (λa o e=>?_) (Nt.mpr rfl)
 ·have B:=F.kp a o m e;have ne:a≠p:=λz=>by subst z;rw[n]at B;cases B
  exact O.kp a o ne (by rw[F.nw a o m e];exact m) (by rw[aj ne];exact B)
 ·have B:=F.kp a o m e;have ne:a≠p:=λz=>by subst z;rw[n]at B;cases B
  rw[ah ne];exact(O.nw a o (by rw[F.nw a o m e];exact m) (by rw[aj ne];exact B)).trans (F.nw a o m e)
 ·by_cases z:a=p
  ·subst z;rw[ag]at e;cases e;exact⟨vs,fv,ra⟩
  ·rw[ah z]at e;exact rm' a o e
end
end
variable{u:TSd}{c:TTd}
section
noncomputable def gD:TSd:=λD ρ M=>D.nx ρ M
noncomputable def sx(t u:TSd):TSd:=λD ρ M=>t {D with nx:=u D} ρ M
noncomputable def gE:TSd:=λD ρ M=>D.bk ρ M
noncomputable def jz:TSd:=λD ρ M=>D.ct ρ M
noncomputable def jA(te:TEd):TSd:=λD ρ M=>te ρ M λ_ M1=>D.nx ρ M1
noncomputable def nT(te:TEd):TSd:=λD ρ M=>te ρ M D.rt
noncomputable def sIf(c:TTd)(t u:TSd):TSd:=λD ρ M=>c ρ M λb M1=>if b=NQ then t D ρ M1 else u D ρ M1
noncomputable def ii(te:TEd)(b:BT):TSd:=λD ρ M=>te ρ M λx M1=>∃ρ',b x ρ=Z ρ'/\D.nx ρ' M1
noncomputable def bp(b:BT)(tb:TSd)(chk:Mem->Prop)(D:bD):List Mi.D->ak->Mem->Prop
 |[]=>λρ M=>chk M/\D.nx ρ M
 |x::xs=>λρ M=>chk M/\∃ρ',b x ρ=Z ρ'/\tb {D with nx:=bp b tb chk D xs,ct:=bp b tb chk D xs,bk:=D.nx} ρ' M
noncomputable def nU(src:TId)(b:BT)(tb:TSd):TSd:=λD ρ M=>src ρ M λxs chk M1=>bp b tb chk D xs ρ M1
noncomputable def aS(c:TTd)(tb:TSd)(D:bD):Nat->ak->Mem->Prop
 |0=>λ_ _=>False
 |n+1=>λρ M=>c ρ M λb M1=>if b=NQ then tb {D with nx:=aS c tb D n,ct:=aS c tb D n,bk:=D.nx} ρ M1 else D.nx ρ M1
noncomputable def gF(c:TTd)(tb:TSd):TSd:=λD ρ M=>∃n,aS c tb D n ρ M
theorem iU:aA gD:=λ_ _ _ _ h q=>h.nx _ _ q
theorem nV:aA gE:=λ_ _ _ _ h q=>h.bk _ _ q
theorem pY:aA jz:=λ_ _ _ _ h q=>h.ct _ _ q
theorem pZ{t:TSd}(j:aA t)(hu:aA u):aA (sx t u):=λa b ρ M h q=>j {a with nx:=u a} {b with nx:=u b} _ _ ⟨λρ' M' q'=>hu _ _ _ _ h q',h.rt,h.bk,h.ct⟩ q
theorem q0(h:ab te):aA (jA te):=λa b ρ M i q=>h _ _ _ _ (λ_ z j=>i.nx _ _ j) q
theorem sy(h:ab te):aA (nT te):=λa b ρ M i q=>h _ _ _ _ (λd z j=>i.rt _ _ j) q
theorem sB{t:TSd}(z:av c)(B:aA t)(hu:aA u):aA (sIf c t u):=λa b ρ M i q=>z _ _ _ _ (λk F j=>by
 cases k with
 |true=>rw[if_pos rfl]at j⊢;exact B _ _ _ _ i j
 |false=>rw[if_neg E5]at j⊢;exact hu _ _ _ _ i j) q
theorem sC{bt:BT}(h:ab te):aA (ii te bt):=λa b ρ M i q=>h _ _ _ _ (λd B j=>(by obtain⟨ρ',e,z⟩:=j;exact⟨ρ',e,i.nx _ _ z⟩)) q
theorem dX{bt:BT}{tb:TSd}(j:aA tb){chk:Mem->Prop}{a b:bD}(i:LeD a b):∀(xs:List D) (ρ:ak) (M:Mem),bp bt tb chk a xs ρ M->bp bt tb chk b xs ρ M
 |[],ρ,M,h=>⟨h.1,i.nx _ _ h.2⟩
 |x::xs,ρ,M,⟨c,ρ',e,q⟩=>⟨c,ρ',e,j {a with nx:=bp bt tb chk a xs,ct:=bp bt tb chk a xs,bk:=a.nx} {b with nx:=bp bt tb chk b xs,ct:=bp bt tb chk b xs,bk:=b.nx} _ _ ⟨λρ2 M2 z=>dX j i xs ρ2 M2 z,i.rt,i.nx,λρ2 M2 z=>dX j i xs ρ2 M2 z⟩ q⟩
theorem sD{bt:BT}{tb:TSd}(hs:cB src)(j:aA tb):aA (nU src bt tb):=λa b ρ M i q=>hs _ _ _ _ (λxs c B z=>dX j i xs _ _ z) q
theorem cZ{c:TTd}{tb:TSd}(z:av c)(B:aA tb){a b:bD}(i:LeD a b):∀(n:Nat) (ρ:ak) (M:Mem),aS c tb a n ρ M->aS c tb b n ρ M
 |0,ρ,M,h=>h
 |n+1,ρ,M,h=>z _ _ _ _ (fun k J j=>by
  cases k with
  |true=>rw[if_pos rfl]at j⊢;exact B {a with nx:=aS c tb a n,ct:=aS c tb a n,bk:=a.nx} {b with nx:=aS c tb b n,ct:=aS c tb b n,bk:=b.nx} _ _ ⟨λρ2 M2 F=>cZ z B i n ρ2 M2 F,i.rt,i.nx,λρ2 M2 F=>cZ z B i n ρ2 M2 F⟩ j
  |false=>rw[if_neg E5]at j⊢;exact i.nx _ _ j) h
theorem nW{tb:TSd}(j:av c)(z:aA tb):aA (gF c tb):=λa b ρ M i g9=>(by obtain⟨n,q⟩:=g9;exact⟨n,cZ j z i n _ _ q⟩)
section
variable{K:Frag}
theorem iV(D:bi)(σ:St)(H:Hp)(h:lS K gD D σ H):nj D σ H:=by obtain⟨ρ,M,A,rs,rm,l,q⟩:=h;exact l.nx ρ M σ H Ext.refl rs rm q
theorem nX(D:bi)(σ:St)(H:Hp)(h:lS K gE D σ H):oP D σ H:=by obtain⟨ρ,M,A,rs,rm,l,q⟩:=h;exact l.bk ρ M σ H Ext.refl rs rm q
theorem q8(D:bi)(σ:St)(H:Hp)(h:lS K jz D σ H):tW D σ H:=by obtain⟨ρ,M,A,rs,rm,l,q⟩:=h;exact l.ct ρ M σ H Ext.refl rs rm q
theorem sF{t:TSd}(mt:aA t)(mu:aA u)(D:bi)(σ:St)(H:Hp)(h:lS K (sx t u) D σ H):wy (lS K t) (lS K u) D σ H:=by obtain⟨ρ,M,A,rs,rm,l,q⟩:=h;exact⟨ρ,M,{A with nx:=u A},rs,rm,⟨λρ' M' σ' H' x rs' rm' q'=>⟨ρ',M',A,rs',rm',l.ext x,q'⟩,l.rt,l.bk,l.ct⟩,q⟩
theorem q9(m:ab te)(D:bi)(σ:St)(H:Hp)(h:lS K (jA te) D σ H):tX (lE K te) D σ H:=by obtain⟨ρ,M,A,rs,rm,l,q⟩:=h;exact⟨ρ,M,rs,rm,m _ _ _ _ (λd B F v H1 z j J=>l.nx ρ B σ H1 z (rs.mono (z.stab rm)) j F) q⟩
theorem sH(m:ab te)(D:bi)(σ:St)(H:Hp)(h:lS K (nT te) D σ H):wz (lE K te) D σ H:=by obtain⟨ρ,M,A,rs,rm,l,q⟩:=h;exact⟨ρ,M,rs,rm,m _ _ _ _ (λd B F v H1 J j z=>l.rt d B v H1 J j z F) q⟩
theorem vB{t:TSd}(mc:av c)(D:bi)(σ:St)(H:Hp)(h:lS K (sIf c t u) D σ H):wD (lT K c) (lS K t) (lS K u) D σ H:=by
 obtain⟨ρ,M,A,rs,rm,l,q⟩:=h;refine⟨ρ,M,rs,rm,mc _ _ _ _ (λk F z H1 B j=>?_) q⟩
 cases k with
 |true=>rw[if_pos rfl]at z⊢;exact⟨ρ,F,A,rs.mono (B.stab rm),j,l.ext B,z⟩
 |false=>rw[if_neg E5]at z⊢;exact⟨ρ,F,A,rs.mono (B.stab rm),j,l.ext B,z⟩
theorem sJ(m:ab te)(D:bi)(σ:St)(H:Hp)(h:lS K (ii te b) D σ H):nn (lE K te) (lG K b) D σ H:=by obtain⟨ρ,M,A,rs,rm,l,q⟩:=h;refine⟨ρ,M,rs,rm,m _ _ _ _ (λd F g9 v H1 B j z=>?_) q⟩;obtain⟨ρ',e,J⟩:=g9;exact⟨d,ρ,ρ',z,rs.mono (B.stab rm),e,λσ' rs'=>l.nx ρ' F σ' H1 B rs' j J⟩
theorem iW{i:Nat}(m:ab te)(D:bi)(σ:St)(H:Hp)(h:lS K (ii te (jx i)) D σ H):nn (lE K te) (gh i) D σ H:=by
 obtain⟨ρ,M,A,rs,rm,l,q⟩:=h;refine⟨ρ,M,rs,rm,m _ _ _ _ (λd z g9 v H1 j rm1 rd1=>?_) q⟩;obtain⟨ρ',e,B⟩:=g9
 cases e
 exact l.nx _ z _ H1 j ((rs.mono (j.stab rm)).set i rd1) rm1 B
theorem sK{tb:TSd}(ms:cB src)(mb:aA tb)(D:bi)(σ:St)(H:Hp)(h:lS K (nU src b tb) D σ H):wH (lI K src) (lG K b) (lS K tb) D σ H:=by
 obtain⟨ρ,M,A,rs,rm,l,q⟩:=h;refine⟨ρ,M,rs,rm,ms _ _ _ _ (λxs chk M1 q1 J H1 x1 L it=>?_) q⟩;refine⟨λi m σ H'=>m=xs.length-i/\i<=xs.length/\∃ρ M2,RS K H' σ ρ/\RM K M2 H'/\Ext M1 H1 M2 H'/\bp b tb chk A (xs.drop i) ρ M2,⟨xs.length,by simp,ER _,ρ,M1,rs.mono (x1.stab rm),L,Ext.refl,q1⟩,?_⟩
 rintro i m σ2 H2 ⟨rfl,hi,ρ2,M2,O,j,x2,U⟩;have NP:=x2.stab L
 by_cases B:i<xs.length
 ·rw[F1 B]at U;obtain⟨c,ρ',hb,q3⟩:=U;obtain⟨go,yl⟩:=(it M2 H2 NP j c i).2 B;refine .inr ⟨go,λσ' H'=>∃m',m'<xs.length-i/\(m'=xs.length-(i+1)/\i+1<=xs.length/\∃ρ M,RS K H' σ' ρ/\RM K M H'/\Ext M1 H1 M H'/\bp b tb chk A (xs.drop (i+1)) ρ M),λσ' H' h=>h,λx' H' y=>?_⟩;obtain⟨yy,d,hd,rd⟩:=yl x' H' y;rw[z4 B]at hd
  cases hd
  obtain⟨xy,rmy⟩:=yy.ext j;have fv:=x1.trans (x2.trans xy);refine⟨_,ρ2,ρ',rd,O.mono (xy.stab j),hb,λσ3 BG=>?_⟩;have nx:∀ρ5 F σ5 z,Ext M2 H' F z->RS K z σ5 ρ5->RM K F z->bp b tb chk A (xs.drop (i+1)) ρ5 F->∃m',m'<xs.length-i/\(m'=xs.length-(i+1)/\i+1<=xs.length/\∃ρ M,RS K z σ5 ρ/\RM K M z/\Ext M1 H1 M z/\bp b tb chk A (xs.drop (i+1)) ρ M):=λρ5 F σ5 z x5 BH BI q5=>⟨xs.length-(i+1),∅,rfl,B,ρ5,F,BH,BI,(x2.trans xy).trans x5,q5⟩
  refine⟨ρ',M2,{A with nx:=bp b tb chk A (xs.drop (i+1)),ct:=bp b tb chk A (xs.drop (i+1)),bk:=A.nx},BG,rmy,⟨nx,λd F v z x5=>l.rt d F v z (fv.trans x5),λρ5 F σ5 z x5=>l.nx ρ5 F σ5 z (fv.trans x5),nx⟩,q3⟩
 ·have e:i=xs.length:=by lia
  subst e;rw[Mc]at U;exact .inl ⟨(it M2 H2 NP j U.1 _).1 (E2 _),l.nx ρ2 M2 σ2 H2 (x1.trans x2) O j U.2⟩
theorem nY{tb:TSd}(mc:av c)(mb:aA tb)(D:bi)(σ:St)(H:Hp)(h:lS K (gF c tb) D σ H):oR (lT K c) (lS K tb) D σ H:=by
 obtain⟨ρ,M,A,rs,rm,l,n,q⟩:=h;refine⟨λm σ' H'=>∃ρ' M',RS K H' σ' ρ'/\RM K M' H'/\Ext M H M' H'/\aS c tb A m ρ' M',⟨n,ρ,M,rs,rm,Ext.refl,q⟩,?_⟩;rintro m σ1 H1 ⟨ρ1,M1,L,O,x1,q1⟩
 cases m with
 |zero=>exact q1.elim
 |succ m=>
  refine⟨ρ1,M1,L,O,mc _ _ _ _ (λk M2 q2 H2 x2 U=>?_) q1⟩;have j:=x1.trans x2;have NP:=L.mono (x2.stab O)
  cases k with
  |false=>rw[if_neg E5]at q2;dsimp only;rw[if_neg E5];exact l.nx ρ1 M2 σ1 H2 j NP U q2
  |true=>
   rw[if_pos rfl]at q2;dsimp only;rw[if_pos rfl];refine⟨λσ' H'=>∃ρ' M',RS K H' σ' ρ'/\RM K M' H'/\Ext M H M' H'/\aS c tb A m ρ' M',λσ' H' h=>⟨m,JP m,h⟩,ρ1,M2,{A with nx:=aS c tb A m,ct:=aS c tb A m,bk:=A.nx},NP,U,⟨?_,λd z v fv B=>l.rt d z v fv (j.trans B),λρ5 z σ5 fv B=>l.nx ρ5 z σ5 fv (j.trans B),?_⟩,q2⟩
   ·exactλρ5 z σ5 fv B F J q5=>⟨ρ5,z,F,J,j.trans B,q5⟩
   ·exactλρ5 z σ5 fv B F J q5=>⟨ρ5,z,F,J,j.trans B,q5⟩
end
noncomputable def eW:D->D->D->Mem->(Mem->Prop)->Prop:=λo i v M Q=>∃a,o=.ref a /\
 ((∃xs k j,i=.int k/\M a=Z (.lst xs)/\ixN xs.length k=Z j/\Q (af M a (.lst (xs.set j v)))) ∨
  ∃t kvs,M a=Z (.dct t kvs)/\gy t i=NQ/\kvs.length<D2/\Q (af M a (.dct t (dS kvs i v))))
noncomputable def nZ(te to ti:TEd):TSd:=λD ρ M=>te ρ M λv M1=>to ρ M1 λo M2=>ti ρ M2 λi M3=>eW o i v M3 λM4=>D.nx ρ M4
theorem qa{o i v:D}{Q Q':Mem->Prop}(h:∀M',Q M'->Q' M')(q:eW o i v M Q):eW o i v M Q':=by
 obtain⟨a,e,⟨xs,k,j,z,B,F,q⟩|⟨t,kvs,z,B,F,q⟩⟩:=q
 ·exact⟨a,e,.inl ⟨xs,k,j,z,B,F,h _ q⟩⟩
 ·exact⟨a,e,.inr ⟨t,kvs,z,B,F,h _ q⟩⟩
theorem sL{to ti:TEd}(he:ab te)(ho:ab to)(hi:ab ti):aA (nZ te to ti):=λa b ρ M i q=>he _ _ _ _ (λv F j=>ho _ _ _ _ (λo M2 z=>hi _ _ _ _ (λk J B=>qa (λM' q'=>i.nx _ _ q') B) z) j) q
section
variable{X:Cx}{K:Frag}
theorem sM(hu:X.A.units+1<GZ):PSet X (λo i v H Q=>∃a H',o=.ref a/\DPut H a i v H'/\Q H'):=by
 intro pins s σ H o i v ov iv u Q I ro ri rv h;obtain⟨a,H',rfl,g,q⟩:=h
 cases ro
 exact pv hu I g ri rv λs' I'=>⟨H',I',q⟩
theorem PSet.or{t t':nk}(h:PSet X t)(h':PSet X t'):PSet X (λo i v H Q=>t o i v H Q∨t' o i v H Q):=by
 intro pins s σ H o i v ov iv u Q I ro ri rv q
 rcases q with q|q
 ·exact h pins s σ H o i v ov iv u Q I ro ri rv q
 ·exact h' pins s σ H o i v ov iv u Q I ro ri rv q
section
variable{κ:Type}[DecidableEq κ]{H:Hp}{RK:D->κ->Prop}(inj:∀{d e:D} {k:κ},RK d k->RK e k->d=e)(fn:∀{d:D} {k k':κ},RK d k->RK d k'->k=k')
include inj fn
theorem mn{k:D}{q:κ}(j:RK k q):∀{kvs:List (D×D)} {ps:List (κ×V)},EZ (λp r=>RK p.1 r.1/\RD K H p.2 r.2) kvs ps->
 (kvs.any λp=>decide (p.1=k))=(ps.any λp=>decide (p.1=q))
 |_,_,.nil=>rfl
 |_,_,.cons (a:=p) (b:=r) hr t=>by
  rw[Hn,Hn,mn j t];congr 1
  by_cases e:p.1=k
  ·have e':r.1=q:=by have h1:=hr.1;rw[e]at h1;exact fn h1 j
   rw[decide_eq_true e,decide_eq_true e']
  ·have e':¬r.1=q:=λz=>e (by have h1:=hr.1;rw[z]at h1;exact inj h1 j)
   rw[decide_eq_false e,decide_eq_false e']
theorem mq{k:D}{q:κ}(B:RK k q){d:D}{v:V}(F:RD K H d v):∀{kvs:List (D×D)} {ps:List (κ×V)},EZ (λp r=>RK p.1 r.1/\RD K H p.2 r.2) kvs ps->
 EZ (λp r=>RK p.1 r.1/\RD K H p.2 r.2) (kvs.map λp=>if p.1=k then(p.1,d)else p) (ps.map λp=>if p.1=q then(p.1,v)else p)
 |_,_,.nil=>.nil
 |_,_,.cons (a:=p) (b:=r) j t=>by
  refine .cons ?_ (mq B F t)
  by_cases e:p.1=k
  ·have e':r.1=q:=by have h1:=j.1;rw[e]at h1;exact fn h1 B
   dsimp only;rw[if_pos e,if_pos e'];exact⟨j.1,F⟩
  ·have e':¬r.1=q:=λz=>e (by have h1:=j.1;rw[z]at h1;exact inj h1 B)
   dsimp only;rw[if_neg e,if_neg e'];exact j
theorem kt{k:D}{q:κ}(j:RK k q){d:D}{v:V}(z:RD K H d v){kvs:List (D×D)}{ps:List (κ×V)}(r:EZ (λp r=>RK p.1 r.1/\RD K H p.2 r.2) kvs ps):
 EZ (λp r=>RK p.1 r.1/\RD K H p.2 r.2) (dS kvs k d) (bA ps q v):=by
 unfold dS bA;rw[mn (K:=K) (H:=H) (RK:=RK) inj fn j r]
 by_cases e:(ps.any λp=>decide (p.1=q))=NQ
 ·rw[if_pos e,if_pos e];exact mq (RK:=RK) inj fn j z r
 ·rw[if_neg e,if_neg e];exact r.snoc ⟨j,z⟩
end
theorem sN{H:Hp}{o i v:D}{ov iv vv:V}{Qd:Mem->Prop}{Q:Hp->Prop}(rm:RM K M H)(ro:RD K H o ov)(ri:RD K H i iv)(rv:RD K H v vv)(h:eW o i v M Qd)(U:∀M' H',Ext M H M' H'->RM K M' H'->Qd M'->Q H'):
 u7 ov iv vv H Q∨∃a H',ov=.ref a/\DPut H a iv vv H'/\Q H':=by
 obtain⟨a,rfl,⟨xs,k,j,rfl,B,O,q⟩|⟨t,kvs,F,B,O,q⟩⟩:=h
 ·cases Nt.mp ro
  cases Nr.mp ri
  obtain⟨vs,ha,rs⟩:=rm _ _ B;have st:Stab H (upd H a (.lst (vs.set j vv))):=rm.stabPut B;exact .inl ⟨a,vs,k,j,rfl,rfl,ha,by rw[rs.length];exact O,U _ _ (Ext.put B) (rm.put (o:=.lst (xs.set j v)) B ⟨_,aH,(rs.set j rv).mono st⟩) q⟩
 ·cases Nt.mp ro
  have ro':=rm _ _ F
  cases t with
  |false=>obtain⟨ps,NP,pr⟩:=ro';obtain⟨kq,L⟩:=jV (show dv i=NQ from B);have st:Stab H (upd H a (.dK (bA ps kq vv))):=rm.stabPut F;have J:=kt (RK:=RKey) RKey.inj RKey.fun L rv pr;rw[ic L ri];refine .inr ⟨a,_,rfl,DPut.k NP (by rw[<-HQ pr];exact O),U _ _ (Ext.put F) (rm.put (o:=.dct NR (dS kvs i v)) F ⟨_,aH,Nw J λ_ _ z=>⟨z.1,z.2.mono st⟩⟩) q⟩
  |true=>
   obtain⟨ps,NP,pr⟩:=ro';obtain⟨kq,L⟩:=md (show cM i=NQ from B);have st:Stab H (upd H a (.dT (bA ps kq vv))):=rm.stabPut F;have J:=kt (RK:=RKeys) RKeys.inj RKeys.fun L rv pr
   cases i<;>first
    |exact L.elim
    | (obtain⟨b,us,rfl,fv,ru⟩:=NO (mf B) ri
       rw[fL L ru]at fv;exact .inr ⟨a,_,rfl,DPut.t NP fv (by rw[<-HQ pr];exact O),U _ _ (Ext.put F) (rm.put (o:=.dct NQ (dS kvs _ v)) F ⟨_,aH,Nw J λ_ _ z=>⟨z.1,z.2.mono st⟩⟩) q⟩)
theorem xE {o i e:Expr}{to ti:TEd}{pos tpos:Pos}(hu:X.A.units+1<GZ)(me:ab te)(mo:ab to)(mi:ab ti)(he:PE X e (lE X.K te))(ho:PE X o (lE X.K to))(hi:PE X i (lE X.K ti))(hs:IT [.Subscript o i tpos] e pos.line X.env=pure NR)(hw:IU [.Subscript o i tpos] e X.env=pure Y)(ha:∀v,assign (.Subscript o i tpos) X.env v=(do
   let ov <-holding [v] (eval o X.env)
   let iv <-holding [v,ov] (eval i X.env)
   Jy tpos
   holding [v,ov,iv] (setItem ov iv v)
   release [v,ov,iv] [])):PS X (.Assign [.Subscript o i tpos] e pos) (lS X.K (nZ te to ti)):=by
 refine PS.imp (oQ he (wG ho hi (PSet.or rq (sM hu)) ha) hs hw rfl) λD σ H h=>?_;obtain⟨ρ,M,A,rs,rm,l,q⟩:=h;refine⟨ρ,M,rs,rm,me _ _ _ _ (λv M1 q1 vv H1 F j J=>?_) q⟩;refine⟨ρ,M1,rs.mono (F.stab rm),j,mo _ _ _ _ (λov M2 q2 vo H2 L z O=>?_) q1⟩;refine⟨ρ,M2,(rs.mono (F.stab rm)).mono (L.stab j),z,mi _ _ _ _ (λiv M3 q3 vi H3 U NP fv=>?_) q2⟩;have B:=F.trans (L.trans U);exact sN NP (O.mono (U.stab z)) fv ((J.mono (L.stab j)).mono (U.stab z)) q3 λM' H' x4 BG q4=>l.nx ρ M' σ H' (B.trans x4) (rs.mono ((B.trans x4).stab rm)) BG q4
end
end
end Mi
namespace Mi
variable{K:Frag}
end Mi
namespace Mi
end Mi
namespace Mi
section
section
variable{X:Cx}
noncomputable def jB(t:Bool):TEd:=λ_ M Q=>∀p,M p=Y->Q (.ref p) (af M p (.dct t []))
theorem qb{t:Bool}:ab (jB t):=λ_ _ _ _ i q p n=>i _ _ (q p n)
theorem vC{t:Bool}{pos:Pos}:PE X (.Dict [] [] pos) (lE X.K (jB t)):=by
 cases t with
 |false=>refine PE.imp rF λσ H Q g9 p n=>?_;obtain⟨ρ,M,rs,rm,q⟩:=g9;exact q p (rm.out n) (.ref p) _ (Ext.lay n) (rm.lay n ⟨[],aH,.nil⟩) (Nt.mpr rfl)
 |true=>refine PE.imp rG λσ H Q g9 p n=>?_;obtain⟨ρ,M,rs,rm,q⟩:=g9;exact q p (rm.out n) (.ref p) _ (Ext.lay n) (rm.lay n ⟨[],aH,.nil⟩) (Nt.mpr rfl)
end
end
end Mi
namespace Srt
structure Cm(prog:Eg)(w:Ez)(A:ED)(s:q7)(kd:HY)(P:D1->Prop)(lt:D1->D1->Bool):Prop where
 asym:∀x y,lt x y=NQ->lt y x=NR
 neg:∀x y z,lt x z=NQ->lt x y=NQ∨lt y z=NQ
 run:∀(x y:D1) (E:gV->q7->Prop) (Q:Bool->q7->Prop),P x->P y->Q (lt x y) s->DU (E9 prog w) A (keyLt' kd x.1 y.1) Q E s
variable{M:IC}{x y:D1}{st:EN}{i:Nat}
section
variable{prog:Eg}{w:Ez}{A:ED}{E:gV->q7->Prop}{s:q7}{kd:HY}{P:D1->Prop}{lt:D1->D1->Bool}
theorem aa{σ α:Type}{x:α}{st:σ}{Q:α->σ->Prop}(q:Q x st):wpS M A E s (pure x) Q st:=λ_ _ _=>⟨rfl,q⟩
theorem bJ{σ:Type}{tag:String}{st:σ}{Q:Unit->σ->Prop}(q:Q () st):wpS M A E s (liftM (PySem.rule tag)) Q st:=wpS_lift (Ha ⟨rfl,q⟩)
theorem vD{σ:Type}{st st':σ}{Q:PUnit->σ->Prop}(q:Q PUnit.unit st'):wpS M A E s (set st') Q st:=λ_ _ _=>⟨rfl,q⟩
theorem gG(c:Cm prog w A s kd P lt){Q:Option Bool->EN->Prop}(j:Fj st=kd)(hx:P x)(z:P y)(q:Q (Z (lt x y)) st):wpS (E9 prog w) A E s (lt' x y) Q st:=by rw[lt'_eq];refine y2 (GQ ?_);refine y2 (wpS_lift ?_);rw[j];intro Γ p hp;rw[Sem.wp_attempt];exact c.run x y (λe s'=>s'=s/\wpS (E9 prog w) A E s (do modify λs=>IL (Fj s) (Es s) (E1 s) (gallopOf s) (Z e);pure Y) Q st) (λb s'=>s'=s/\wpS (E9 prog w) A E s (pure (Z b)) Q st) hx z ⟨rfl,aa q⟩ Γ p hp
theorem ao{arr:Array D1}{Q:D1->EN->Prop}(h:arr[i]?=Z x)(q:Q x st):wpS (E9 prog w) A E s (elem' arr i) Q st:=by rw[elem'_eq,h];exact aa q
theorem Cm.le_trans(c:Cm prog w A s kd P lt){z:D1}(h:lt y x=NR)(h2:lt z y=NR):lt z x=NR:=by
 cases e:lt z x with
 |false=>rfl
 |true=>rcases c.neg z y x e with q|q<;>simp_all
theorem Cm.irr(c:Cm prog w A s kd P lt):lt x x=NR:=by
 cases e:lt x x with
 |false=>rfl
 |true=>have:=c.asym x x e;rw[e]at this;exact this
theorem ai{σ α:Type}{m:StateT σ Sem α}{st:σ}{Q Q':α->σ->Prop}(h:wpS M A E s m Q st)(q:∀a st',Q a st'->Q' a st'):wpS M A E s m Q' st:=F2 h (λa s' z=>⟨z.1,q _ _ z.2⟩) λ_ _ z=>z
end
noncomputable abbrev xF:=Bool->D1->Array D1->Nat->Nat->Nat->StateT EN Sem (Option Nat)
noncomputable abbrev xG:=Array D1->Array D1->StateT EN Sem (Array D1)
noncomputable def bey(lt:D1->D1->Bool)(left:Bool)(key x:D1):Bool:=if left=NQ then lt x key else !(lt key x)
structure Same(st st':EN):Prop where
 arr:Es st'=Es st
 kind:Fj st'=Fj st
 pend:E1 st'=E1 st
 fail:FI st'=FI st
def eX(prog:Eg)(w:Ez)(A:ED)(E:gV->q7->Prop)(s:q7)(kd:HY)(P:D1->Prop)(lt:D1->D1->Bool)(g:xF):Prop:=
 ∀(left:Bool) (key:D1) (arr:Array D1) (L xs R:List D1) (base n ax:Nat) (st:EN) (Q:Option Nat->EN->Prop),Fj st=kd->P key->arr.toList=L++xs++R->base=L.length->n=xs.length->(∀x∈xs,P x)->ax<n->
  xs.Pairwise (λx y=>lt y x=NR)->
  (∀X NP,xs=X++NP->(∀x∈X,bey lt left key x=NQ)->(∀x∈NP,bey lt left key x=NR)->Q (Z X.length) st)->
  wpS (E9 prog w) A E s (g left key arr base n ax) Q st
def eY(prog:Eg)(w:Ez)(A:ED)(E:gV->q7->Prop)(s:q7)(kd:HY)(P:D1->Prop)(lt:D1->D1->Bool)(m:xG):Prop:=
 ∀(a b:Array D1) (st:EN) (Q:Array D1->EN->Prop),Fj st=kd->(∀x∈a.toList,P x)->(∀x∈b.toList,P x)->0<a.size->0<b.size->
  a.toList.Pairwise (λx y=>lt y x=NR)->b.toList.Pairwise (λx y=>lt y x=NR)->(∀x y,a[0]?=Z x->b[0]?=Z y->lt x y=NR)->(∀x y,a[a.size-1]?=Z x->b[b.size-1]?=Z y->lt x y=NR)->
  (∀r st',r.toList.Perm (a.toList++b.toList)->r.toList.Pairwise (λx y=>lt y x=NR)->Same st st'->Q r st')->
  wpS (E9 prog w) A E s (m a b) Q st
variable{key:D1}{j ia ib n na nb:Nat}{xs X l NP la lb:List D1}{a b:Array D1}
section
variable{prog:Eg}{w:Ez}{A:ED}{E:gV->q7->Prop}{s:q7}{kd:HY}{P:D1->Prop}{lt:D1->D1->Bool}
theorem dY(c:Cm prog w A s kd P lt){left:Bool}{arr:Array D1}{Q:Option Bool->EN->Prop}(z:Fj st=kd)(hx:P key)(B:P x)(e:arr[j]?=Z x)(q:Q (Z (bey lt left key x)) st):
 wpS (E9 prog w) A E s (do
  let x <-elem' arr j
  if left=NQ then lt' x key else do
   let r <-lt' key x
   pure (Lj (λx=>!x) r)) Q st:=by
 refine y2 (ao e ?_)
 cases left with
 |true=>exact gG c z B hx q
 |false=>exact y2 (gG c z hx B (aa q))
theorem ku(c:Cm prog w A s kd P lt){left:Bool}(h:lt y x=NR)(j:bey lt left key y=NQ):bey lt left key x=NQ:=by
 unfold bey at j⊢
 cases left with
 |true=>
  rw[if_pos rfl]at j⊢
  rcases c.neg y x key j with q|q
  ·rw[h]at q;cases q
  ·exact q
 |false=>
  simp at j⊢
  cases e:lt key x with
  |false=>rfl
  |true=>
   rcases c.neg key y x e with q|q
   ·rw[j]at q;cases q
   ·rw[h]at q;cases q
structure Gal(lt:D1->D1->Bool)(left:Bool)(key:D1)(xs:List D1)(lo hi:Nat):Prop where
 le:lo<=hi
 len:hi<=xs.length
 up:∀i x,i<lo->xs[i]?=Z x->bey lt left key x=NQ
 dn:∀i x,hi<=i->xs[i]?=Z x->bey lt left key x=NR
theorem dg{R:D1->D1->Prop}(h:xs.Pairwise R)(z:i<j)(hx:xs[i]?=Z x)(B:xs[j]?=Z y):R x y:=by obtain⟨h1,F⟩:=DT.mp hx;obtain⟨h2,J⟩:=DT.mp B;rw[<-F,<-J];exact Jv.mp h i j h1 h2 z
theorem eZ(c:Cm prog w A s kd P lt){left:Bool}(h:xs.Pairwise (λx y=>lt y x=NR))(z:xs[j]?=Z y)(B:bey lt left key y=NQ):∀i x,i<j+1->xs[i]?=Z x->bey lt left key x=NQ:=by
 intro i x hi hx
 by_cases e:i=j
 ·subst e;rw[hx]at z;cases z;exact B
 ·exact ku c (dg h ∅ hx z) B
theorem fb(c:Cm prog w A s kd P lt){left:Bool}(h:xs.Pairwise (λx y=>lt y x=NR))(z:xs[j]?=Z y)(B:bey lt left key y=NR):∀i x,j<=i->xs[i]?=Z x->bey lt left key x=NR:=by
 intro i x hi hx
 by_cases e:i=j
 ·subst e;rw[hx]at z;cases z;exact B
 ·cases q:bey lt left key x with
  |false=>rfl
  |true=>have:=ku c (dg h ∅ z hx) q;rw[B]at this;cases this
theorem Gal.out{left:Bool}{k:Nat}(g:Gal lt left key xs k k):∃X NP,xs=X++NP/\X.length=k/\(∀x∈X,bey lt left key x=NQ)/\(∀x∈NP,bey lt left key x=NR):=by
 refine⟨xs.take k,xs.drop k,(F7 k xs).symm,by rw[Et];exact I9 g.len,λx hx=>?_,λx hx=>?_⟩
 ·obtain⟨i,hi,e⟩:=FE.mp hx;rw[Et]at hi;exact g.up i x ∅ (by rw[List.getElem_take]at e;rw[<-e];exact z4 _)
 ·obtain⟨i,hi,e⟩:=FE.mp hx;rw[IG]at hi;refine g.dn (k+i) x ∅ ?_
  rw[List.getElem_drop]at e;rw[<-e];exact z4 _
noncomputable abbrev Ord(lt:D1->D1->Bool)(l:List D1):Prop:=l.Pairwise λx y=>lt y x=NR
theorem kw{out A' B:List D1}(h1:Ord lt (out++(X++A')))(h2:Ord lt (out++B))(h:∀x∈X,∀y∈B,lt y x=NR):Ord lt ((out++X)++A')/\Ord lt ((out++X)++B):=by
 refine⟨by rw[Ea];exact h1,?_⟩
 rw[Ea];obtain⟨j,F,J⟩:=z3.mp h1;obtain⟨NP,p2,L⟩:=z3.mp h2;obtain⟨O,fv,q3⟩:=z3.mp F;refine z3.mpr ⟨j,z3.mpr ⟨O,p2,h⟩,λx hx y U=>?_⟩
 rcases Ef.mp U with z|z
 ·exact J x hx y (EV _ z)
 ·exact L x hx y z
structure ML(lt:D1->D1->Bool)(la lb out:List D1)(ia ib:Nat):Prop where
 pa:Ord lt (out++la.drop ia)
 pb:Ord lt (out++lb.drop ib)
 pm:(out++(la.drop ia++lb.drop ib)).Perm (la++lb)
theorem mv(c:Cm prog w A s kd P lt)(h:Ord lt (l.drop i))(j:l[i]?=Z y)(hx:lt y x=NR):∀z∈l.drop i,lt z x=NR:=by
 obtain⟨hi,e⟩:=DT.mp j;rw[F1 hi,e]at h⊢;intro z B
 rcases DX.mp B with q|q
 ·rw[q];exact hx
 ·exact c.le_trans hx ((Hb.mp h).1 z q)
theorem cN(e:l.drop i=X++NP):l.drop (i+X.length)=NP:=by rw[<-Jo,e,List.drop_left]
theorem ML.galA(c:Cm prog w A s kd P lt){out:List D1}(m:ML lt la lb out ia ib)(e:la.drop ia=X++NP)(j:lb[ib]?=Z y)(h:∀x∈X,lt y x=NR):ML lt la lb (out++X) (ia+X.length) ib:=by
 have p2:=(z3.mp m.pb).2.1;have q:=kw (X:=X) (A':=NP) (by rw[<-e];exact m.pa) m.pb λx hx=>mv c p2 j (h x hx)
 refine⟨by rw[cN e];exact q.1,q.2,?_⟩
 rw[cN e];refine G7.trans (Hk ?_) m.pm;rw[e];simp
theorem ML.galB(c:Cm prog w A s kd P lt){out:List D1}(m:ML lt la lb out ia ib)(e:lb.drop ib=X++NP)(j:la[ia]?=Z y)(h:∀x∈X,lt y x=NR):ML lt la lb (out++X) ia (ib+X.length):=by
 have p2:=(z3.mp m.pa).2.1;have q:=kw (X:=X) (A':=NP) (by rw[<-e];exact m.pb) m.pa λx hx=>mv c p2 j (h x hx)
 refine⟨q.2,by rw[cN e];exact q.1,?_⟩
 rw[cN e];refine G7.trans ?_ m.pm;rw[e,Ea];refine EK _ ?_;rw[<-Ea,<-Ea];exact EW _ Hr
theorem cO(h:l[i]?=Z x):l.drop i=[x]++l.drop (i+1):=by obtain⟨hi,e⟩:=DT.mp h;rw[F1 hi,e];rfl
theorem ML.pushA(c:Cm prog w A s kd P lt){out:List D1}(m:ML lt la lb out ia ib)(hx:la[ia]?=Z x)(j:lb[ib]?=Z y)(h:lt y x=NR):ML lt la lb (out++[x]) (ia+1) ib:=m.galA c (cO hx) j (by simpa using h)
theorem ML.pushB(c:Cm prog w A s kd P lt){out:List D1}(m:ML lt la lb out ia ib)(hx:la[ia]?=Z x)(j:lb[ib]?=Z y)(h:lt x y=NR):ML lt la lb (out++[y]) ia (ib+1):=m.galB c (cO j) hx (by simpa using h)
def Res(lt:D1->D1->Bool)(la lb r:List D1):Prop:=r.Perm (la++lb)/\Ord lt r
theorem ML.fin{out:List D1}(m:ML lt la lb out ia ib)(h:lb.length<=ib):Res lt la lb (out++la.drop ia++lb.drop ib):=by rw[Gk h,F5];refine⟨?_,m.pa⟩;have:=m.pm;rw[Gk h,F5]at this;exact this
theorem ML.finE{out:List D1}(m:ML lt la lb out ia ib)(h:la.length<=ia):Res lt la lb (out++la.drop ia++lb.drop ib):=by rw[Gk h,F5];refine⟨?_,m.pb⟩;have:=m.pm;rw[Gk h,J3]at this;exact this
theorem ML.finA{out:List D1}(m:ML lt la lb out ia ib)(h:∀x∈lb,∀y∈la.drop ia,lt y x=NR):Res lt la lb (out++lb.drop ib++la.drop ia):=by
 refine⟨?_,?_⟩
 ·refine G7.trans ?_ m.pm;rw[Ea];exact EK _ Hr
 ·obtain⟨J,B,F⟩:=z3.mp m.pa;refine z3.mpr ⟨m.pb,B,λx hx y j=>?_⟩
  rcases Ef.mp hx with z|z
  ·exact F x z y j
  ·exact h x (IZ z) y j
theorem ML.size{out:List D1}(m:ML lt la lb out ia ib)(j:ia<=la.length)(z:ib<=lb.length):out.length=ia+ib:=by have:=m.pm.length_eq;simp only[DZ,IG]at this;lia
theorem au(h:i<a.size):∃x,a[i]?=Z x/\a.toList[i]?=Z x/\x∈a.toList:=by refine⟨a[i],DV h,?_,Array.getElem_mem_toList h⟩;rw[DS];exact DV h
theorem bd:(a.extract i).toList=a.toList.drop i:=by rw[G1];simp only[Ir];exact Gm (by simp)
theorem vE(e:a.toList.drop i=X++NP):(a.extract i (i+X.length)).toList=X:=by rw[G1];simp[Ir,e]
theorem Same.refl:Same st st:=⟨rfl,rfl,rfl,rfl⟩
theorem Same.trans{a b c:EN}(h:Same a b)(g:Same b c):Same a c:=⟨g.arr.trans h.arr,g.kind.trans h.kind,g.pend.trans h.pend,g.fail.trans h.fail⟩
theorem iX{O A' B:List D1}(h1:Ord lt (A'++(NP++O)))(h2:Ord lt (B++O))(h:∀y∈NP,∀x∈B,lt y x=NR):Ord lt (B++(NP++O)):=by
 obtain⟨U,j,fv⟩:=z3.mp h1;obtain⟨F,p2,J⟩:=z3.mp h2;refine z3.mpr ⟨F,j,λx hx y L=>?_⟩
 rcases Ef.mp L with z|z
 ·exact h y z x hx
 ·exact J x hx y z
structure MH(lt:D1->D1->Bool)(la lb out:List D1)(na nb:Nat):Prop where
 pa:Ord lt (la.take na++out.reverse)
 pb:Ord lt (lb.take nb++out.reverse)
 pm:(la.take na++lb.take nb++out.reverse).Perm (la++lb)
theorem fe(c:Cm prog w A s kd P lt)(h:Ord lt (l.take n))(L:0<n)(F:l[n-1]?=Z y)(hx:lt x y=NR):∀z∈l.take n,lt x z=NR:=by
 intro z J;obtain⟨i,hi,e⟩:=FE.mp J;have j:(l.take n)[i]?=Z z:=by rw[<-e];exact z4 hi
 have B:(l.take n)[n-1]?=Z y:=by rw[GJ ∅];exact F
 rw[Et]at hi
 by_cases hin:i=n-1
 ·subst hin;rw[B]at j;cases j;exact hx
 ·exact c.le_trans (dg h ∅ j B) hx
theorem cP(e:l.take n=X++NP):l.take X.length=X:=by
 have h:X.length<=n:=by have:=congrArg Gr e;simp only[Et,DZ]at this;lia
 have h2:(l.take n).take X.length=X:=by rw[e,List.take_left]
 rw[List.take_take,I9 h]at h2;exact h2
theorem MH.galA(c:Cm prog w A s kd P lt){out:List D1}(m:MH lt la lb out na nb)(e:la.take na=X++NP)(j:0<nb)(z:lb[nb-1]?=Z y)(h:∀x∈NP,lt x y=NR):MH lt la lb (out++NP.reverse) X.length nb:=by
 have p2:=(z3.mp m.pb).1;have h1:Ord lt (X++(NP++out.reverse)):=by rw[<-Ea,<-e];exact m.pa
 have q:=iX h1 m.pb λx hx=>fe c p2 j z (h x hx);refine⟨by rw[cP e];simpa using h1,by simpa using q,?_⟩
 rw[cP e];refine G7.trans ?_ m.pm;rw[e];simp only[List.reverse_append,KG,Ea];refine EK _ ?_;rw[<-Ea,<-Ea];exact EW _ Hr
theorem MH.galB(c:Cm prog w A s kd P lt){out:List D1}(m:MH lt la lb out na nb)(e:lb.take nb=X++NP)(j:0<na)(z:la[na-1]?=Z y)(h:∀x∈NP,lt x y=NR):MH lt la lb (out++NP.reverse) na X.length:=by
 have p2:=(z3.mp m.pa).1;have h1:Ord lt (X++(NP++out.reverse)):=by rw[<-Ea,<-e];exact m.pb
 have q:=iX h1 m.pa λx hx=>fe c p2 j z (h x hx);refine⟨by simpa using q,by rw[cP e];simpa using h1,?_⟩
 rw[cP e];refine G7.trans (Hk ?_) m.pm;rw[e];simp
theorem cc(j:0<n)(h:l[n-1]?=Z x):l.take n=l.take (n-1)++[x]:=by
 obtain⟨k,rfl⟩:∃k,n=k+1:=⟨n-1,∅⟩
 rw[Nat.add_sub_cancel]at h⊢;rw[LD,h];rfl
theorem mw(j:0<n)(h:l[n-1]?=Z x):(l.take (n-1)).length=n-1:=by obtain⟨hi,_⟩:=DT.mp h;rw[Et];lia
theorem MH.pushA(c:Cm prog w A s kd P lt){out:List D1}(m:MH lt la lb out na nb)(j:0<na)(z:0<nb)(hx:la[na-1]?=Z x)(B:lb[nb-1]?=Z y)(h:lt x y=NR):MH lt la lb (out++[x]) (na-1) nb:=by
 have q:=m.galA c (cc j hx) z B (by simpa using h)
 rw[mw j hx]at q;simpa using q
theorem MH.pushB(c:Cm prog w A s kd P lt){out:List D1}(m:MH lt la lb out na nb)(B:0<na)(j:0<nb)(hx:la[na-1]?=Z x)(z:lb[nb-1]?=Z y)(h:lt y x=NR):MH lt la lb (out++[y]) na (nb-1):=by
 have q:=m.galB c (cc j z) B hx (by simpa using h)
 rw[mw j z]at q;simpa using q
theorem MH.fin{out:List D1}(m:MH lt la lb out na nb)(h:na=0∨nb=0):Res lt la lb (la.take na++lb.take nb++out.reverse):=by
 refine⟨m.pm,?_⟩
 rcases h with rfl|rfl
 ·simpa using m.pb
 ·simpa using m.pa
theorem MH.finB{out:List D1}(m:MH lt la lb out na nb)(h:∀x∈lb.take nb,∀y∈la,lt y x=NR):Res lt la lb (lb.take nb++la.take na++out.reverse):=by
 refine⟨G7.trans (EW _ Hr) m.pm,?_⟩;obtain⟨j,J,B⟩:=z3.mp m.pb;rw[Ea];refine z3.mpr ⟨j,m.pa,λx hx y F=>?_⟩
 rcases Ef.mp F with z|z
 ·exact h x hx y (HB z)
 ·exact B x hx y z
theorem MH.size{out:List D1}(m:MH lt la lb out na nb)(j:na<=la.length)(z:nb<=lb.length):out.length+na+nb=la.length+lb.length:=by have:=m.pm.length_eq;simp only[DZ,Et,HM]at this;lia
theorem cU:a.toList.take a.size=a.toList:=Gm (by simp)
theorem aQ:(a.extract 0 i).toList=a.toList.take i:=by rw[G1];simp[Ir]
theorem sP(e:a.toList.take n=X++NP):(a.extract X.length n).toList=NP:=by rw[G1];simp only[Ir];rw[<-List.drop_take,e,List.drop_left]
theorem sQ:∀(m old L R:List D1) (a:Array D1),a.toList=L++old++R->m.length=old.length->(IH (λa x=>a.setIfInBounds (L.length+x.snd) x.fst) a m.zipIdx).toList=L++m++R:=by
 have g:∀(m old L R:List D1) (k:Nat) (a:Array D1),a.toList=L++old++R->m.length=old.length->∀b:Nat,b+k=L.length->(IH (λa x=>a.setIfInBounds (b+x.snd) x.fst) a (m.zipIdx k)).toList=L++m++R:=by
  intro m
  induction m with
  |nil=>intro old L R k a e h b j;have:old=[]:=Eo.mp h.symm;subst this;simpa using e
  |cons x m ih=>
   intro old L R k a e h b j
   cases old with
   |nil=>simp at h
   |cons y old=>
    rw[List.zipIdx_cons,J2];have z:(a.setIfInBounds (b+k) x).toList=(L++[x])++old++R:=by rw[Jp,e,j];simp
    have:=ih old (L++[x]) R (k+1) _ z (by simpa using h) b (by simp;lia)
    rw[this];simp
 exactλm old L R a e h=>g m old L R 0 a e h L.length ∅
theorem ad{σ α:Type}{p:Prop}[Decidable p]{j z:StateT σ Sem α}{st:σ}{Q:α->σ->Prop}(h1:p->wpS M A E s j Q st)(h2:¬p->wpS M A E s z Q st):wpS M A E s (if p then j else z) Q st:=by
 split
 ·next h=>exact h1 h
 ·next h=>exact h2 h
theorem ML.cut{out:Array D1}(m:ML lt la lb (out.toList++X) i j)(e:a.toList.drop n=X++NP):ML lt la lb (out++a.extract n (n+X.length)).toList i j:=by rw[E3,vE e];exact m
theorem MH.cut{out:Array D1}(m:MH lt la lb (out.toList++NP.reverse) i j)(e:a.toList.take n=X++NP):MH lt la lb (out++(a.extract X.length n).reverse).toList i j:=by rw[E3,EE,sP e];exact m
theorem qc{σ α:Type}{m:StateT σ Sem α}{st:σ}{Q:α->σ->Prop}{P:σ->Prop}(j:P st)(h:∀st',P st'->wpS M A E s m Q st'):wpS M A E s m Q st:=h st j
theorem ud{σ α:Type}{m:StateT σ Sem α}{st:σ}{Q:α->σ->Prop}(h:∀Q':α->σ->Prop,(∀a st',Q a st'->Q' a st')->wpS M A E s m Q' st):wpS M A E s m Q st:=h Q λ_ _ h=>h
theorem ue(h:bey lt NR key x=NQ):lt key x=NR:=by simpa[bey]using h
theorem qd(h:bey lt NR key x=NR):lt key x=NQ:=by simpa[bey]using h
theorem uf(h:bey lt NQ key x=NQ):lt x key=NQ:=by simpa[bey]using h
theorem qe(h:bey lt NQ key x=NR):lt x key=NR:=by simpa[bey]using h
theorem kx(e:l.drop i=X++NP)(h:l[i+X.length]?=Z x):x∈NP:=by rw[<-cN e,cO h];simp
theorem ky(e:l.take n=X++NP)(h0:0<X.length)(h:l[X.length-1]?=Z x):x∈X:=by have:=cc h0 h;rw[cP e]at this;rw[this];simp
theorem kz(e:a.toList.drop i=X++NP):X.length<=a.size-i:=by have:=congrArg Gr e;simp at this;lia
theorem iY(e:a.toList.take n=X++NP)(h:n<=a.size):X.length+NP.length=n:=by have:=congrArg Gr e;simp at this;lia
theorem dB(h:n<=a.size):n=(a.toList.take n).length:=by simp;lia
theorem ML.finR{out:Array D1}(m:ML lt a.toList b.toList out.toList ia ib)(h:b.size<=ib):Res lt a.toList b.toList (out++a.extract ia++b.extract ib).toList:=by
 have:=m.fin (by simpa using h)
 simpa only[E3,bd]using this
theorem ML.finS{out:Array D1}(m:ML lt a.toList b.toList out.toList ia ib)(h:a.size<=ia):Res lt a.toList b.toList (out++a.extract ia++b.extract ib).toList:=by
 have:=m.finE (by simpa using h)
 simpa only[E3,bd]using this
theorem ML.finL{out:Array D1}(m:ML lt a.toList b.toList out.toList ia ib)(h:∀x∈b.toList,∀y∈a.toList.drop ia,lt y x=NR):Res lt a.toList b.toList (out++b.extract ib++a.extract ia).toList:=by have:=m.finA h;simpa only[E3,bd]using this
theorem MH.finR{out:Array D1}(m:MH lt a.toList b.toList out.toList na nb)(h:∀x∈b.toList.take nb,∀y∈a.toList,lt y x=NR):Res lt a.toList b.toList (b.extract 0 nb++a.extract 0 na++out.reverse).toList:=by have:=m.finB h;simpa only[E3,EE,aQ]using this
theorem MH.finL{out:Array D1}(m:MH lt a.toList b.toList out.toList na nb)(h:na=0∨nb=0):Res lt a.toList b.toList (a.extract 0 na++b.extract 0 nb++out.reverse).toList:=by have:=m.fin h;simpa only[E3,EE,aQ]using this
theorem z8(c:Cm prog w A s kd P lt):
 ∃(g:xF) (lo hi:xG),(eX prog w A E s kd P lt g/\(eX prog w A E s kd P lt g->eY prog w A E s kd P lt lo)/\(eX prog w A E s kd P lt g->eY prog w A E s kd P lt hi))/\(eX prog w A E s kd P lt g->eY prog w A E s kd P lt lo->eY prog w A E s kd P lt hi->
  ∀(i sa na pa sb nb pb:Nat) (L r1 r2 R:List D1) (st:EN) (Q:Bool->EN->Prop),Fj st=kd->FI st=Y->(E1 st)[i]?=Z (sa,na,pa)->(E1 st)[i+1]?=Z (sb,nb,pb)->
   (Es st).toList=L++(r1++r2)++R->sa=L.length->na=r1.length->sb=L.length+r1.length->nb=r2.length->r1≠[]->r2≠[]->(∀x∈r1,P x)->(∀x∈r2,P x)->Ord lt r1->Ord lt r2->
   (∀m st',(Es st').toList=L++m++R->m.Perm (r1++r2)->Ord lt m->Fj st'=kd->FI st'=Y->E1 st'=((E1 st).setIfInBounds i (sa,na+nb,pa)).eraseIdxIfInBounds (i+1)->Q NQ st')->
   wpS (E9 prog w) A E s (N4 i) Q st):=by
 apply LF;apply LF;apply LF;apply IJ
 rotate_left
 ·intro hg DA DB i sa na pa sb nb pb L r1 r2 R st Q hk hf h1 h2 BG D3 Cl D4 CD DC DD Dd De o1 o2 q;unfold N4;refine y2 (GQ ?_);rw[h1,h2];dsimp only;refine y2 (vD ?_);obtain⟨y0,t2,rfl⟩:∃y t,r2=y::t:=by cases r2 with|nil=>exact absurd rfl DD|cons y t=>exact⟨y,t,rfl⟩
  have hz:(Es st)[sb]?=Z y0:=by rw[<-DS,BG,D4];simp
  refine y2 (ao hz ?_);refine y2 (hg NR y0 (Es st) L r1 (y0::t2++R) sa na 0 _ _ hk (De _ (by simp)) (by rw[BG];simp) D3 Cl Dd (by rw[Cl];exact EI.mpr DC) o1 λX NP e hX hY=>?_)
  dsimp only;have lX:∀x∈X,lt y0 x=NR:=λx hx=>by have:=hX x hx;simpa[bey]using this
  have lY:∀x∈NP,lt x y0=NR:=λx hx=>c.asym _ _ (by have:=hY x hx;simpa[bey]using this)
  have hlen:na-X.length=NP.length:=by rw[Cl,e];simp
  subst e;obtain⟨oX,oY,oXY⟩:=z3.mp o1;have oy:=Hb.mp o2;have D5:∀x∈X,∀z∈y0::t2,lt z x=NR:=λx hx z hz=>by
   rcases DX.mp hz with h|h
   ·rw[h];exact lX x hx
   ·exact c.le_trans (lX x hx) (oy.1 z h)
  refine ad (λh=>?_) (λh=>?_)
  ·have D6:NP=[]:=Eo.mp (by rw[<-hlen];simpa using h)
   subst D6;refine aa (q (X++(y0::t2)) _ (by simpa using BG) (by simp) ?_ hk hf rfl)
   exact z3.mpr ⟨oX,o2,D5⟩
  ·have D6:0<NP.length:=by
    have:na-X.length≠0:=by simpa using h
    lia
   obtain⟨Y0,xl,rfl⟩:∃Y0 xl,NP=Y0++[xl]:=⟨NP.dropLast,NP.getLast (by intro z;rw[z]at D6;simp at D6),(Fv _).symm⟩
   have DE:(Es st)[sa+X.length+(na-X.length)-1]?=Z xl:=by
    rw[<-DS,BG,hlen,D3];simp only[Ea,DZ,ID];rw[y1 ∅,y1 ∅,y1 ∅]
    rw[show L.length+X.length+(Y0.length+1)-1-L.length-X.length-Y0.length=0 by lia];rfl
   refine y2 (ao DE ?_);refine y2 (hg NQ xl (Es st) (L++(X++(Y0++[xl]))) (y0::t2) R sb nb (nb-1) _ _ hk (Dd _ (by simp)) (by rw[BG];simp) (by rw[D4];simp) CD De (by rw[CD];simp) o2 λX2 Y2 e2 Cn Co=>?_)
   dsimp only;have DF:∀x∈X2,lt xl x=NR:=λx hx=>c.asym _ _ (by have:=Cn x hx;simpa[bey]using this)
   have Do:∀x∈Y2,lt x xl=NR:=λx hx=>by have:=Co x hx;simpa[bey]using this
   have DG:Ord lt (X2++Y2):=by rw[<-e2];exact o2
   obtain⟨DH,DI,Dp⟩:=z3.mp DG;obtain⟨DQ,_,oYl⟩:=z3.mp oY;have lYY:∀x∈Y0++[xl],∀z∈Y2,lt z x=NR:=λx hx z hz=>by
    rcases Ef.mp hx with h|h
    ·exact c.le_trans (oYl x h xl (by simp)) (Do z hz)
    ·simp at h;subst h;exact Do z hz
   refine ad (λh=>?_) (λh=>?_)
   ·have Cf:X2=[]:=Eo.mp (by simpa using h)
    subst Cf;have e2:y0::t2=Y2:=by simpa using e2
    refine aa (q (X++(Y0++[xl])++(y0::t2)) _ (by simpa using BG) (HC _) ?_ hk hf rfl)
    refine z3.mpr ⟨o1,o2,λx hx z hz=>?_⟩
    rcases Ef.mp hx with g|g
    ·exact D5 x g z hz
    ·exact lYY x g z (by rw[<-e2];exact hz)
   ·have Cf:X2≠[]:=λz=>h (by rw[z];rfl)
    have hx:((Es st).extract (sa+X.length) sb).toList=Y0++[xl]:=by
     rw[G1,BG,D3,D4];simp only[Ir];have e1:(L++(X++(Y0++[xl])++y0::t2)++R).drop (L.length+X.length)=(Y0++[xl])++(y0::t2++R):=by rw[<-Jo];simp
     rw[e1,show L.length+(X++(Y0++[xl])).length-(L.length+X.length)=(Y0++[xl]).length by simp only[DZ];lia,List.take_left]
    have hy:((Es st).extract sb (sb+X2.length)).toList=X2:=by
     rw[G1,BG,D4];simp only[Ir];have e1:(L++(X++(Y0++[xl])++y0::t2)++R).drop (L.length+(X++(Y0++[xl])).length)=(y0::t2)++R:=by rw[<-Jo];simp
     rw[e1,e2];simp
    have J:∀(r:Array D1) (BK:EN),r.toList.Perm ((Y0++[xl])++X2)->Ord lt r.toList->Same (PyProof.Rows.SortSt.mk' (Fj st) (Es st) (((E1 st).setIfInBounds i (sa,na+nb,pa)).eraseIdxIfInBounds (i+1)) (gallopOf st) (FI st)) BK->∀BH:EN,Es BH=IH (λa x=>a.setIfInBounds (sa+X.length+x.snd) x.fst) (Es BK) r.toList.zipIdx->Fj BH=Fj BK->FI BH=FI BK->E1 BH=E1 BK->Q (FI BH).isNone BH:=by
     intro r BK hp ho hs BH g1 g2 g3 g4;have Dq:FI BH=Y:=g3.trans (hs.fail.trans hf);rw[Dq];refine q (X++r.toList++Y2) BH ?_ ?_ ?_ (g2.trans (hs.kind.trans hk)) Dq (g4.trans hs.pend)
     ·rw[g1,hs.arr];have e3:(Es st).toList=(L++X)++((Y0++[xl])++X2)++(Y2++R):=by
       rw[BG,e2];simp
      rw[show sa+X.length=(L++X).length by rw[D3];simp]
      rw[sQ _ _ _ _ _ e3 (hp.length_eq)];simp
     ·rw[e2];refine G7.trans (EW _ (EK _ hp)) ?_;simp
     ·refine z3.mpr ⟨z3.mpr ⟨oX,ho,λx hx z hz=>?_⟩,DI,λx hx z hz=>?_⟩
      ·rcases Ef.mp (hp.mem_iff.mp hz)with g|g
       ·exact oXY x hx z g
       ·exact D5 x hx z (by rw[e2];exact EV _ g)
      ·rcases Ef.mp hx with g|g
       ·exact D5 x g z (by rw[e2];exact Ed _ hz)
       ·rcases Ef.mp (hp.mem_iff.mp g)with g|g
        ·exact lYY x g z hz
        ·exact Dp x g z hz
    have Db:∀x y,((Es st).extract (sa+X.length) sb)[0]?=Z x->((Es st).extract sb (sb+X2.length))[0]?=Z y->lt x y=NR:=by
     intro x y C7 CF;rw[<-DS,hx]at C7;rw[<-DS,hy]at CF;have CG:=Eh C7;have:y=y0:=by
      cases X2 with
      |nil=>exact absurd rfl Cf
      |cons z t=>simp at e2 CF;rw[<-CF,<-e2.1]
     subst this;exact lY x CG
    have preL:∀x y,((Es st).extract (sa+X.length) sb)[((Es st).extract (sa+X.length) sb).size-1]?=Z x->((Es st).extract sb (sb+X2.length))[((Es st).extract sb (sb+X2.length)).size-1]?=Z y->lt x y=NR:=by
     intro x y C7 CF;rw[<-DS,<-Ei,hx]at C7;rw[<-DS,<-Ei,hy]at CF;have C8:=Eh CF;have:x=xl:=by simp at C7;exact C7.symm
     subst this;exact DF y C8
    have Dr:0<((Es st).extract (sa+X.length) sb).size:=by rw[<-Ei,hx];simp
    have Ds:0<((Es st).extract sb (sb+X2.length)).size:=by rw[<-Ei,hy];exact EI.mpr Cf
    have Dt:∀x∈((Es st).extract (sa+X.length) sb).toList,P x:=by rw[hx];exactλx hx=>Dd x (Ed _ hx)
    have Du:∀x∈((Es st).extract sb (sb+X2.length)).toList,P x:=by rw[hy];exactλx hx=>De x (by rw[e2];exact EV _ hx)
    have Dv:Ord lt ((Es st).extract (sa+X.length) sb).toList:=by rw[hx];exact oY
    have Dw:Ord lt ((Es st).extract sb (sb+X2.length)).toList:=by rw[hy];exact DH
    refine ad (λh=>?_) (λh=>?_)
    ·refine y2 (DA _ _ _ _ hk Dt Du Dr Ds Dv Dw Db preL λr BK hp ho hs=>?_);rw[hx,hy]at hp;refine y2 (FJ ?_);refine y2 (GQ ?_);exact aa (J r BK hp ho hs _ rfl rfl rfl rfl)
    ·refine y2 (DB _ _ _ _ hk Dt Du Dr Ds Dv Dw Db preL λr BK hp ho hs=>?_);rw[hx,hy]at hp;refine y2 (FJ ?_);refine y2 (GQ ?_);exact aa (J r BK hp ho hs _ rfl rfl rfl rfl)
 apply IJ
 ·intro left key arr L xs R base n ax st Q hk Cg BG Df hn hP hh hs q;subst Df hn;have at_:∀i,i<xs.length->∃x,xs[i]?=Z x/\arr[L.length+i]?=Z x/\P x:=by
   intro i hi;refine⟨xs[i],z4 hi,?_,hP _ (Md _)⟩;rw[<-DS,BG,Ea,y1 ∅,E7 ∅]
   rw[show L.length+i-L.length=i by lia]
   exact z4 hi
  obtain⟨x0,C7,CH,DJ⟩:=at_ ax hh;refine y2 (dY c hk Cg DJ CH ?_)
  try dsimp only
  refine ad (λhb=>?_) (λhb=>?_)
  ·skip
   refine y2 (ai (Q:=λr st'=>st'=st/\∃la ofs,r=(Y,la,ofs)/\ax+la<xs.length/\la<ofs/\(∀j x,j<ax+la+1->xs[j]?=Z x->bey lt left key x=NQ)/\(xs.length<=ax+ofs∨∀j x,ax+ofs<=j->xs[j]?=Z x->bey lt left key x=NR))
    (EJ (λi r st'=>st'=st/\∃la ofs,r=(Y,la,ofs)/\ax+la<xs.length/\la<ofs/\i+1<=ofs/\(∀j x,j<ax+la+1->xs[j]?=Z x->bey lt left key x=NQ)) ?_ ?_ ⟨rfl,0,1,rfl,hh,∅,∅,eZ c hs C7 hb⟩) ?_)
   ·rintro i r st' _ hi ⟨rfl,la,ofs,rfl,h1,h2,h3,h4⟩
    try dsimp only
    refine ad (λCp=>?_) (λCp=>?_)
    ·exact aa ⟨rfl,la,ofs,rfl,h1,h2,h4,.inl ∅⟩
    ·skip
     obtain⟨x1,C2,Cq,Cr⟩:=at_ (ax+ofs) ∅
     refine y2 (dY c hk Cg Cr Cq ?_)
     try dsimp only
     refine ad (λhf=>?_) (λhf=>?_)
     ·exact aa ⟨rfl,la,ofs,rfl,h1,h2,h4,.inr (fb c hs C2 (by simpa using hf))⟩
     ·exact aa ⟨rfl,ofs,2*ofs+1,rfl,∅,∅,∅,eZ c hs C2 (by simpa using hf)⟩
   ·rintro r st' ⟨rfl,la,ofs,rfl,h1,h2,h3,h4⟩;exact⟨rfl,la,ofs,rfl,h1,h2,h4,.inl ∅⟩
   ·rintro r st' ⟨rfl,la,ofs,rfl,h1,h2,h3,h4⟩
    try dsimp only
    have hG:Gal lt left key xs (ax+la+1) (ax+min ofs (xs.length-ax)):=by
     refine⟨∅,∅,h3,λi x hi hx=>?_⟩
     have DR:i<xs.length:=(DT.mp hx).1
     rcases h4 with h4|h4
     ·lia
     ·exact h4 i x ∅ hx
    generalize ax+la+1=lo at hG;generalize ax+min ofs (xs.length-ax)=hi at hG;refine y2 (ai (Q:=λr st''=>st''=st'/\∃k,r=(Y,k,k)/\Gal lt left key xs k k)
     (EJ (λi r st''=>st''=st'/\∃lo hi,r=(Y,lo,hi)/\Gal lt left key xs lo hi/\hi-lo+i<=xs.length) ?_ ?_ ⟨rfl,lo,hi,rfl,hG,by have:=hG.len;lia⟩) ?_)
    ·rintro i r st'' _ hi ⟨rfl,lo,hi,rfl,hG,hm⟩
     try dsimp only
     have hl:=hG.le;have CI:=hG.len;refine ad (λCp=>?_) (λCp=>?_)
     ·exact aa ⟨rfl,hi,by rw[show lo=hi by lia],by rw[show lo=hi by lia]at hG;exact hG⟩
     ·skip
      obtain⟨x1,C2,Cq,Cr⟩:=at_ (lo+(hi-lo) / 2) ∅
      refine y2 (dY c hk Cg Cr Cq ?_)
      try dsimp only
      refine ad (λhf=>?_) (λhf=>?_)
      ·exact aa ⟨rfl,_,_,rfl,⟨∅,CI,eZ c hs C2 hf,hG.dn⟩,∅⟩
      ·exact aa ⟨rfl,_,_,rfl,⟨∅,∅,hG.up,fb c hs C2 (by simpa using hf)⟩,∅⟩
    ·rintro r st'' ⟨rfl,lo,hi,rfl,hG,hm⟩;have hl:=hG.le;exact⟨rfl,hi,by rw[show lo=hi by lia],by rw[show lo=hi by lia]at hG;exact hG⟩
    ·rintro r st'' ⟨rfl,k,rfl,hG⟩;obtain⟨X,NP,e,hl,hX,hY⟩:=hG.out;subst hl;exact aa (q X NP e hX hY)
  ·skip
   refine y2 (ai (Q:=λr st'=>st'=st/\∃la ofs,r=(Y,la,ofs)/\la<=ax/\la<ofs/\(∀j x,ax-la<=j->xs[j]?=Z x->bey lt left key x=NR)/\(ax<ofs∨∀j x,j<ax-ofs+1->xs[j]?=Z x->bey lt left key x=NQ))
    (EJ (λi r st'=>st'=st/\∃la ofs,r=(Y,la,ofs)/\la<=ax/\la<ofs/\i+1<=ofs/\(∀j x,ax-la<=j->xs[j]?=Z x->bey lt left key x=NR)) ?_ ?_ ⟨rfl,0,1,rfl,∅,∅,∅,fb c hs C7 (by simpa using hb)⟩) ?_)
   ·rintro i r st' _ hi ⟨rfl,la,ofs,rfl,h1,h2,h3,h4⟩
    try dsimp only
    refine ad (λCp=>?_) (λCp=>?_)
    ·exact aa ⟨rfl,la,ofs,rfl,h1,h2,h4,.inl ∅⟩
    ·skip
     obtain⟨x1,C2,Cq,Cr⟩:=at_ (ax-ofs) ∅
     refine y2 (dY c hk Cg Cr Cq ?_)
     try dsimp only
     refine ad (λhf=>?_) (λhf=>?_)
     ·exact aa ⟨rfl,la,ofs,rfl,h1,h2,h4,.inr (eZ c hs C2 hf)⟩
     ·exact aa ⟨rfl,ofs,2*ofs+1,rfl,∅,∅,∅,fb c hs C2 (by simpa using hf)⟩
   ·rintro r st' ⟨rfl,la,ofs,rfl,h1,h2,h3,h4⟩;exact⟨rfl,la,ofs,rfl,h1,h2,h4,.inl ∅⟩
   ·rintro r st' ⟨rfl,la,ofs,rfl,h1,h2,h3,h4⟩
    try dsimp only
    have hG:Gal lt left key xs (ax+1-min ofs (ax+1)) (ax-la):=by
     refine⟨∅,∅,λi x hi hx=>?_,h3⟩
     rcases h4 with h4|h4
     ·lia
     ·exact h4 i x ∅ hx
    generalize ax+1-min ofs (ax+1)=lo at hG;generalize ax-la=hi at hG;refine y2 (ai (Q:=λr st''=>st''=st'/\∃k,r=(Y,k,k)/\Gal lt left key xs k k)
     (EJ (λi r st''=>st''=st'/\∃lo hi,r=(Y,lo,hi)/\Gal lt left key xs lo hi/\hi-lo+i<=xs.length) ?_ ?_ ⟨rfl,lo,hi,rfl,hG,by have:=hG.len;lia⟩) ?_)
    ·rintro i r st'' _ hi ⟨rfl,lo,hi,rfl,hG,hm⟩
     try dsimp only
     have hl:=hG.le;have CI:=hG.len;refine ad (λCp=>?_) (λCp=>?_)
     ·exact aa ⟨rfl,hi,by rw[show lo=hi by lia],by rw[show lo=hi by lia]at hG;exact hG⟩
     ·skip
      obtain⟨x1,C2,Cq,Cr⟩:=at_ (lo+(hi-lo) / 2) ∅
      refine y2 (dY c hk Cg Cr Cq ?_)
      try dsimp only
      refine ad (λhf=>?_) (λhf=>?_)
      ·exact aa ⟨rfl,_,_,rfl,⟨∅,CI,eZ c hs C2 hf,hG.dn⟩,∅⟩
      ·exact aa ⟨rfl,_,_,rfl,⟨∅,∅,hG.up,fb c hs C2 (by simpa using hf)⟩,∅⟩
    ·rintro r st'' ⟨rfl,lo,hi,rfl,hG,hm⟩;have hl:=hG.le;exact⟨rfl,hi,by rw[show lo=hi by lia],by rw[show lo=hi by lia]at hG;exact hG⟩
    ·rintro r st'' ⟨rfl,k,rfl,hG⟩;obtain⟨X,NP,e,hl,hX,hY⟩:=hG.out;subst hl;exact aa (q X NP e hX hY)
 apply IJ
 ·intro hg a b st Q hk Ct Cu D7 D8 sa sb CJ CK q;refine y2 (bJ ?_);obtain⟨b0,D9,CL,DL⟩:=au D8;obtain⟨a0,CH,CB,DM⟩:=au D7;refine y2 (ao D9 ?_);have m0:ML lt a.toList b.toList [] 0 0:=⟨sa,sb,by simp⟩
  have m1:ML lt a.toList b.toList [b0] 0 1:=m0.pushB c CB CL (CJ a0 b0 CH D9);have C9:∀x∈b.toList,∀(i:Nat),i+1=a.size->∀y∈a.toList.drop i,lt y x=NR:=by
   intro x hx i hi y hy;obtain⟨aL,Da,CM,_⟩:=au (a:=a) (i:=i) ∅
   obtain⟨bL,Dg,CC,_⟩:=au (a:=b) (i:=b.size-1) ∅
   have e:a.toList.drop i=[aL]:=by rw[cO CM,Gk (by simp;lia)];rfl
   rw[e]at hy;simp at hy;subst hy;have hl:=CK y bL (by rw[show a.size-1=i by lia];exact Da) Dg
   obtain⟨j,hj,e⟩:=FE.mp hx;have Cv:b.toList[j]?=Z x:=by rw[<-e];exact z4 hj
   by_cases hjb:j=b.size-1
   ·subst hjb;rw[CC]at Cv;cases Cv;exact hl
   ·have:=dg sb (show j<b.size-1 by simp at hj;lia) Cv CC
    exact c.le_trans this hl
  try dsimp -zeta -zetaHave -zetaUnused only
  refine ad (λh=>?_) (λh=>?_)
  ·skip
   have h:1=b.size:=by simpa using h
   refine aa ?_;have r:=m1.fin (by simp;lia)
   exact q _ _ (by simpa only[E3,E4,Ex,bd]using r.1) (by simpa only[E3,E4,Ex,bd]using r.2) Same.refl
  ·skip
   refine ad (λh2=>?_) (λh2=>?_)
   ·skip
    have h2:0+1=a.size:=by simpa using h2
    refine aa ?_;have r:=m1.finA (C9 · · 0 h2);exact q _ _ (by simpa only[E3,E4,Ex,bd]using r.1) (by simpa only[E3,E4,Ex,bd]using r.2) Same.refl
   ·skip
    have h:1≠b.size:=by simpa using h
    have h2:0+1≠a.size:=by simpa using h2
    refine y2 (GQ ?_)
    try dsimp -zeta -zetaHave -zetaUnused only
    refine y2 (ai (Q:=λr st'=>Same st st'/\∃res t,r=(Z res,t)/\Res lt a.toList b.toList res.toList)
     (EJ (λi r st'=>Same st st'/\∃out ia ib mg,r=(Y,out,ia,ib,mg)/\ML lt a.toList b.toList out.toList ia ib/\ia+1<a.size/\ib<b.size/\i+1<=out.size) ?_ ?_ ⟨Same.refl,_,_,_,_,rfl,m1,∅,∅,by simp⟩) ?_)
    ·rintro i r C3 _ hi ⟨sm,out,ia,ib,mg,rfl,m,Dh,Di,hsz⟩
     try dsimp -zeta -zetaHave -zetaUnused only
     refine y2 (ai (Q:=λr st'=>st'=C3/\((∃B BV BZ ac bc,r=(Y,B,BV,BZ,ac,bc)/\ML lt a.toList b.toList B.toList BV BZ/\BV+1<a.size/\BZ<b.size/\i+2<=B.size)∨∃res t,r=(Z res,t)/\Res lt a.toList b.toList res.toList))
      (EJ (λj r st'=>st'=C3/\∃B BV BZ ac bc,r=(Y,B,BV,BZ,ac,bc)/\ML lt a.toList b.toList B.toList BV BZ/\BV+1<a.size/\BZ<b.size/\i+1+j<=B.size) ?_ ?_ ⟨rfl,_,_,_,_,_,rfl,m,Dh,Di,∅⟩) ?_)
     ·rintro j r BK _ hj ⟨rfl,B,BV,BZ,ac,bc,rfl,m2,h1,h2,h3⟩
      try dsimp only
      obtain⟨y,hy,C4,C8⟩:=au (a:=b) h2;obtain⟨x,hx,CN,CG⟩:=au (a:=a) (i:=BV) ∅
      refine y2 (ao hy (y2 (ao hx (y2 (gG c (sm.kind.trans hk) (Cu _ C8) (Ct _ CG) ?_)))))
      try dsimp only
      refine ad (λhl=>?_) (λhl=>?_)
      ·skip
       refine y2 (ao hy ?_)
       try dsimp only
       have m3:=m2.pushB c CN C4 (c.asym _ _ hl);refine ad (λh=>?_) (λh=>?_)
       ·skip
        have h:BZ+1=b.size:=by simpa using h
        exact aa ⟨rfl,.inr ⟨_,_,rfl,by simpa only[E3,E4,Ex,bd]using m3.fin (by simp;lia)⟩⟩
       ·skip
        have h:BZ+1≠b.size:=by simpa using h
        refine ad (λ_=>?_) (λ_=>?_)
        ·exact aa ⟨rfl,.inl ⟨_,_,_,_,_,rfl,by simpa only[E3,E4]using m3,h1,∅,by simp;lia⟩⟩
        ·exact aa ⟨rfl,_,_,_,_,_,rfl,by simpa only[E3,E4]using m3,h1,∅,by simp;lia⟩
      ·skip
       refine y2 (ao hx ?_)
       try dsimp only
       have m3:=m2.pushA c CN C4 (by simpa using hl)
       refine ad (λh=>?_) (λh=>?_)
       ·skip
        have h:BV+1+1=a.size:=by simpa using h
        exact aa ⟨rfl,.inr ⟨_,_,rfl,by simpa only[E3,E4,Ex,bd]using m3.finA (C9 · · _ h)⟩⟩
       ·skip
        have h:BV+1+1≠a.size:=by simpa using h
        refine ad (λ_=>?_) (λ_=>?_)
        ·exact aa ⟨rfl,.inl ⟨_,_,_,_,_,rfl,by simpa only[E3,E4]using m3,∅,h2,by simp;lia⟩⟩
        ·exact aa ⟨rfl,_,_,_,_,_,rfl,by simpa only[E3,E4]using m3,∅,h2,by simp;lia⟩
     ·rintro r BK ⟨rfl,B,BV,BZ,ac,bc,rfl,m2,h1,h2,h3⟩;exact⟨rfl,.inl ⟨_,_,_,_,_,rfl,m2,h1,h2,∅⟩⟩
     ·rintro r BK ⟨rfl,⟨B,BV,BZ,ac,bc,rfl,m2,h1,h2,h3⟩|⟨res,t,rfl,O⟩⟩
      ·dsimp -zeta -zetaHave -zetaUnused only;refine y2 (bJ ?_);refine y2 (ai (Q:=fun r st'=>Same st st'/\((∃F BM BI BW ac bc,r=(Y,F,BM,BI,BW,ac,bc)/\ML lt a.toList b.toList F.toList BM BI/\BM+1<a.size/\BI<b.size/\i+2<=F.size)∨∃res t,r=(Z res,t)/\Res lt a.toList b.toList res.toList))
        (EJ (λj r st'=>Same st st'/\∃F BM BI BW ac bc,r=(Y,F,BM,BI,BW,ac,bc)/\ML lt a.toList b.toList F.toList BM BI/\BM+1<a.size/\BI<b.size/\i+2<=F.size) ?_ ?_ ⟨sm,_,_,_,_,_,_,rfl,m2,h1,h2,h3⟩) ?_)
       ·rintro j r BH _ hj ⟨BX,F,BM,BI,BW,CO,CP,rfl,m3,h1,h2,h5⟩;obtain⟨y,hy,C4,C8⟩:=au (a:=b) h2;refine ud λQQ hQ=>?_;have J:∀(st':EN) (res:Array D1) t,Same st st'->Res lt a.toList b.toList res.toList->QQ (.done (Z res,t)) st':=λst' res t hs hr=>hQ _ _ ⟨hs,.inr ⟨_,_,rfl,hr⟩⟩;have Dj:∀(st':EN) (out:Array D1) ia ib mg ac bc,Same st st'->ML lt a.toList b.toList out.toList ia ib->ia+1<a.size->ib<b.size->i+2<=out.size->QQ (.done (Y,out,ia,ib,mg,ac,bc)) st'/\QQ (.yield (Y,out,ia,ib,mg,ac,bc)) st':=λst' out ia ib mg ac bc hs p1 p2 p3 p4=>⟨hQ _ _ ⟨hs,.inl ⟨_,_,_,_,_,_,rfl,p1,p2,p3,p4⟩⟩,hQ _ _ ⟨hs,_,_,_,_,_,_,rfl,p1,p2,p3,p4⟩⟩;clear hQ hj
        extract_lets -underBinder s0 vout s1 via s2 vib s3 vmg s4 vac vbc jp vmx
        have CQ:∀mg,wpS (E9 prog w) A E s (jp () mg) QQ BH:=by
         intro mg;dsimp -zeta -zetaHave -zetaUnused only[jp,s0,vout,s1,via,s2,vib,s3,vmg,s4,vac,vbc];clear vmx jp vbc vac s4 vmg s3 vib s2 via s1 vout s0;refine y2 (FJ ?_);refine qc (P:=Same st) (BX.trans ⟨rfl,rfl,rfl,rfl⟩) λCw BN=>?_;have CS:=BN.kind.trans hk;refine y2 (ao hy ?_);refine y2 (hg NR y a (a.toList.take BM) (a.toList.drop BM) [] _ _ _ _ _ CS (Cu _ C8) (by simp) (dB ∅) (by simp) (λx hx=>Ct x (IZ hx)) ∅ ((z3.mp m3.pa).2.1) λX NP e hX hY=>?_)
         dsimp -zeta -zetaHave -zetaUnused only;have m4:=m3.galA c e C4 λx hx=>ue (hX x hx);have BO:∀x4,a.toList[BM+X.length]?=Z x4->lt x4 y=NR:=λx4 Ca=>c.asym _ _ (qd (hY x4 (kx e Ca)));have Cy:=kz e
         extract_lets -underBinder +onlyGivenNames vac Cb
         clear_value vac
         have Ch:∀(U:Array D1) (C5:Nat),ML lt a.toList b.toList U.toList C5 BI->(∀x4,a.toList[C5]?=Z x4->lt x4 y=NR)->C5+1<a.size->i+2<=U.size->wpS (E9 prog w) A E s (Cb () U C5) QQ Cw:=by
          intro U C5 Dl Cc DN CT;dsimp -zeta -zetaHave -zetaUnused only[Cb];clear Cb Cy BO m4 hX hY;obtain⟨x4,Ca,BS,CU⟩:=au (a:=a) (i:=C5) ∅
          refine y2 (ao hy ?_);have m5:=Dl.pushB c BS C4 (Cc x4 BS);rw[<-E4]at m5;have BU:i+2<=(U.push y).size:=by rw[J7];lia
          try dsimp -zeta -zetaHave -zetaUnused only
          extract_lets -underBinder +onlyGivenNames vo5 vi5
          dsimp -zeta -zetaHave -zetaUnused only[vo5];clear vo5;have e5:vi5=BI+1:=rfl
          clear_value vi5
          subst e5
          revert m5 BU
          generalize U.push y=out5;intro m5 BU;refine ad (λh=>?_) (λh=>?_)
          ·exact aa (J _ _ _ BN (m5.finR (by have h:=GB h;lia)))
          ·have h:BI+1≠b.size:=by simpa using h
           refine y2 (ao Ca ?_);refine y2 (hg NQ x4 b (b.toList.take (BI+1)) (b.toList.drop (BI+1)) [] _ _ _ _ _ CS (Ct _ CU) (by simp) (dB ∅) (by simp) (λx hx=>Cu x (IZ hx)) ∅ ((z3.mp m5.pb).2.1) λX2 Y2 e2 Cn Co=>?_)
           dsimp -zeta -zetaHave -zetaUnused only;have m6:=m5.galB c e2 BS λx hx=>c.asym _ _ (uf (Cn x hx));have BP:∀y6,b.toList[BI+1+X2.length]?=Z y6->lt y6 x4=NR:=λy6 CV=>qe (Co y6 (kx e2 CV));have Cz:=kz e2
           extract_lets -underBinder +onlyGivenNames vbc Cd
           clear_value vbc
           have Ci:∀(BJ:Array D1) (CA:Nat),ML lt a.toList b.toList BJ.toList C5 CA->(∀y6,b.toList[CA]?=Z y6->lt y6 x4=NR)->CA<b.size->i+2<=BJ.size->wpS (E9 prog w) A E s (Cd () BJ CA) QQ Cw:=by
            intro BJ CA Dm Ce Dc Dx;dsimp -zeta -zetaHave -zetaUnused only[Cd];clear Cd Cz BP m6 Cn Co m5 BU CT h5 h1 h2 hsz Di Dh h3;obtain⟨y6,CV,Cj,Dy⟩:=au (a:=b) (i:=CA) Dc;refine y2 (ao Ca ?_);have m7:=Dm.pushA c BS Cj (Ce y6 Cj);rw[<-E4]at m7;dsimp only;refine ad (λh=>?_) (λh=>?_)
            ·exact aa (J _ _ _ BN (m7.finL (C9 · · (C5+1) (GB h))))
            ·have h:C5+1+1≠a.size:=by simpa using h
             have:=Dj Cw (BJ.push x4) (C5+1) CA mg vac vbc BN m7 ∅ Dc (by rw[J7];lia)
             exact ad (λ_=>aa this.1) (λ_=>aa this.2)
           clear_value Cd
           refine ad (λh0=>?_) (λh0=>?_)
           ·dsimp only;have m6:=m6.cut (a:=b) e2;refine ad (λh=>?_) (λh=>?_)
            ·exact aa (J _ _ _ BN (m6.finR (by have h:=GB h;lia)))
            ·have h:BI+1+X2.length≠b.size:=by simpa using h
             exact Ci _ _ m6 BP ∅ (by rw[Hv];lia)
           ·have Cf:X2=[]:=Eo.mp ∅
            subst Cf;exact Ci _ _ m5 BP ∅ BU
         clear_value Cb
         refine ad (λh0=>?_) (λh0=>?_)
         ·dsimp only;have m4:=m4.cut (a:=a) e;refine ad (λh=>?_) (λh=>?_)
          ·exact aa (J _ _ _ BN (m4.finL (C9 · · _ (GB h))))
          ·have h:BM+X.length+1≠a.size:=by simpa using h
           refine ad (λh=>?_) (λh9=>?_)
           ·exact aa (J _ _ _ BN (m4.finS (by have h:=GB h;lia)))
           ·have h9:BM+X.length≠a.size:=by simpa using h9
            exact Ch _ _ m4 BO ∅ (by rw[Hv];lia)
         ·have Cf:X=[]:=Eo.mp ∅
          subst Cf;exact Ch _ _ m3 BO h1 h5
        clear_value jp
        exact ad (λ_=>CQ _) (λ_=>CQ _)
       ·rintro r BH ⟨BX,F,BM,BI,BW,CO,CP,rfl,m3,h1,h2,h5⟩;exact⟨BX,.inl ⟨_,_,_,_,_,_,rfl,m3,h1,h2,h5⟩⟩
       ·rintro r BH ⟨BX,⟨F,BM,BI,BW,CO,CP,rfl,m3,h1,h2,h5⟩|⟨res,t,rfl,O⟩⟩
        ·dsimp -zeta -zetaHave -zetaUnused only;refine y2 (FJ ?_);exact aa ⟨BX.trans ⟨rfl,rfl,rfl,rfl⟩,_,_,_,_,rfl,m3,h1,h2,∅⟩
        ·exact aa ⟨BX,_,_,rfl,O⟩
      ·exact aa ⟨sm,_,_,rfl,O⟩
    ·rintro r C3 ⟨sm,out,ia,ib,mg,rfl,m,Dh,Di,hsz⟩;have:=m.size (by simp;lia) (by simp;lia)
     simp at this;lia
    ·rintro r C3 ⟨sm,res,t,rfl,O⟩;exact aa (q res C3 O.1 O.2 sm)
 ·intro hg a b st Q hk Ct Cu D7 D8 sa sb CJ CK q;refine y2 (bJ ?_);obtain⟨bL,Dg,CC,DO⟩:=au (a:=b) (i:=b.size-1) ∅
  obtain⟨aL,Da,CM,DP⟩:=au (a:=a) (i:=a.size-1) ∅
  refine y2 (ao Da ?_);have m0:MH lt a.toList b.toList [] a.size b.size:=⟨by rw[cU];simpa using sa,by rw[cU];simpa using sb,by rw[cU,cU];simp⟩
  have m1:MH lt a.toList b.toList [aL] (a.size-1) b.size:=m0.pushA c D7 D8 CM CC (CK aL bL Da Dg);have C1:∀x∈b.toList.take 1,∀y∈a.toList,lt y x=NR:=by
   intro x hx y hy;obtain⟨b0,D9,CL,_⟩:=au D8;obtain⟨a0,CH,CB,_⟩:=au D7;have ex:x=b0:=by
    rw[cc ∅ CL]at hx
    simpa using hx
   subst ex;have h:=CJ a0 x CH D9;obtain⟨j,hj,e⟩:=FE.mp hy;have Cv:a.toList[j]?=Z y:=by rw[<-e];exact z4 hj
   by_cases hj0:j=0
   ·subst hj0;rw[CB]at Cv;cases Cv;exact h
   ·exact c.le_trans h (dg sa ∅ CB Cv)
  try dsimp -zeta -zetaHave -zetaUnused only
  refine ad (λh=>?_) (λh=>?_)
  ·skip
   have h:a.size-1=0:=by simpa using h
   refine aa ?_;have r:=m1.fin (.inl h);exact q _ _ (by simpa only[E3,E4,EE,Ex,aQ]using r.1) (by simpa only[E3,E4,EE,Ex,aQ]using r.2) Same.refl
  ·skip
   refine ad (λh2=>?_) (λh2=>?_)
   ·skip
    have h2:b.size=1:=by simpa using h2
    refine aa ?_;have r:=m1.finB (by rw[h2];exact C1)
    exact q _ _ (by simpa only[E3,E4,EE,Ex,aQ]using r.1) (by simpa only[E3,E4,EE,Ex,aQ]using r.2) Same.refl
   ·skip
    have h:a.size-1≠0:=by simpa using h
    have h2:b.size≠1:=by simpa using h2
    refine y2 (GQ ?_)
    try dsimp -zeta -zetaHave -zetaUnused only
    refine y2 (ai (Q:=λr st'=>Same st st'/\∃res t,r=(Z res,t)/\Res lt a.toList b.toList res.toList)
     (EJ (λi r st'=>Same st st'/\∃na nb out mg,r=(Y,na,nb,out,mg)/\MH lt a.toList b.toList out.toList na nb/\0<na/\1<nb/\na<a.size/\nb<=b.size/\i+1<=out.size) ?_ ?_ ⟨Same.refl,_,_,_,_,rfl,m1,∅,∅,∅,∅,by simp⟩) ?_)
    ·rintro i r C3 _ hi ⟨sm,na,nb,out,mg,rfl,m,Cl,CD,CW,CY,hsz⟩
     try dsimp -zeta -zetaHave -zetaUnused only
     refine y2 (ai (Q:=λr st'=>st'=C3/\((∃BQ BR B ac bc,r=(Y,BQ,BR,B,ac,bc)/\MH lt a.toList b.toList B.toList BQ BR/\0<BQ/\1<BR/\BQ<a.size/\BR<=b.size/\i+2<=B.size)∨∃res t,r=(Z res,t)/\Res lt a.toList b.toList res.toList))
      (EJ (λj r st'=>st'=C3/\∃BQ BR B ac bc,r=(Y,BQ,BR,B,ac,bc)/\MH lt a.toList b.toList B.toList BQ BR/\0<BQ/\1<BR/\BQ<a.size/\BR<=b.size/\i+1+j<=B.size) ?_ ?_ ⟨rfl,_,_,_,_,_,rfl,m,Cl,CD,CW,CY,∅⟩) ?_)
     ·rintro j r BK _ hj ⟨rfl,BQ,BR,B,ac,bc,rfl,m2,h1,h2,BY,C0,h3⟩
      try dsimp only
      obtain⟨y,hy,C4,C8⟩:=au (a:=b) (i:=BR-1) ∅
      obtain⟨x,hx,CN,CG⟩:=au (a:=a) (i:=BQ-1) ∅
      refine y2 (ao hy (y2 (ao hx (y2 (gG c (sm.kind.trans hk) (Cu _ C8) (Ct _ CG) ?_)))))
      try dsimp only
      refine ad (λhl=>?_) (λhl=>?_)
      ·skip
       refine y2 (ao hx ?_)
       try dsimp only
       have m3:=m2.pushA c h1 ∅ CN C4 (c.asym _ _ hl)
       refine ad (λh=>?_) (λh=>?_)
       ·skip
        have h:BQ-1=0:=by simpa using h
        exact aa ⟨rfl,.inr ⟨_,_,rfl,by have r:=m3.fin (.inl h);simpa only[E3,E4,EE,Ex,aQ]using r⟩⟩
       ·skip
        have h:BQ-1≠0:=by simpa using h
        refine ad (λ_=>?_) (λ_=>?_)
        ·exact aa ⟨rfl,.inl ⟨_,_,_,_,_,rfl,by simpa only[E3,E4,EE,Ex,aQ]using m3,∅,h2,∅,C0,by simp;lia⟩⟩
        ·exact aa ⟨rfl,_,_,_,_,_,rfl,by simpa only[E3,E4,EE,Ex,aQ]using m3,∅,h2,∅,C0,by simp;lia⟩
      ·skip
       refine y2 (ao hy ?_)
       try dsimp only
       have m3:=m2.pushB c h1 ∅ CN C4 (by simpa using hl)
       refine ad (λh=>?_) (λh=>?_)
       ·skip
        have h:BR-1=1:=by simpa using h
        exact aa ⟨rfl,.inr ⟨_,_,rfl,by have r:=m3.finB (by rw[h];exact C1);simpa only[E3,E4,EE,Ex,aQ]using r⟩⟩
       ·skip
        have h:BR-1≠1:=by simpa using h
        refine ad (λ_=>?_) (λ_=>?_)
        ·exact aa ⟨rfl,.inl ⟨_,_,_,_,_,rfl,by simpa only[E3,E4,EE,Ex,aQ]using m3,h1,∅,BY,∅,by simp;lia⟩⟩
        ·exact aa ⟨rfl,_,_,_,_,_,rfl,by simpa only[E3,E4,EE,Ex,aQ]using m3,h1,∅,BY,∅,by simp;lia⟩
     ·rintro r BK ⟨rfl,BQ,BR,B,ac,bc,rfl,m2,h1,h2,BY,C0,h3⟩;exact⟨rfl,.inl ⟨_,_,_,_,_,rfl,m2,h1,h2,BY,C0,∅⟩⟩
     ·rintro r BK ⟨rfl,⟨BQ,BR,B,ac,bc,rfl,m2,h1,h2,BY,C0,h3⟩|⟨res,t,rfl,O⟩⟩
      ·try dsimp -zeta -zetaHave -zetaUnused only
       refine y2 (bJ ?_);refine y2 (ai (Q:=λr st'=>Same st st'/\((∃BL fv F BW ac bc,r=(Y,BL,fv,F,BW,ac,bc)/\MH lt a.toList b.toList F.toList BL fv/\0<BL/\1<fv/\BL<a.size/\fv<=b.size/\i+2<=F.size)∨∃res t,r=(Z res,t)/\Res lt a.toList b.toList res.toList))
        (EJ (λj r st'=>Same st st'/\∃BL fv F BW ac bc,r=(Y,BL,fv,F,BW,ac,bc)/\MH lt a.toList b.toList F.toList BL fv/\0<BL/\1<fv/\BL<a.size/\fv<=b.size/\i+2<=F.size) ?_ ?_ ⟨sm,_,_,_,_,_,_,rfl,m2,h1,h2,BY,C0,h3⟩) ?_)
       ·rintro j r BH _ hj ⟨BX,BL,fv,F,BW,CO,CP,rfl,m3,h1,h2,BY,C0,h5⟩;obtain⟨y,hy,C4,C8⟩:=au (a:=b) (i:=fv-1) ∅
        refine ud λQQ hQ=>?_;have J:∀(st':EN) (res:Array D1) t,Same st st'->Res lt a.toList b.toList res.toList->QQ (.done (Z res,t)) st':=λst' res t hs hr=>hQ _ _ ⟨hs,.inr ⟨_,_,rfl,hr⟩⟩;have Dj:∀(st':EN) (out:Array D1) na nb mg ac bc,Same st st'->MH lt a.toList b.toList out.toList na nb->0<na->1<nb->na<a.size->nb<=b.size->i+2<=out.size->QQ (.done (Y,na,nb,out,mg,ac,bc)) st'/\QQ (.yield (Y,na,nb,out,mg,ac,bc)) st':=λst' out ia ib mg ac bc hs p1 p2 p3 p4 p5 p6=>⟨hQ _ _ ⟨hs,.inl ⟨_,_,_,_,_,_,rfl,p1,p2,p3,p4,p5,p6⟩⟩,hQ _ _ ⟨hs,_,_,_,_,_,_,rfl,p1,p2,p3,p4,p5,p6⟩⟩;clear hQ hj
        extract_lets -underBinder s0 vna s1 vnb s2 vout s3 vmg s4 vac vbc jp vmx
        have CQ:∀mg,wpS (E9 prog w) A E s (jp () mg) QQ BH:=by
         intro mg;dsimp -zeta -zetaHave -zetaUnused only[jp,s0,vna,s1,vnb,s2,vout,s3,vmg,s4,vac,vbc];clear vmx jp vbc vac s4 vmg s3 vout s2 vnb s1 vna s0;refine y2 (FJ ?_);refine qc (P:=Same st) (BX.trans ⟨rfl,rfl,rfl,rfl⟩) λCw BN=>?_;have CS:=BN.kind.trans hk;refine y2 (ao hy ?_);refine y2 (hg NR y a [] (a.toList.take BL) (a.toList.drop BL) _ _ _ _ _ CS (Cu _ C8) (by simp) rfl (dB ∅) (λx hx=>Ct x (HB hx)) ∅ ((z3.mp m3.pa).1) λX NP e hX hY=>?_)
         dsimp -zeta -zetaHave -zetaUnused only;have m4:=m3.galA c e ∅ C4 λx hx=>c.asym _ _ (qd (hY x hx))
         have BO:0<X.length->∀x4,a.toList[X.length-1]?=Z x4->lt y x4=NR:=λh0 x4 Ca=>ue (hX x4 (ky e h0 Ca));have Cy:=iY e ∅
         extract_lets -underBinder +onlyGivenNames vk vac Cb
         clear_value vac
         have Ch:∀(C6:Nat) (U:Array D1),MH lt a.toList b.toList U.toList C6 fv->(∀x4,a.toList[C6-1]?=Z x4->lt y x4=NR)->0<C6->C6<a.size->i+2<=U.size->wpS (E9 prog w) A E s (Cb () C6 U) QQ Cw:=by
          intro C6 U Dl Cc CZ DK CT;dsimp -zeta -zetaHave -zetaUnused only[Cb];clear Cb vk Cy BO m4 hX hY;obtain⟨x4,Ca,BS,CU⟩:=au (a:=a) (i:=C6-1) ∅
          refine y2 (ao hy ?_);have m5:=Dl.pushB c CZ ∅ BS C4 (Cc x4 BS)
          rw[<-E4]at m5;have BU:i+2<=(U.push y).size:=by rw[J7];lia
          try dsimp -zeta -zetaHave -zetaUnused only
          extract_lets -underBinder +onlyGivenNames vo5
          dsimp -zeta -zetaHave -zetaUnused only[vo5];clear vo5
          revert m5 BU
          generalize U.push y=out5;intro m5 BU;refine ad (λh=>?_) (λh=>?_)
          ·exact aa (J _ _ _ BN (m5.finR (by rw[GB h];exact C1)))
          ·have h:fv-1≠1:=by simpa using h
           refine y2 (ao Ca ?_);refine y2 (hg NQ x4 b [] (b.toList.take (fv-1)) (b.toList.drop (fv-1)) _ _ _ _ _ CS (Ct _ CU) (by simp) rfl (dB ∅) (λx hx=>Cu x (HB hx)) ∅ ((z3.mp m5.pb).1) λX2 Y2 e2 Cn Co=>?_)
           dsimp -zeta -zetaHave -zetaUnused only;have m6:=m5.galB c e2 CZ BS λx hx=>qe (Co x hx);have BP:0<X2.length->∀y6,b.toList[X2.length-1]?=Z y6->lt x4 y6=NR:=λh0 y6 CV=>c.asym _ _ (uf (Cn y6 (ky e2 h0 CV)));have Cz:=iY e2 ∅
           extract_lets -underBinder +onlyGivenNames vk vbc Cd
           clear_value vbc
           have Ci:∀(Ck:Nat) (BJ:Array D1),MH lt a.toList b.toList BJ.toList C6 Ck->(∀y6,b.toList[Ck-1]?=Z y6->lt x4 y6=NR)->1<Ck->Ck<=b.size->i+2<=BJ.size->wpS (E9 prog w) A E s (Cd () Ck BJ) QQ Cw:=by
            intro Ck BJ Dm Ce Dz Dn Dx;dsimp -zeta -zetaHave -zetaUnused only[Cd];clear Cd vk Cz BP m6 Cn Co m5 BU CT h5 h1 h2 BY C0 hsz Cl CD CW CY h3;obtain⟨y6,CV,Cj,Dy⟩:=au (a:=b) (i:=Ck-1) ∅
            refine y2 (ao Ca ?_);have m7:=Dm.pushA c CZ ∅ BS Cj (Ce y6 Cj)
            rw[<-E4]at m7;dsimp only;refine ad (λh=>?_) (λh=>?_)
            ·exact aa (J _ _ _ BN (m7.finL (.inl (GB h))))
            ·have h:C6-1≠0:=by simpa using h
             have:=λmg ac bc=>Dj Cw (BJ.push x4) (C6-1) Ck mg ac bc BN m7 ∅ Dz ∅ Dn (by rw[J7];lia)
             exact ad (λ_=>aa (this _ _ _).1) (λ_=>aa (this _ _ _).2)
           clear_value Cd
           refine ad (λh0=>?_) (λh0=>?_)
           ·dsimp only;have m6:=m6.cut (a:=b) e2;refine ad (λh=>?_) (λh=>?_)
            ·exact aa (J _ _ _ BN (m6.finR (by rw[GB h];exact C1)))
            ·have h:X2.length≠1:=by simpa using h
             refine ad (λh9=>?_) (λh9=>?_)
             ·exact aa (J _ _ _ BN (m6.finL (.inr (GB h9))))
             ·have h9:X2.length≠0:=by simpa using h9
              exact Ci _ _ m6 (BP ∅) ∅ ∅ (by rw[Hv];lia)
           ·have h0:¬(fv-1-X2.length > 0):=h0;have hl:X2.length=fv-1:=by lia
            have CI:0<X2.length:=∅
            have hr:=BP CI;rw[hl]at hr;exact Ci _ _ m5 hr ∅ ∅ BU
         clear_value Cb
         refine ad (λh0=>?_) (λh0=>?_)
         ·dsimp only;have m4:=m4.cut (a:=a) e;refine ad (λh=>?_) (λh=>?_)
          ·exact aa (J _ _ _ BN (m4.finL (.inl (GB h))))
          ·have h:X.length≠0:=by simpa using h
           exact Ch _ _ m4 (BO ∅) ∅ ∅ (by rw[Hv];lia)
         ·have h0:¬(BL-X.length > 0):=h0;have hl:X.length=BL:=by lia
          have hr:=BO ∅
          rw[hl]at hr;exact Ch _ _ m3 hr h1 BY h5
        clear_value jp
        exact ad (λ_=>CQ _) (λ_=>CQ _)
       ·rintro r BH ⟨BX,BL,fv,F,BW,CO,CP,rfl,m3,h1,h2,BY,C0,h5⟩;exact⟨BX,.inl ⟨_,_,_,_,_,_,rfl,m3,h1,h2,BY,C0,h5⟩⟩
       ·rintro r BH ⟨BX,⟨BL,fv,F,BW,CO,CP,rfl,m3,h1,h2,BY,C0,h5⟩|⟨res,t,rfl,O⟩⟩
        ·try dsimp -zeta -zetaHave -zetaUnused only
         refine y2 (FJ ?_);exact aa ⟨BX.trans ⟨rfl,rfl,rfl,rfl⟩,_,_,_,_,rfl,m3,h1,h2,BY,C0,∅⟩
        ·exact aa ⟨BX,_,_,rfl,O⟩
      ·exact aa ⟨sm,_,_,rfl,O⟩
    ·rintro r C3 ⟨sm,na,nb,out,mg,rfl,m,Cl,CD,CW,CY,hsz⟩;have:=m.size (by simp;lia) (by simp;lia)
     simp at this;lia
    ·rintro r C3 ⟨sm,res,t,rfl,O⟩;exact aa (q res C3 O.1 O.2 sm)
end
end Srt
namespace Srt
variable{st:EN}{L R xs:List D1}{i j n:Nat}{x:D1}
section
variable{prog:Eg}{w:Ez}{A:ED}{E:gV->q7->Prop}{s:q7}{kd:HY}{P:D1->Prop}{lt:D1->D1->Bool}
structure Kp(st st':EN):Prop where
 kind:Fj st'=Fj st
 pend:E1 st'=E1 st
 fail:FI st'=FI st
theorem Kp.refl:Kp st st:=⟨rfl,rfl,rfl⟩
theorem Kp.trans{a b c:EN}(h:Kp a b)(g:Kp b c):Kp a c:=⟨g.kind.trans h.kind,g.pend.trans h.pend,g.fail.trans h.fail⟩
theorem lB{a:Array D1}{B:List D1}(e:a.toList=L++(B++R))(hi:i=L.length)(z:j=L.length+B.length):(mirror a i j ((j-i) / 2)).toList=L++(B.reverse++R):=by
 have hs:a.size=L.length+(B.length+R.length):=by rw[<-Ei,e];simp
 apply Iu;intro k;rw[DS,getElem?_mirror_all ∅]
 have g:∀n:Nat,a[n]?=(L++(B++R))[n]?:=λn=>by rw[<-DS,e]
 rw[g,g]
 by_cases h1:k<L.length
 ·rw[if_neg ∅,E7 h1,E7 h1]
 ·by_cases h2:k<j
  ·rw[if_pos ∅,y1 ∅,E7 ∅,y1 ∅,E7 (by simp;lia),List.getElem?_reverse ∅]
   congr 1;lia
  ·rw[if_neg ∅,y1 ∅,y1 ∅,y1 ∅,y1 (by simp;lia)]
   simp
theorem lD{a:Array D1}{j z:List D1}(e:a.toList=L++((j++z)++x::R)){src d:Nat}(hi:src=L.length+(j.length+z.length))(hd:d=z.length):(bubble a src d).toList=L++((j++x::z)++R):=by
 have hs:a.size=L.length+(j.length+z.length+(R.length+1)):=by rw[<-Ei,e];simp;lia
 apply Iu;intro k;rw[DS,getElem?_bubble ∅ d ∅]
 have g:∀n:Nat,a[n]?=(L++((j++z)++x::R))[n]?:=λn=>by rw[<-DS,e]
 rw[g,g,g]
 by_cases h1:k<L.length
 ·rw[if_neg ∅,if_neg ∅,E7 h1,E7 h1]
 ·by_cases h2:k<L.length+j.length
  ·rw[if_neg ∅,if_neg ∅,y1 ∅,E7 (by simp;lia),E7 ∅,y1 ∅,E7 (by simp;lia),E7 ∅]
  ·by_cases h3:k=L.length+j.length
   ·rw[if_pos ∅,y1 ∅,y1 (by simp;lia),y1 ∅,E7 (by simp;lia),y1 ∅]
    have F:src-L.length-(j++z).length=0:=by simp;lia
    have B:k-L.length-j.length=0:=∅
    rw[F,B];rfl
   ·by_cases h4:k<=src
    ·rw[if_neg ∅,if_pos ∅,y1 ∅,E7 (by simp;lia),y1 ∅,y1 ∅,E7 (by simp;lia),y1 ∅]
     have B:k-L.length-j.length=(k-1-L.length-j.length)+1:=∅
     rw[B,GY]
    ·rw[if_neg ∅,if_neg ∅,y1 ∅,y1 (by simp;lia),y1 ∅,y1 (by simp;lia)]
     have B:k-L.length-(j++z).length=(k-L.length-(j++x::z).length)+1:=by simp;lia
     rw[B,GY]
theorem cH(c:Cm prog w A s kd P lt){y:D1}{Q:Option Bool->EN->Prop}(z:Fj st=kd)(hx:(Es st)[i]?=Z x)(B:(Es st)[j]?=Z y)(px:P x)(py:P y)(q:Q (Z (lt x y)) st):wpS (E9 prog w) A E s (ltAt' i j) Q st:=by rw[ltAt'_eq];exact y2 (GQ (y2 (ao hx (y2 (ao B (gG c z px py q))))))
theorem gH{Q:Unit->EN->Prop}{B:List D1}(e:(Es st).toList=L++(B++R))(hi:i=L.length)(z:j=L.length+B.length)(q:∀st',(Es st').toList=L++(B.reverse++R)->Kp st st'->Q () st'):wpS (E9 prog w) A E s (reverseSlice' i j) Q st:=by rw[reverseSlice'_eq];exact FJ (q _ (lB e hi z) ⟨rfl,rfl,rfl⟩)
theorem bB(e:(Es st).toList=L++xs)(hi:i=L.length+n):(Es st)[i]?=xs[n]?:=by
 rw[<-DS,e,hi,y1 ∅]
 congr 1;lia
theorem kA(c:Cm prog w A s kd P lt){y:D1}(h:Ord lt (xs.take n))(j:0<n)(hx:xs[n]?=Z x)(B:xs[n-1]?=Z y)(F:lt x y=NR):Ord lt (xs.take (n+1)):=by
 rw[LD,hx];refine z3.mpr ⟨h,by simp,λz J u hu=>?_⟩
 simp at hu;subst hu;exact fe c h j B F z J
noncomputable abbrev ck(lt:D1->D1->Bool)(l:List D1):Prop:=l.Pairwise λx y=>lt x y=NR
theorem fN(c:Cm prog w A s kd P lt){D:List D1}{e:D1}(h:ck lt (D++[e]))(hx:lt e x=NR):ck lt (D++[e]++[x]):=by
 refine z3.mpr ⟨h,by simp,λz j u hu=>?_⟩
 simp at hu;subst hu;obtain⟨_,_,B⟩:=z3.mp h
 rcases Ef.mp j with g|g
 ·cases q:lt z u with
  |false=>rfl
  | true=>rcases c.neg z e u q with r|r
          ·rw[B z g e (by simp)]at r;cases r
          ·rw[hx]at r;cases r
 ·simp at g;subst g;exact hx
theorem mz{z F:List D1}(h:ck lt (z++F))(he:∀x∈F,∀y∈F,lt x y=NR):ck lt (z++F.reverse):=by obtain⟨h1,h2,B⟩:=z3.mp h;refine z3.mpr ⟨h1,?_,λx hx y j=>B x hx y (HF.mp j)⟩;rw[Km];exact h2.imp_of_mem λhx j _=>he _ j _ hx
theorem perm_take:(xs.take n++xs.drop n).Perm xs:=by rw[F7]
theorem fG(c:Cm prog w A s kd P lt){Q:Option Nat->EN->Prop}(hk:Fj st=kd)(O:(Es st).toList=L++xs)(h0:xs≠[])(hP:∀x∈xs,P x)(q:∀r R st',(Es st').toList=L++(r++R)->(r++R).Perm xs->r≠[]->Ord lt r->Kp st st'->Q (Z r.length) st'):wpS (E9 prog w) A E s (countRun' L.length xs.length) Q st:=by
 have C4:0<xs.length:=EI.mpr h0;rw[countRun'_eq]
 try dsimp -zeta -zetaHave -zetaUnused only
 refine y2 (ai (Q:=λr st'=>st'=st/\∃n,r=(Y,n)/\1<=n/\n<=xs.length/\Ord lt (xs.take n)/\(n=xs.length∨∃x y,xs[n]?=Z x/\xs[n-1]?=Z y/\lt x y=NQ))
  (EJ (fun i r st'=>st'=st/\r=(Y,i)/\Ord lt (xs.take i)) ?_ ?_ ⟨rfl,rfl,by
   cases xs with
   |nil=>exact absurd rfl h0
   |cons x t=>simp⟩) ?_)
 ·rintro i r st' h1 hi ⟨rfl,rfl,ho⟩;dsimp only;obtain⟨x,hx⟩:∃x,xs[i]?=Z x:=⟨_,z4 hi⟩;obtain⟨y,hy⟩:∃y,xs[i-1]?=Z y:=⟨_,z4 ∅⟩
  refine y2 (cH c hk ((bB O rfl).trans hx) ((bB O ∅).trans hy) (hP _ (Eh hx)) (hP _ (Eh hy)) ?_)
  dsimp only;refine ad (λh=>?_) (λh=>?_)
  ·exact aa ⟨rfl,i,rfl,h1,∅,ho,.inr ⟨x,y,hx,hy,h⟩⟩
  ·exact aa ⟨rfl,rfl,kA c ho ∅ hx hy (by simpa using h)⟩
 ·rintro r st' ⟨rfl,rfl,ho⟩;exact⟨rfl,_,rfl,∅,∅,ho,.inl ∅⟩
 ·rintro r st' ⟨rfl,n,rfl,Ct,C5,ho,hc⟩;dsimp -zeta -zetaHave -zetaUnused only;have BR:Q (Z n) st':=by
   have:=q (xs.take n) (xs.drop n) st' (by rw[O,F7]) perm_take (λz=>by have h3:=congrArg Gr z;rw[Et,Ga]at h3;lia) ho Kp.refl
   rw[Et,I9 C5]at this;exact this
  extract_lets -underBinder +onlyGivenNames vr vn
  dsimp -zeta -zetaHave -zetaUnused only[vr];clear vr;have en:n=vn:=rfl
  clear_value vn
  subst en;refine ad (λh=>aa BR) (λh=>?_);have Cg:n≠xs.length:=by simpa using h
  obtain⟨x,y,hx,hy,Ch⟩:=hc.resolve_left Cg;have Cu:n<xs.length:=∅
  have exs:xs=xs.take n++x::xs.drop (n+1):=by have h1:=(F7 n xs).symm;rw[cO hx]at h1;exact h1
  have C6:y∈xs.take n:=by rw[cc ∅ hy];simp
  extract_lets -underBinder +onlyGivenNames jp
  have C7:∀(B:List D1) (BH:EN),(Es BH).toList=L++(B++x::xs.drop (n+1))->B.Perm (xs.take n)->B.length=n->(∀u∈B,∀v∈B,lt u v=NR)->y∈B->Kp st' BH->wpS (E9 prog w) A E s (jp ()) Q BH:=by
   intro B BH e1 hB BI BJ BK BL;dsimp -zeta -zetaHave -zetaUnused only[jp];clear jp;refine y2 (bJ ?_)
   try dsimp -zeta -zetaHave -zetaUnused only
   extract_lets -underBinder +onlyGivenNames vn1 vq1
   have Ci:vn1=n+1:=rfl;have eq1:vq1=0:=rfl
   clear_value vn1 vq1
   subst Ci eq1;refine y2 (ai (Q:=λr U=>∃j F R neq,Kp st' U/\(Es U).toList=L++((j++F)++R)/\((j++F)++R).Perm xs/\r=(Y,(j++F).length,neq)/\F.length=neq+1/\ck lt (j++F)/\(∀u∈F,∀v∈F,lt u v=NR))
    (EJ (λi r U=>∃j F R neq,Kp st' U/\(Es U).toList=L++((j++F)++R)/\((j++F)++R).Perm xs/\r=(Y,(j++F).length,neq)/\F.length=neq+1/\ck lt (j++F)/\(∀u∈F,∀v∈F,lt u v=NR)/\(j++F).length=i) ?_ ?_ ?_) ?_)
   ·rintro i r U Cv hi ⟨j,F,R,neq,kp,ea,hp,rfl,hF,hN,hE,C8⟩;subst C8;have hlen:=hp.length_eq;rw[DZ]at hlen;obtain⟨z,R',rfl⟩:∃z R',R=z::R':=by
     cases R with
     |nil=>simp at hlen;simp at hi;lia
     |cons z R'=>exact⟨z,R',rfl⟩
    have Cj:F≠[]:=λz=>by rw[z]at hF;simp at hF
    obtain⟨F0,e,rfl⟩:∃F0 e,F=F0++[e]:=⟨F.dropLast,F.getLast Cj,(Fv _).symm⟩;have hz:(Es U)[L.length+(j++(F0++[e])).length]?=Z z:=by rw[bB ea rfl,y1 ∅,Jc];rfl
    have he:(Es U)[L.length+(j++(F0++[e])).length-1]?=Z e:=by rw[bB ea (n:=(j++F0).length) (by simp<;>lia),E7 (by simp<;>lia),<-Ea,y1 ∅,Jc];rfl
    have C9:P z:=hP z (hp.mem_iff.mp (by simp))
    have Ca:P e:=hP e (hp.mem_iff.mp (by simp))
    dsimp only;refine y2 (cH c (kp.kind.trans hk) hz he C9 Ca ?_);dsimp only;have BW:ck lt (j++F0++[e]):=by rw[Ea];exact hN
    refine ad (λBX=>?_) (λBX=>?_)
    ·have BM:lt e z=NR:=c.asym _ _ BX;refine ad (λBN=>?_) (λBN=>?_)
     ·refine y2 (gH (L:=L++j) (B:=F0++[e]) (R:=z::R') (by rw[ea];simp) (by simp only[DZ]at hF⊢;simp only[ID]at hF⊢;lia) (by simp<;>lia) λfv e3 NP=>?_)
      refine aa ⟨j++(F0++[e]).reverse,[z],R',0,kp.trans NP,by rw[e3];simp,?_,by simp<;>lia,rfl,?_,?_,by simp<;>lia⟩
      ·refine G7.trans ?_ hp;rw[Ea,Ea,Ea];exact EK _ (EW _ (Hw _))
      ·have h1:=mz hN hE;refine z3.mpr ⟨h1,by simp,λu hu v J=>?_⟩
       simp at J;subst J;have hm:=fN c BW BM;refine(z3.mp hm).2.2 u ?_ v (by simp)
       rw[Ea]
       rcases Ef.mp hu with g|g
       ·exact EV _ g
       ·exact Ed _ (HF.mp g)
      ·intro u hu v J;simp at hu J;subst hu J;exact c.irr
     ·refine aa ⟨j++(F0++[e]),[z],R',0,kp,by rw[ea];simp,by simpa using hp,by simp<;>lia,rfl,?_,?_,by simp<;>lia⟩
      ·have hm:=fN c BW BM;simpa using hm
      ·intro u hu v J;simp at hu J;subst hu J;exact c.irr
    ·have Ck:lt z e=NR:=by simpa using BX
     refine y2 (cH c (kp.kind.trans hk) he hz Ca C9 ?_);dsimp only;refine ad (λCb=>?_) (λCb=>?_)
     ·exact aa ⟨j,F0++[e],z::R',neq,kp,ea,hp,rfl,hF,hN,hE⟩
     ·have BM:lt e z=NR:=by simpa using Cb
      refine aa ⟨j,(F0++[e])++[z],R',neq+1,kp,by rw[ea];simp,by simpa using hp,by simp<;>lia,by simp at hF⊢;lia,?_,?_,by simp<;>lia⟩
      ·have hm:=fN c BW BM;simpa using hm
      ·have Cl:∀u∈F0++[e],lt u z=NR:=fun u hu=>by
        cases q1:lt u z with
        |false=>rfl
        | true=>rcases c.neg u e z q1 with r|r
                ·rw[hE u hu e (by simp)]at r;cases r
                ·rw[BM]at r;cases r
       have Cn:∀u∈F0++[e],lt z u=NR:=λu hu=>by
        cases q1:lt z u with
        |false=>rfl
        | true=>rcases c.neg z e u q1 with r|r
                ·rw[Ck]at r;cases r
                ·rw[hE e (by simp) u hu]at r;cases r
       intro u hu v J
       rcases Ef.mp hu with g|g<;>rcases Ef.mp J with g2|g2
       ·exact hE u g v g2
       ·simp at g2;subst g2;exact Cl u g
       ·simp at g;subst g;exact Cn v g2
       ·simp at g g2;subst g g2;exact c.irr
   ·rintro r U ⟨j,F,R,neq,kp,ea,hp,hr,hF,hN,hE,C8⟩;exact⟨j,F,R,neq,kp,ea,hp,hr,hF,hN,hE⟩
   ·refine⟨B,[x],xs.drop (n+1),0,BL,by rw[e1];simp,?_,by simp[BI],rfl,?_,?_,by simp[BI]⟩
    ·have h9:(B++x::xs.drop (n+1)).Perm xs:=by
      have h9:=EW (x::xs.drop (n+1)) hB;rw[<-exs]at h9;exact h9
     simpa using h9
    ·refine z3.mpr ⟨List.Pairwise.imp_of_mem (λhu J _=>BJ _ hu _ J) (List.pairwise_of_forall_mem_list (r:=λ_ _=>True) λ_ _ _ _=>trivial),by simp,λu hu v J=>?_⟩
     simp at J;subst J
     cases q1:lt u v with
     |false=>rfl
     | true=>rcases c.neg u y v q1 with r|r
             ·rw[BJ u hu y BK]at r;cases r
             ·rw[c.asym _ _ Ch]at r;cases r
    ·intro u hu v J;simp at hu J;subst hu J;exact c.irr
   ·rintro r U ⟨j,F,R,neq,kp,ea,hp,rfl,hF,hN,hE⟩;dsimp -zeta -zetaHave -zetaUnused only
    extract_lets -underBinder +onlyGivenNames vr vs vn2 vq2
    dsimp -zeta -zetaHave -zetaUnused only[vr];have Co:vn2=(j++F).length:=rfl;have eq2:neq=vq2:=rfl
    clear_value vn2 vq2
    clear vs vr;subst Co eq2
    extract_lets -underBinder +onlyGivenNames BO
    have BS:∀(D:List D1) (fv:EN),(Es fv).toList=L++(D++R)->ck lt D->(D++R).Perm xs->D.length=(j++F).length->0<D.length->Kp st' fv->wpS (E9 prog w) A E s (BO ()) Q fv:=by
     intro D fv e3 BY BZ BP BU NP;dsimp -zeta -zetaHave -zetaUnused only[BO];clear BO;have Cp:0<D.length:=∅
     refine y2 (gH (L:=L) (B:=D) (R:=R) e3 rfl (by rw[BP]) λCc e4 Cd=>?_)
     have o4:Ord lt D.reverse:=Km.mpr BY;have BQ:(D.reverse++R).Perm xs:=(EW _ (Hw D)).trans BZ;have Ce:(D.reverse++R).length=xs.length:=BQ.length_eq;have C0:Ord lt ((D.reverse++R).take D.length):=by rw[List.take_append_of_le_length (by simp),Gm (by simp)];exact o4
     have C1:∀u∈D.reverse++R,P u:=λu hu=>hP u (BQ.mem_iff.mp hu);have Cq:D.length<=xs.length:=by rw[<-Ce];simp
     rw[<-BP];generalize D.length=N0 at C0 Cp Cq;generalize D.reverse++R=ys at e4 BQ Ce C0 C1;refine y2 (ai (Q:=λr BG=>BG=Cc/\∃n,r=(Y,n)/\1<=n/\n<=xs.length/\Ord lt (ys.take n))
      (EJ (λi r BG=>BG=Cc/\r=(Y,i)/\Ord lt (ys.take i)) ?_ ?_ ⟨rfl,rfl,C0⟩) ?_)
     ·rintro i r BG h1 hi ⟨rfl,rfl,ho⟩;dsimp only;obtain⟨u,hu⟩:∃u,ys[i]?=Z u:=⟨_,z4 ∅⟩
      obtain⟨v,J⟩:∃v,ys[i-1]?=Z v:=⟨_,z4 ∅⟩
      refine y2 (cH c ((NP.trans Cd).kind.trans hk) ((bB e4 rfl).trans hu) ((bB e4 ∅).trans J) (C1 _ (Eh hu)) (C1 _ (Eh J)) ?_)
      dsimp only;refine ad (λh=>?_) (λh=>?_)
      ·exact aa ⟨rfl,i,rfl,∅,∅,ho⟩
      ·exact aa ⟨rfl,rfl,kA c ho ∅ hu J (by simpa using h)⟩
     ·rintro r BG ⟨rfl,rfl,ho⟩;exact⟨rfl,_,rfl,∅,∅,ho⟩
     ·rintro r BG ⟨rfl,m,rfl,Cw,Cy,ho⟩;refine aa ?_;have:=q (ys.take m) (ys.drop m) BG (by rw[e4,F7]) (perm_take.trans BQ) (fun z=>by
       have h3:=congrArg Gr z;rw[Et,Ga]at h3;lia) ho (NP.trans Cd)
      rw[Et,I9 ∅]at this
      exact this
    clear_value BO
    refine ad (λBN=>?_) (λBN=>?_)
    ·refine y2 (gH (L:=L++j) (B:=F) (R:=R) (by rw[ea];simp) (by simp<;>lia) (by simp<;>lia) λfv e3 NP=>?_)
     have NP:=kp.trans NP;have e3:(Es fv).toList=L++((j++F.reverse)++R):=by rw[e3];simp
     have BY:=mz hN hE;have BZ:((j++F.reverse)++R).Perm xs:=(EW _ (EK _ (Hw _))).trans hp;have BP:(j++F.reverse).length=(j++F).length:=by simp
     have BU:0<(j++F.reverse).length:=by simp<;>lia
     exact BS _ _ e3 BY BZ BP BU NP
    ·exact BS _ _ ea hN hp rfl (by simp<;>lia) kp
  clear_value jp
  refine ad (λh1=>?_) (λh1=>?_)
  ·obtain⟨x0,C2⟩:∃x0,xs[0]?=Z x0:=⟨_,z4 C4⟩;refine y2 (cH c hk ((bB O (n:=0) ∅).trans C2) ((bB O ∅).trans hy) (hP _ (Eh C2)) (hP _ (Eh hy)) ?_)
   dsimp only;refine ad (λhr=>aa BR) (λhr=>?_);have hr:lt x0 y=NR:=by simpa using hr
   have Cf:∀u∈xs.take n,lt u x0=NR:=λu hu=>by
    obtain⟨i,hi,eu⟩:=FE.mp hu;have C3:(xs.take n)[i]?=Z u:=by rw[<-eu];exact z4 hi
    have BV:(xs.take n)[0]?=Z x0:=by rw[GJ ∅];exact C2
    by_cases hi0:i=0
    ·subst hi0;rw[BV]at C3;cases C3;exact c.irr
    ·exact dg ho ∅ BV C3
   have Cr:∀u∈xs.take n,lt y u=NR:=fe c ho ∅ hy c.irr
   have heq:∀u∈xs.take n,∀v∈xs.take n,lt u v=NR:=λu hu v J=>by exact c.le_trans (c.le_trans (Cr v J) hr) (Cf u hu)
   refine y2 (gH (L:=L) (B:=xs.take n) (R:=x::xs.drop (n+1)) (by rw[O];exact congrArg (L ++ ·) exs) rfl (by rw[Et,I9 C5]) λBH e1 BL=>?_)
   have hB:(xs.take n).reverse.Perm (xs.take n):=Hw _;have BI:(xs.take n).reverse.length=n:=by rw[HM,Et];lia
   have BJ:∀u∈(xs.take n).reverse,∀v∈(xs.take n).reverse,lt u v=NR:=λu hu v J=>heq u (HF.mp hu) v (HF.mp J);have BK:y∈(xs.take n).reverse:=HF.mpr C6;exact C7 _ _ e1 hB BI BJ BK BL
  ·have BH:=st';have hn:n=1:=by lia
   have BL:Kp st' st':=Kp.refl;have e1:(Es st').toList=L++(xs.take n++x::xs.drop (n+1)):=by rw[O];exact congrArg (L ++ ·) exs
   have hB:(xs.take n).Perm (xs.take n):=HC _;have BI:(xs.take n).length=n:=by rw[Et];lia
   have BK:=C6;have BJ:∀u∈xs.take n,∀v∈xs.take n,lt u v=NR:=λu hu v J=>by
    have e0:xs.take n=[y]:=by subst hn;rw[cc ∅ hy];rfl
    rw[e0]at hu J;simp at hu J;subst hu J;exact c.irr
   exact C7 _ _ e1 hB BI BJ BK BL
end
end Srt
namespace Srt
variable{R:List D1}{st:EN}
section
variable{prog:Eg}{w:Ez}{A:ED}{E:gV->q7->Prop}{s:q7}{kd:HY}{P:D1->Prop}{lt:D1->D1->Bool}
theorem iZ(c:Cm prog w A s kd P lt){L r:List D1}{n:Nat}{Q:Bool->EN->Prop}(hk:Fj st=kd)(fv:(Es st).toList=L++(r++R))(h0:r≠[])(ho:Ord lt r)(hn:r.length<=n)(BG:n<=(r++R).length)(hP:∀x∈r++R,P x)(q:∀r' R' st',(Es st').toList=L++(r'++R')->(r'++R').Perm (r++R)->r'.length=n->Ord lt r'->Kp st st'->Q NQ st'):wpS (E9 prog w) A E s (binarySort' L.length n r.length) Q st:=by
 have BM:0<r.length:=EI.mpr h0;rw[binarySort'_eq];refine y2 (ai (Q:=λx st'=>x=(Y,())/\∃D T,Kp st st'/\(Es st').toList=L++(D++T)/\(D++T).Perm (r++R)/\D.length=n/\Ord lt D)
  (EJ (λi x st'=>x=(Y,())/\∃D T,Kp st st'/\(Es st').toList=L++(D++T)/\(D++T).Perm (r++R)/\D.length=i/\Ord lt D) ?_ ?_ ⟨rfl,r,R,Kp.refl,fv,HC _,∅,ho⟩) ?_)
 ·rintro k x B BN BO ⟨rfl,D,T,kp,ea,J,hD,O⟩;dsimp only;subst hD;have hlen:=J.length_eq;rw[DZ]at hlen;obtain⟨z,T',rfl⟩:∃z T',T=z::T':=by
   cases T with
   |nil=>simp at hlen BG;lia
   |cons z T'=>exact⟨z,T',rfl⟩
  have BH:∀u∈D,P u:=λu hu=>hP u (J.mem_iff.mp (EV _ hu));have BI:P z:=hP z (J.mem_iff.mp (by simp))
  have hz:(Es B)[L.length+D.length]?=Z z:=by rw[bB ea rfl,y1 ∅,Jc];rfl
  refine y2 (ai (Q:=λx st'=>st'=B/\∃k,x=(Y,k,k)/\Gal lt NR z D k k)
   (EJ (fun i x st'=>st'=B/\∃lo hi,x=(Y,lo,hi)/\Gal lt NR z D lo hi/\hi-lo+i<=D.length) ?_ ?_ ⟨rfl,0,D.length,rfl,⟨∅,∅,fun _ _ h=>∅,fun i x hi hx=>by have:=(DT.mp hx).1;lia⟩,∅⟩) ?_)
  ·rintro i x U _ hi ⟨rfl,lo,j,rfl,F,hm⟩;dsimp only;have hl:=F.le;have BJ:=F.len;refine ad (λBK=>?_) (λBK=>?_)
   ·exact aa ⟨rfl,j,by rw[show lo=j by lia],by rw[show lo=j by lia]at F;exact F⟩
   ·obtain⟨u,hu⟩:∃u,D[(lo+j) / 2]?=Z u:=⟨_,z4 ∅⟩
    have BL:(Es U)[L.length+(lo+j) / 2]?=Z u:=by rw[bB ea rfl,E7 ∅];exact hu
    refine y2 (cH c (kp.kind.trans hk) hz BL BI (BH _ (Eh hu)) ?_);dsimp only;refine ad (λhf=>?_) (λhf=>?_)
    ·exact aa ⟨rfl,_,_,rfl,⟨∅,∅,F.up,fb c O hu (by simp[bey,hf])⟩,∅⟩
    ·exact aa ⟨rfl,_,_,rfl,⟨∅,BJ,eZ c O hu (by simpa[bey]using hf),F.dn⟩,∅⟩
  ·rintro x U ⟨rfl,lo,j,rfl,F,hm⟩;have hl:=F.le;exact⟨rfl,j,by rw[show lo=j by lia],by rw[show lo=j by lia]at F;exact F⟩
  ·rintro x U ⟨rfl,l,rfl,F⟩;dsimp only;obtain⟨X,NP,e,hl,hX,hY⟩:=F.out;subst hl e;rw[moveDown'_eq];refine y2 (FJ ?_);refine aa ⟨rfl,X++z::NP,T',kp.trans ⟨rfl,rfl,rfl⟩,lD ea (by simp) (by simp;lia),?_,by simp;lia,?_⟩
   ·refine G7.trans ?_ J;rw[Ea,Ea];refine EK _ ?_;rw[Me];exact JQ.symm
   ·obtain⟨o1,o2,o3⟩:=z3.mp O;refine z3.mpr ⟨o1,Hb.mpr ⟨λu hu=>c.asym _ _ (by have:=hY u hu;simpa[bey]using this),o2⟩,λu hu v hv=>?_⟩
    rcases DX.mp hv with g|g
    ·subst g;have:=hX u hu;simpa[bey]using this
    ·exact o3 u hu v g
 ·rintro x B ⟨rfl,D,T,kp,ea,J,hD,O⟩;exact⟨rfl,D,T,kp,ea,J,∅,O⟩
 ·rintro x B ⟨rfl,D,T,kp,ea,J,hD,O⟩;exact aa (q D T B ea J hD O kp)
noncomputable def Pd:Nat->List (List D1)->List (Nat×Nat×Nat)->Prop
 |_,[],ps=>ps=[]
 |s,r::rs,ps=>∃p t,ps=(s,r.length,p)::t/\Pd (s+r.length) rs t
theorem Pd.split:∀{l t:List (List D1)} {s:Nat} {ps:List (Nat×Nat×Nat)},Pd s (l++t) ps->∃pl pt,ps=pl++pt/\pl.length=l.length/\Pd s l pl/\Pd (s+l.flatten.length) t pt
 |[],t,s,ps,h=>⟨[],ps,rfl,rfl,rfl,by simpa using h⟩
 |r::l,t,s,ps,h=>by
  obtain⟨p,q,e,h⟩:=h;obtain⟨pl,pt,j,z,h1,h2⟩:=Pd.split h;refine⟨(s,r.length,p)::pl,pt,by rw[e,j];rfl,by simp[z],⟨p,pl,rfl,h1⟩,?_⟩
  rw[EY,DZ,<-L6];exact h2
theorem Pd.join:∀{l t:List (List D1)} {s:Nat} {pl pt:List (Nat×Nat×Nat)},Pd s l pl->Pd (s+l.flatten.length) t pt->Pd s (l++t) (pl++pt)
 |[],t,s,pl,pt,h,g=>by have:pl=[]:=h;subst this;simpa using g
 |r::l,t,s,pl,pt,h,g=>by obtain⟨p,q,e,h⟩:=h;subst e;refine⟨p,q++pt,rfl,Pd.join h ?_⟩;rw[EY,DZ,<-L6]at g;exact g
theorem Pd.length:∀{l:List (List D1)} {s:Nat} {ps:List (Nat×Nat×Nat)},Pd s l ps->ps.length=l.length
 |[],_,_,h=>by rw[show _=[]from h];rfl
 |r::l,s,ps,h=>by obtain⟨p,q,e,h⟩:=h;rw[e];simp[h.length]
structure Rn(lt:D1->D1->Bool)(kd:HY)(a₀:List D1)(st:EN)(rs:List (List D1))(R:List D1):Prop where
 arr:(Es st).toList=rs.flatten++R
 perm:(rs.flatten++R).Perm a₀
 ord:∀r∈rs,r≠[]/\Ord lt r
 pend:Pd 0 rs (E1 st).toList
 kind:Fj st=kd
 fail:FI st=Y
theorem Rn.merge(c:Cm prog w A s kd P lt){a₀:List D1}(hP:∀x∈a₀,P x){l t:List (List D1)}{j F:List D1}(h:Rn lt kd a₀ st (l++j::F::t) R){i:Nat}(hi:i=l.length){Q:Bool->EN->Prop}(q:∀m st',Rn lt kd a₀ st' (l++m::t) R->m.length=j.length+F.length->Q NQ st'):wpS (E9 prog w) A E s (N4 i) Q st:=by
 obtain⟨g,lo,BM,⟨U,NP,fv⟩,BG⟩:=z8 (E:=E) c;obtain⟨pl,pt,ep,L,BH,BI⟩:=h.pend.split;obtain⟨O,t1,e1,BJ⟩:=BI;obtain⟨p2,t2,e2,BK⟩:=BJ;subst e1 e2;have o1:=h.ord j (by simp)
 have o2:=h.ord F (by simp)
 have J:∀x,x∈j∨x∈F->P x:=λx hx=>hP x (h.perm.mem_iff.mp (by simp only[Gg,EY,Ef];rcases hx with z|z<;>simp[z]))
 have ip:∀(k:Nat) (v:Nat×Nat×Nat),(E1 st).toList[k]?=Z v->(E1 st)[k]?=Z v:=λk v e=>by rw[<-DS];exact e
 refine BG U (NP U) (fv U) i (0+l.flatten.length) j.length O (0+l.flatten.length+j.length) F.length p2 l.flatten j F (t.flatten++R) st Q h.kind h.fail (ip _ _ ?_) (ip _ _ ?_) (by rw[h.arr];simp) (Hc _) rfl ∅ rfl o1.1 o2.1 (λx hx=>J x (.inl hx)) (λx hx=>J x (.inr hx)) o1.2 o2.2 ?_
 ·rw[ep,hi,<-L,y1 ∅,Jc];rfl
 ·rw[ep,hi,<-L,y1 ∅,show pl.length+1-pl.length=1 by lia];rfl
 ·intro m st' ea hm om hk hf BL;have B:m.length=j.length+F.length:=by rw[hm.length_eq];simp
  refine q m st' ⟨by rw[ea];simp,?_,?_,?_,hk,hf⟩ B
  ·refine G7.trans ?_ h.perm;simp only[Gg,EY,Ea];refine EK _ ?_;rw[<-Ea j];exact EW _ hm
  ·intro r hr
   rcases Ef.mp hr with z|z
   ·exact h.ord r (EV _ z)
   ·rcases DX.mp z with z|z
    ·subst z;exact⟨λz=>by rw[z]at B;have:=EI.mpr o1.1;simp at B;lia,om⟩
    ·exact h.ord r (by simp[z])
  ·rw[BL];have e3:(((E1 st).setIfInBounds i (0+l.flatten.length,j.length+F.length,O)).eraseIdxIfInBounds (i+1)).toList=pl++(0+l.flatten.length,j.length+F.length,O)::t2:=by
    rw[Array.toList_eraseIdxIfInBounds,Jp,ep,hi,<-L];rw[List.set_append_right _ _ ∅,Jc,List.eraseIdx_append_of_length_le ∅,show pl.length+1-pl.length=1 by lia];rfl
   rw[e3];refine BH.join ⟨O,t2,by rw[B],?_⟩
   rw[B,<-L6];exact BK
theorem kB{α:Type}{l:List α}(h:1<l.length):∃t a b,l=t++[a,b]:=by
 obtain⟨t1,b,j⟩:∃t b,l=t++[b]:=⟨l.dropLast,l.getLast (λz=>by rw[z]at h;simp at h),(Fv _).symm⟩
 obtain⟨B,a,F⟩:∃t b,t1=t++[b]:=⟨t1.dropLast,t1.getLast (λz=>by rw[j,z]at h;simp at h),(Fv _).symm⟩
 exact⟨B,a,b,by rw[j,F];simp⟩
theorem xH{α:Type}{l:List α}{i:Nat}(h:i+1<l.length):∃t a b u,l=t++a::b::u/\t.length=i:=by
 refine⟨l.take i,l[i],l[i+1],l.drop (i+2),?_,by rw[Et];lia⟩
 rw[<-F1 ∅,<-F1 ∅,F7]
theorem Rn.size{a₀:List D1}{rs:List (List D1)}(h:Rn lt kd a₀ st rs R):rs.flatten.length+R.length=a₀.length:=by have:=h.perm.length_eq;rw[DZ]at this;exact this
theorem mC:∀{rs:List (List D1)},(∀r∈rs,r≠[])->rs.length<=rs.flatten.length
 |[],_=>by simp
 |r::rs,h=>by
  have h1:=EI.mpr (h r (by simp))
  have h2:=mC (rs:=rs) λr j=>h r (by simp[j])
  rw[EY,DZ,II];lia
theorem qf{l:List (List D1)}{s pw:Nat}{ps:Array (Nat×Nat×Nat)}(h:Pd s l ps.toList):Pd s l (ps.modify (ps.size-1) λx=>(x.1,x.2.1,pw)).toList:=by
 rw[Array.toList_modify];have g:∀(l:List (List D1)) (s k:Nat) (ps:List (Nat×Nat×Nat)),Pd s l ps->Pd s l (ps.modify k λx=>(x.1,x.2.1,pw)):=by
  intro l
  induction l with
  |nil=>intro s k ps h;have:ps=[]:=h;subst this;cases k<;>rfl
  |cons r l ih=>
   intro s k ps h;obtain⟨p,t,e,h⟩:=h;subst e
   cases k with
   |zero=>exact⟨pw,t,rfl,h⟩
   |succ k=>exact⟨p,_,rfl,ih _ k t h⟩
 exact g _ _ _ _ h
theorem lF(c:Cm prog w A s kd P lt){Q:Unit->EN->Prop}(hk:Fj st=kd)(hf:FI st=Y)(hp:E1 st=#[])(hP:∀x∈(Es st).toList,P x)(q:∀st',(Es st').toList.Perm (Es st).toList->Ord lt (Es st').toList->FI st'=Y->Q () st'):wpS (E9 prog w) A E s sortRuns' Q st:=by
 rw[sortRuns'_eq];refine y2 (GQ ?_)
 try dsimp only
 have hsz:(Es st).size=(Es st).toList.length:=by simp
 generalize hA:(Es st).toList=a₀ at hP q hsz;generalize hS:(Es st).size=size at hsz;generalize minRun' size size 0=minrun;refine y2 (ai (Q:=λr st'=>∃rs lo,r=(Y,lo)/\Rn lt kd a₀ st' rs [])
  (EJ (λi r st'=>∃rs R,r=(Y,rs.flatten.length)/\Rn lt kd a₀ st' rs R/\i<=rs.flatten.length) ?_ ?_ ⟨[],a₀,rfl,⟨by simpa using hA,by simp,by simp,by rw[hp];rfl,hk,hf⟩,by simp⟩) ?_)
 ·rintro i r BN _ hi ⟨rs,R,rfl,hR,BK⟩
  try dsimp only
  have BZ:=hR.size;refine ad (λBW=>?_) (λBW=>?_)
  ·have:R=[]:=Eo.mp ∅
   subst this;exact aa ⟨rs,_,rfl,hR⟩
  ·have BO:size-rs.flatten.length=R.length:=by lia
   have BX:R≠[]:=λz=>by rw[z,Ga]at BO;lia
   have BP:∀x∈R,P x:=λx hx=>hP x (hR.perm.mem_iff.mp (Ed _ hx));rw[BO];refine y2 (fG c hR.kind hR.arr BX BP λr R1 L ea BG U ho kp=>?_)
   try dsimp only
   have F:Rn lt kd a₀ L rs (r++R1):=⟨ea,(EK _ BG).trans hR.perm,hR.ord,by rw[kp.pend];exact hR.pend,kp.kind.trans hR.kind,kp.fail.trans hR.fail⟩
   have BQ:r.length+R1.length=R.length:=by rw[<-BG.length_eq];simp
   refine ad (λBL=>?_) (λBL=>?_)
   ·refine y2 (bJ ?_);refine y2 (iZ c F.kind F.arr U ho (n:=min R.length minrun) ∅ (by simp;lia) (λx hx=>BP x (BG.mem_iff.mp hx)) λr2 R2 B BR BJ J BY BI=>?_)
    try dsimp only
    refine ad (λh=>absurd h (by simp)) (λ_=>?_)
    have BS:r2≠[]:=λz=>by rw[z]at J;simp at J;have:=EI.mpr U;lia
    have F:Rn lt kd a₀ B rs (r2++R2):=⟨BR,(EK _ BJ).trans F.perm,F.ord,by rw[BI.pend];exact F.pend,BI.kind.trans F.kind,BI.fail.trans F.fail⟩
    rw[<-J];clear J BJ BR BI ea BG kp BQ BL;generalize B=L at F;clear ho U;have ho:=BY;have U:=BS;generalize r2=r at F ho U;generalize R2=R1 at F;refine y2 (GQ ?_)
    try dsimp only
    have BU:(E1 L).size=rs.length:=by rw[<-Ei];exact F.pend.length
    cases hb:(E1 L).back? with
    |none=>
     try dsimp only
     have HL:rs.flatten.length=rs.flatten.length:=rfl;refine y2 (FJ ?_);have BM:=EI.mpr U;have NP:(rs++[r]).flatten.length=rs.flatten.length+r.length:=by rw[Gg,DZ,HL];simp
     refine aa ⟨rs++[r],R1,by rw[NP],⟨by rw[show _=_ from F.arr];simp,?_,?_,?_,F.kind,F.fail⟩,by rw[NP];lia⟩
     ·refine G7.trans (Hk (by simp)) F.perm
     ·intro u hu
      rcases Ef.mp hu with z|z
      ·exact F.ord u z
      ·simp at z;subst z;exact⟨U,ho⟩
     ·have h8:(E1 (HD L ((E1 L).push (rs.flatten.length,r.length,0)))).toList=(E1 L).toList++[(rs.flatten.length,r.length,0)]:=by
       show((E1 L).push _).toList=_;rw[E4]
      rw[show _=_ from h8];exact F.pend.join ⟨0,[],by rw[HL,Hc],rfl⟩
    |some v=>
     obtain⟨s1,n1,p1⟩:=v
     try dsimp only
     refine y2 (ai (Q:=λx st'=>x=(Y,())/\∃rs',Rn lt kd a₀ st' rs' (r++R1)/\rs'.flatten.length=rs.flatten.length)
      (EJ (λi x st'=>x=(Y,())/\∃rs',Rn lt kd a₀ st' rs' (r++R1)/\rs'.flatten.length=rs.flatten.length) ?_ ?_ ⟨rfl,rs,F,rfl⟩) ?_)
     ·rintro j x B _ hj ⟨rfl,rs',O,J⟩;refine y2 (GQ ?_)
      try dsimp only
      have BH:(E1 B).size=rs'.length:=by rw[<-Ei];exact O.pend.length
      by_cases h1:(E1 B).size > 1
      ·rw[if_pos h1];have h2:(E1 B)[(E1 B).size-2]?=Z ((E1 B)[(E1 B).size-2]'∅):=DV ∅
       rw[h2]
       try dsimp only
       refine ad (λh=>?_) (λh=>?_)
       ·exact aa ⟨rfl,rs',O,J⟩
       ·obtain⟨t,a,b,e⟩:=kB (l:=rs') ∅
        subst e;refine y2 (O.merge c hP (by rw[BH];simp) λm fv h4 hm=>?_)
        refine ad (λh=>absurd h (by simp)) (λ_=>aa ⟨rfl,_,h4,?_⟩)
        rw[<-J];simp[hm]
      ·rw[if_neg h1];exact aa ⟨rfl,rs',O,J⟩
     ·rintro x B ⟨rfl,rs',O,J⟩;exact⟨rfl,rs',O,J⟩
     ·rintro x B ⟨rfl,rs',O,J⟩
      try dsimp only
      refine y2 (FJ ?_);have h4:Rn lt kd a₀ (HD B ((E1 B).modify ((E1 B).size-1) λx=>(x.1,x.2.1,power' size (2*s1+n1) (2*s1+n1+n1+r.length) size))) rs' (r++R1):=⟨O.arr,O.perm,O.ord,qf O.pend,O.kind,O.fail⟩;generalize BV:HD B ((E1 B).modify ((E1 B).size-1) λx=>(x.1,x.2.1,power' size (2*s1+n1) (2*s1+n1+n1+r.length) size))=fv at h4;have HL:=J;refine y2 (FJ ?_);have BM:=EI.mpr U;have NP:(rs'++[r]).flatten.length=rs.flatten.length+r.length:=by rw[Gg,DZ,HL];simp
      refine aa ⟨rs'++[r],R1,by rw[NP],⟨by rw[show _=_ from h4.arr];simp,?_,?_,?_,h4.kind,h4.fail⟩,by rw[NP];lia⟩
      ·refine G7.trans (Hk (by simp)) h4.perm
      ·intro u hu
       rcases Ef.mp hu with z|z
       ·exact h4.ord u z
       ·simp at z;subst z;exact⟨U,ho⟩
      ·have h8:(E1 (HD fv ((E1 fv).push (rs.flatten.length,r.length,0)))).toList=(E1 fv).toList++[(rs.flatten.length,r.length,0)]:=by
        show((E1 fv).push _).toList=_;rw[E4]
       rw[show _=_ from h8];exact h4.pend.join ⟨0,[],by rw[HL,Hc],rfl⟩
   ·clear ea BG kp BQ BL;refine y2 (GQ ?_)
    try dsimp only
    have BU:(E1 L).size=rs.length:=by rw[<-Ei];exact F.pend.length
    cases hb:(E1 L).back? with
    |none=>
     try dsimp only
     have HL:rs.flatten.length=rs.flatten.length:=rfl;refine y2 (FJ ?_);have BM:=EI.mpr U;have NP:(rs++[r]).flatten.length=rs.flatten.length+r.length:=by rw[Gg,DZ,HL];simp
     refine aa ⟨rs++[r],R1,by rw[NP],⟨by rw[show _=_ from F.arr];simp,?_,?_,?_,F.kind,F.fail⟩,by rw[NP];lia⟩
     ·refine G7.trans (Hk (by simp)) F.perm
     ·intro u hu
      rcases Ef.mp hu with z|z
      ·exact F.ord u z
      ·simp at z;subst z;exact⟨U,ho⟩
     ·have h8:(E1 (HD L ((E1 L).push (rs.flatten.length,r.length,0)))).toList=(E1 L).toList++[(rs.flatten.length,r.length,0)]:=by
       show((E1 L).push _).toList=_;rw[E4]
      rw[show _=_ from h8];exact F.pend.join ⟨0,[],by rw[HL,Hc],rfl⟩
    |some v=>
     obtain⟨s1,n1,p1⟩:=v
     try dsimp only
     refine y2 (ai (Q:=λx st'=>x=(Y,())/\∃rs',Rn lt kd a₀ st' rs' (r++R1)/\rs'.flatten.length=rs.flatten.length)
      (EJ (λi x st'=>x=(Y,())/\∃rs',Rn lt kd a₀ st' rs' (r++R1)/\rs'.flatten.length=rs.flatten.length) ?_ ?_ ⟨rfl,rs,F,rfl⟩) ?_)
     ·rintro j x B _ hj ⟨rfl,rs',O,J⟩;refine y2 (GQ ?_)
      try dsimp only
      have BH:(E1 B).size=rs'.length:=by rw[<-Ei];exact O.pend.length
      by_cases h1:(E1 B).size > 1
      ·rw[if_pos h1];have h2:(E1 B)[(E1 B).size-2]?=Z ((E1 B)[(E1 B).size-2]'∅):=DV ∅
       rw[h2]
       try dsimp only
       refine ad (λh=>?_) (λh=>?_)
       ·exact aa ⟨rfl,rs',O,J⟩
       ·obtain⟨t,a,b,e⟩:=kB (l:=rs') ∅
        subst e;refine y2 (O.merge c hP (by rw[BH];simp) λm fv h4 hm=>?_)
        refine ad (λh=>absurd h (by simp)) (λ_=>aa ⟨rfl,_,h4,?_⟩)
        rw[<-J];simp[hm]
      ·rw[if_neg h1];exact aa ⟨rfl,rs',O,J⟩
     ·rintro x B ⟨rfl,rs',O,J⟩;exact⟨rfl,rs',O,J⟩
     ·rintro x B ⟨rfl,rs',O,J⟩
      try dsimp only
      refine y2 (FJ ?_);have h4:Rn lt kd a₀ (HD B ((E1 B).modify ((E1 B).size-1) λx=>(x.1,x.2.1,power' size (2*s1+n1) (2*s1+n1+n1+r.length) size))) rs' (r++R1):=⟨O.arr,O.perm,O.ord,qf O.pend,O.kind,O.fail⟩;generalize BV:HD B ((E1 B).modify ((E1 B).size-1) λx=>(x.1,x.2.1,power' size (2*s1+n1) (2*s1+n1+n1+r.length) size))=fv at h4;have HL:=J;refine y2 (FJ ?_);have BM:=EI.mpr U;have NP:(rs'++[r]).flatten.length=rs.flatten.length+r.length:=by rw[Gg,DZ,HL];simp
      refine aa ⟨rs'++[r],R1,by rw[NP],⟨by rw[show _=_ from h4.arr];simp,?_,?_,?_,h4.kind,h4.fail⟩,by rw[NP];lia⟩
      ·refine G7.trans (Hk (by simp)) h4.perm
      ·intro u hu
       rcases Ef.mp hu with z|z
       ·exact h4.ord u z
       ·simp at z;subst z;exact⟨U,ho⟩
      ·have h8:(E1 (HD fv ((E1 fv).push (rs.flatten.length,r.length,0)))).toList=(E1 fv).toList++[(rs.flatten.length,r.length,0)]:=by
        show((E1 fv).push _).toList=_;rw[E4]
       rw[show _=_ from h8];exact h4.pend.join ⟨0,[],by rw[HL,Hc],rfl⟩
 ·rintro r BN ⟨rs,R,rfl,hR,BK⟩;have:=hR.size;have:R=[]:=Eo.mp ∅
  subst this;exact⟨rs,_,rfl,hR⟩
 ·rintro r BN ⟨rs,lo,rfl,hR⟩
  try dsimp only
  refine y2 (ai (Q:=λr st'=>r=(Y,())/\∃rs,Rn lt kd a₀ st' rs []/\rs.length<=1)
   (EJ (λi r st'=>r=(Y,())/\∃rs,Rn lt kd a₀ st' rs []/\rs.length+i<=size) ?_ ?_ ⟨rfl,rs,hR,?_⟩) ?_)
  ·rintro i r L _ hi ⟨rfl,rs,hR,BK⟩;refine y2 (GQ ?_)
   try dsimp only
   have BU:(E1 L).size=rs.length:=by rw[<-Ei];exact hR.pend.length
   refine ad (λh=>?_) (λh=>?_)
   ·exact aa ⟨rfl,rs,hR,∅⟩
   ·have go:∀k,k+1<rs.length->wpS (E9 prog w) A E s (N4 k) (fun b st'=>b=NQ/\∃rs',Rn lt kd a₀ st' rs' []/\rs'.length+1=rs.length) L:=by
     intro k hk;obtain⟨t,a,b,u,e,ht⟩:=xH hk;subst e;refine hR.merge c hP ht.symm λm B O _=>⟨rfl,_,O,by simp;lia⟩
    refine y2 (ai (go _ ?_) ?_)
    ·(repeat' split)<;>lia
    ·rintro b B ⟨rfl,rs',O,J⟩;refine ad (λh=>absurd h (by simp)) (λ_=>aa ⟨rfl,rs',O,∅⟩)
  ·rintro r L ⟨rfl,rs,hR,BK⟩;exact⟨rfl,rs,hR,∅⟩
  ·have h1:=mC λr hr=>(hR.ord r hr).1;have h2:=hR.size;simp only[Ga]at h2;lia
  ·rintro r L ⟨rfl,rs,hR,hl⟩;refine aa (q L (by rw[hR.arr];exact hR.perm) ?_ hR.fail)
   rw[hR.arr,F5]
   match rs,hl,hR with
   |[],_,_=>exact Io
   |[r],_,hR=>simpa using(hR.ord r (by simp)).2
end
end Srt
namespace Srt
def dh(cap:Nat):Prop:=∀(prog:Eg) (w:Ez) (A:ED) (E:gV->q7->Prop) (s:q7) (kd:HY) (P:D1->Prop) (lt:D1->D1->Bool),Cm prog w A s kd P lt->∀(st:EN) (Q:Unit->EN->Prop),Fj st=kd->FI st=Y->E1 st=#[]->(∀x∈(Es st).toList,P x)->2<=(Es st).size->(Es st).size<=cap->
 (∀st',(Es st').toList.Perm (Es st).toList->Ord lt (Es st').toList->FI st'=Y->Q () st')->wpS (E9 prog w) A E s sortRuns' Q st
theorem o9{cap:Nat}:dh cap:=λ_ _ _ _ _ _ _ _ c _ _ j hf z B _ _ q=>lF c j hf z B q
theorem lH:dh 63:=by
 intro prog w A E s kd P lt c st Q hk hf fv hP h2 BG q;rw[sortRuns'_eq];refine y2 (GQ ?_);dsimp only;have O:minRun' (Es st).size (Es st).size 0=(Es st).size:=by
  obtain⟨f,hf⟩:∃f,(Es st).size=f+1:=⟨(Es st).size-1,∅⟩
  have:minRun' (f+1) (Es st).size 0=(Es st).size:=by rw[minRun'_succ,if_pos ∅];rfl
  rwa[<-hf]at this
 rw[O];have hsz:(Es st).size=(Es st).toList.length:=by simp
 generalize hA:(Es st).toList=a₀ at hP q hsz;generalize hS:(Es st).size=size at hsz h2 BG O;have h0:a₀≠[]:=λz=>by rw[z]at hsz;simp at hsz;lia
 refine y2 (ai (Q:=λr st'=>r=(Y,size)/\(Es st').toList.Perm a₀/\Ord lt (Es st').toList/\FI st'=Y/\E1 st'=#[(0,size,0)])
  (EJ (λi r st'=>(i=0/\r=(Y,0)/\st'=st)∨(1<=i/\r=(Y,size)/\(Es st').toList.Perm a₀/\Ord lt (Es st').toList/\FI st'=Y/\E1 st'=#[(0,size,0)])) ?_ ?_ (.inl ⟨rfl,rfl,rfl⟩)) ?_)
 ·rintro i r B _ hi (⟨rfl,rfl,rfl⟩|⟨_,rfl,hD⟩)
  ·dsimp only;rw[if_neg ∅]
   rw[show size-0=a₀.length by lia,show min a₀.length size=size by lia]
   refine y2 (fG (L:=[]) c hk hA h0 hP λr R U ea F BH ho kp=>?_);dsimp only;have hl:=F.length_eq;rw[DZ]at hl;have fin:∀(r':List D1) (j:EN),(Es j).toList=r'->r'.Perm a₀->Ord lt r'->Kp B j->wpS (E9 prog w) A E s (modify λz=>HD z ((E1 z).push (0,size,0))) (λ_ st'=>(Es st').toList.Perm a₀/\Ord lt (Es st').toList/\FI st'=Y/\E1 st'=#[(0,size,0)]) j:=λr' j e3 p3 o3 k3=>by refine FJ ?_;exact⟨by show(Es j).toList.Perm a₀;rw[e3];exact p3,by show Ord lt (Es j).toList;rw[e3];exact o3,k3.fail.trans hf,by show(E1 j).push _=_;rw[k3.pend,fv];rfl⟩
   by_cases hlt:r.length<size
   ·rw[if_pos hlt];refine y2 (bJ ?_);refine y2 (iZ (L:=[]) c (kp.kind.trans hk) ea BH ho (n:=size) ∅ (by simp;lia) (λx hx=>hP x (F.mem_iff.mp hx)) λr2 R2 j BI J BN BJ NP=>?_)
    rw[if_neg (by simp)]
    refine y2 (GQ ?_);have hb:(E1 j).back?=Y:=by rw[NP.pend,kp.pend,fv];rfl
    rw[hb];dsimp only;have BK:=J.length_eq;rw[DZ,DZ]at BK;have:R2=[]:=Eo.mp ∅
    subst this;rw[show 0+size=size by lia]
    refine y2 (ai (fin r2 j (by simpa using BI) (by simpa using J.trans F) BJ (kp.trans NP)) λ_ BL h4=>aa (.inr ⟨∅,rfl,h4⟩))
   ·rw[if_neg hlt];refine y2 (GQ ?_);have hb:(E1 U).back?=Y:=by rw[kp.pend,fv];rfl
    rw[hb];dsimp only;have:R=[]:=Eo.mp ∅
    subst this;have BM:r.length=size:=by simp at hl;lia
    rw[BM,show 0+size=size by lia]
    refine y2 (ai (fin r U (by simpa using ea) (by simpa using F) ho kp) λ_ BL h4=>aa (.inr ⟨∅,rfl,h4⟩))
  ·dsimp only;rw[if_pos (E2 _)];exact aa ⟨rfl,hD⟩
 ·rintro r B (⟨h,_,_⟩|⟨_,rfl,hD⟩)
  ·lia
  ·exact⟨rfl,hD⟩
 ·rintro r B ⟨rfl,p1,o1,f1,pd⟩;dsimp only;refine y2 (ai (EJ (I:=λ_ c st''=>st''=B/\c=(Y,())) (Q:=λc st''=>st''=B/\c=(Y,())) ?_ (λ_ _ hh=>hh) ⟨rfl,rfl⟩) ?_)
  ·rintro x c st'' _ _ ⟨rfl,rfl⟩;refine y2 (GQ ?_);rw[if_pos (by rw[pd];exact E2 1)]
   exact aa ⟨rfl,rfl⟩
  ·rintro c st'' ⟨rfl,rfl⟩;exact aa (q _ p1 o1 f1)
end Srt
namespace Srt
inductive Ky where
 |int (i:Int)
 |tup (l:List Ky)
mutual
noncomputable def al:Ky->Ky->Ordering
 |.int a,.int b=>if a<b then .lt else if a=b then .eq else .gt
 |.int _,.tup _=>.lt
 |.tup _,.int _=>.gt
 |.tup a,.tup b=>cmpKs a b
noncomputable def cmpKs:List Ky->List Ky->Ordering
 |[],[]=>.eq
 |[],_::_=>.lt
 |_::_,[]=>.gt
 |x::xs,y::ys=>(al x y).then (cmpKs xs ys)
end
mutual
theorem cm:∀a b,al b a=(al a b).swap
 |.int a,.int b=>by
  simp only[al]
  by_cases h1:a<b
  ·rw[if_pos h1,if_neg ∅,if_neg ∅];rfl
  ·by_cases h2:a=b
   ·rw[if_neg h1,if_pos h2,if_neg ∅,if_pos h2.symm];rfl
   ·rw[if_neg h1,if_neg h2,if_pos ∅];rfl
 |.int _,.tup _=>by simp[al]
 |.tup _,.int _=>by simp[al]
 |.tup a,.tup b=>by simp only[al];exact cmpKs_swap a b
theorem cmpKs_swap:∀a b,cmpKs b a=(cmpKs a b).swap
 |[],[]=>rfl
 |[],_::_=>rfl
 |_::_,[]=>rfl
 |x::xs,y::ys=>by
  simp only[cmpKs];rw[cm x y,cmpKs_swap xs ys]
  cases al x y<;>rfl
end
mutual
theorem ff:∀a b,al a b=.eq->a=b
 |.int a,.int b,h=>by
  simp only[al]at h
  by_cases h1:a<b
  ·rw[if_pos h1]at h;cases h
  ·by_cases h2:a=b
   ·rw[h2]
   ·rw[if_neg h1,if_neg h2]at h;cases h
 |.int _,.tup _,h=>by simp[al]at h
 |.tup _,.int _,h=>by simp[al]at h
 |.tup a,.tup b,h=>by simp only[al]at h;rw[cmpKs_eq a b h]
theorem cmpKs_eq:∀a b,cmpKs a b=.eq->a=b
 |[],[],_=>rfl
 |[],_::_,h=>by simp[cmpKs]at h
 |_::_,[],h=>by simp[cmpKs]at h
 |x::xs,y::ys,h=>by
  simp only[cmpKs]at h
  cases e:al x y with
  |lt=>rw[e]at h;cases h
  |gt=>rw[e]at h;cases h
  |eq=>rw[e]at h;rw[ff x y e,cmpKs_eq xs ys h]
end
mutual
theorem gI:∀a b c,al a b=.lt->al b c=.lt->al a c=.lt
 |.int a,.int b,.int c,h,g=>by
  simp only[al]at h g⊢;have h1:a<b:=by
   by_cases h1:a<b
   ·exact h1
   ·rw[if_neg h1]at h;split at h<;>cases h
  have h2:b<c:=by
   by_cases h1:b<c
   ·exact h1
   ·rw[if_neg h1]at g;split at g<;>cases g
  rw[if_pos ∅]
 |.int _,.tup _,.int _,_,g=>by simp[al]at g
 |.int _,.int _,.tup _,_,_=>by simp[al]
 |.int _,.tup _,.tup _,_,_=>by simp[al]
 |.tup _,.int _,_,h,_=>by simp[al]at h
 |.tup _,.tup _,.int _,_,g=>by simp[al]at g
 |.tup a,.tup b,.tup c,h,g=>by simp only[al]at h g⊢;exact cmpKs_trans a b c h g
theorem cmpKs_trans:∀a b c,cmpKs a b=.lt->cmpKs b c=.lt->cmpKs a c=.lt
 |[],[],_,h,_=>by simp[cmpKs]at h
 |[],_::_,[],_,g=>by simp[cmpKs]at g
 |[],_::_,_::_,_,_=>by simp[cmpKs]
 |_::_,[],_,h,_=>by simp[cmpKs]at h
 |_::_,_::_,[],_,g=>by simp[cmpKs]at g
 |x::xs,y::ys,z::zs,h,g=>by
  simp only[cmpKs]at h g⊢
  cases e:al x y with
  |gt=>rw[e]at h;cases h
  |eq=>
   have:=ff x y e;subst this;rw[e]at h
   cases e2:al x z with
   |gt=>rw[e2]at g;cases g
   |lt=>rfl
   |eq=>rw[e2]at g;exact cmpKs_trans xs ys zs h g
  |lt=>
   cases e2:al y z with
   |gt=>rw[e2]at g;cases g
   |lt=>rw[gI x y z e e2];rfl
   |eq=>have:=ff y z e2;subst this;rw[e];rfl
end
noncomputable def ltK(a b:Ky):Bool:=al a b==.lt
noncomputable def kC(a b:List Ky):Bool:=cmpKs a b==.lt
theorem fO(a b:Ky)(h:ltK a b=NQ):ltK b a=NR:=by unfold ltK at h⊢;rw[cm a b,(by simpa using h:al a b=.lt)];rfl
theorem dZ(a b:Ky)(h:ltK a b=NR)(g:ltK b a=NR):a=b:=by
 unfold ltK at h g;rw[cm a b]at g;apply ff
 cases e:al a b with
 |eq=>rfl
 |lt=>rw[e]at h;cases h
 |gt=>rw[e]at g;cases g
theorem vF(a b c:Ky)(h:ltK a c=NQ):ltK a b=NQ∨ltK b c=NQ:=by
 cases e:ltK a b with
 |true=>exact .inl rfl
 |false=>
  right
  cases j:ltK b a with
  |false=>rw[dZ a b e j]at h;exact h
  |true=>unfold ltK at h j⊢;rw[gI b a c (by simpa using j) (by simpa using h)];rfl
theorem qg(x y:Ky)(xs ys:List Ky):kC (x::xs) (y::ys)=if(!ltK x y && !ltK y x)=NQ then kC xs ys else ltK x y:=by
 unfold kC ltK;rw[cm x y];simp only[cmpKs]
 cases al x y<;>simp
mutual
noncomputable def toK:F3->Ky
 |.int i=>.int i
 |.tuple xs=>.tup (toKs xs)
 |_=>.int 0
noncomputable def toKs:List F3->List Ky
 |[]=>[]
 |x::xs=>toK x::toKs xs
end
inductive Cmpb:F3->F3->Prop where
 |int (a b:Int):Cmpb (.int a) (.int b)
 |nil (ys:List F3):Cmpb (.tuple []) (.tuple ys)
 |nil' (xs:List F3):Cmpb (.tuple xs) (.tuple [])
 |cons {x y:F3} {xs ys:List F3}:Cmpb x y->Cmpb (.tuple xs) (.tuple ys)->Cmpb (.tuple (x::xs)) (.tuple (y::ys))
theorem Cmpb.eqv{x y:F3}(h:Cmpb x y):F4 x y=(!ltK (toK x) (toK y) && !ltK (toK y) (toK x)):=by
 have g:∀{x y:F3},Cmpb x y->F4 x y=(al (toK x) (toK y)==.eq):=by
  intro x y h
  induction h with
  |int a b=>
   simp only[F4,toK,al]
   by_cases h1:a<b
   ·rw[if_pos h1];simp;lia
   ·by_cases h2:a=b
    ·rw[if_neg h1,if_pos h2];simp[h2]
    ·rw[if_neg h1,if_neg h2];simp;lia
  |nil ys=>cases ys<;>simp[F4,GL,toK,toKs,al,cmpKs]
  |nil' xs=>cases xs<;>simp[F4,GL,toK,toKs,al,cmpKs]
  |@cons x y xs ys h1 h2 ih1 j=>
   simp only[F4]at j⊢;simp only[GL,toK,toKs,al,cmpKs]at j⊢;rw[ih1,j]
   cases al (toK x) (toK y)<;>simp
 rw[g h];unfold ltK;rw[cm (toK x) (toK y)]
 cases al (toK x) (toK y)<;>rfl
section
variable{prog:Eg}{w:Ez}{A:ED}{E:gV->q7->Prop}{s:q7}
theorem trd{b:Bool}{Q:Bool->q7->Prop}(q:Q b s):DU (E9 prog w) A (truthOfDropped (.bool b)) Q E s:=by
 unfold truthOfDropped
 wp_walk
 exact q
theorem fg(a b:Int):ltK (.int a) (.int b)=decide (a<b):=by
 simp only[ltK,al]
 by_cases h:a<b
 ·simp[h]
 ·by_cases h2:a=b<;>simp[h,h2]
theorem qh{a b:Int}{t u:Tok}{Q:gV->q7->Prop}(q:Q (.bool (decide (a<b))) s):DU (E9 prog w) A (Mx .Lt (.int a t) (.int b u)) Q E s:=wpAny_richCompare_same (T:="int") rfl rfl F.slot_int_lt (call_int_lt ⟨by simp,q⟩)
noncomputable def bF:List F3->List F3->Option Bool
 |x::xs,y::ys=>if F4 x y=NQ then bF xs ys else Z (ltK (toK x) (toK y))
 |_,_=>Y
theorem fP:∀{xs ys:List F3},Cmpb (.tuple xs) (.tuple ys)->ltK (toK (.tuple xs)) (toK (.tuple ys))=match bF xs ys with|some b=>b|none=>decide (xs.length<ys.length)
 |[],[],_=>rfl
 |[],_::_,_=>by simp[bF,toK,toKs,ltK,al,cmpKs]
 |_::_,[],_=>by simp[bF,toK,toKs,ltK,al,cmpKs]
 |x::xs,y::ys,h=>by
  cases h with
  |cons h1 h2=>
   have ih:=fP h2;have e:∀a b:List Ky,ltK (.tup a) (.tup b)=kC a b:=λa b=>by simp[ltK,kC,al]
   simp only[toK,toKs,e]at ih⊢;rw[qg,<-h1.eqv];simp only[bF]
   split
   ·rw[ih];simp
   ·rfl
noncomputable def bT{α β:Type}(M:IC)(A:ED)(E:gV->q7->Prop)(f:α->β->Sem (ForInStep β))(Q:β->q7->Prop):List α->β->q7->Prop
 |[],c,s=>Q c s
 |x::xs,c,s=>DU M A (f x c) (λr s'=>match r with|.done c'=>Q c' s'|.yield c'=>bT M A E f Q xs c' s') E s
theorem dC{α β:Type}{M:IC}{f:α->β->Sem (ForInStep β)}{Q:β->q7->Prop}:∀{l:List α} {c:β} {s:q7},bT M A E f Q l c s->DU M A (forIn l c f) Q E s
 |[],c,s,h=>by rw[List.forIn_nil];exact r4 h
 |x::xs,c,s,h=>by
  rw[J5];refine b3 (F2 h (λr s' j=>?_) λ_ _ z=>z)
  cases r with
  |done c'=>exact r4 j
  |yield c'=>exact dC j
theorem bq{h:Heap}:∀{vs:List gV} {xs:List F3} {as:List NS},KD h vs xs as->vs.length=xs.length
 |_,_,_,.nil=>rfl
 |_,_,_,.cons _ r=>by simp[bq r]
theorem fQ{α β:Type}{M:IC}{n:Nat}{f:α->Option β×Unit->Sem (ForInStep (Option β×Unit))}{g:Bool->β}{pr:α->gV×gV}{Q:Option β×Unit->q7->Prop}:
 ∀{l:List α} {vs us:List gV} {xs ys:List F3} {as bs:List NS},l.map pr=vs.zip us->KD s.heap vs xs as->KD s.heap us ys bs->Cmpb (.tuple xs) (.tuple ys)->Fb xs=NQ->Fb ys=NQ->Gc xs<=n->
  (∀(z:α) (x y:gV) (d e:F3) (as bs:List NS) (R:ForInStep (Option β×Unit)->q7->Prop),z∈l->pr z=(x,y)->HX s.heap x d as->HX s.heap y e bs->Cmpb d e->d.canLay0=NQ->e.canLay0=NQ->d.depth<=n->
   R (if F4 d e=NQ then .yield (Y,())else .done (Z (g (ltK (toK d) (toK e))),())) s->DU M A (f z (Y,())) R E s)->
  Q ((bF xs ys).map g,()) s->bT M A E f Q l (Y,()) s
 |[],vs,us,xs,ys,as,bs,e,j,hu,B,_,_,_,_,q=>by
  have h1:=bq j;have h2:=bq hu;have:vs=[]∨us=[]:=by
   cases vs with
   |nil=>exact .inl rfl
   | cons v vs=>cases us with
     |nil=>exact .inr rfl
     |cons u us=>simp at e
  have F:bF xs ys=Y:=by
   rcases this with rfl|rfl
   ·cases xs with
    |nil=>simp[bF]
    |cons x xs=>simp at h1
   ·cases ys with
    |nil=>cases xs<;>simp[bF]
    |cons y ys=>simp at h2
  rw[F]at q;exact q
 |z::l,vs,us,xs,ys,as,bs,e,j,hu,B,lx,ly,hd,hf,q=>by
  cases j with
  |nil=>simp at e
  |cons rx j=>
   cases hu with
   |nil=>simp at e
   |cons ry hu=>
    simp only[Eu,List.zip_cons_cons,MN]at e;simp only[Fb,tv]at lx ly;simp only[Gc]at hd
    cases B with
    |cons J L=>
     simp only[bT];refine hf z _ _ _ _ _ _ _ (by simp) e.1 rx ry J lx.1 ly.1 ∅ ?_
     simp only[bF]at q
     split at q
     ·next h=>rw[if_pos h];exact fQ e.2 j hu L lx.2 ly.2 ∅ (λz x y d e as bs R O=>hf z x y d e as bs R (by simp[O])) q
     ·next h=>rw[if_neg h];exact q
def zZ(n:Nat):Prop:=∀(prog:Eg) (w:Ez) (A:ED) (s:q7) (a b:gV) (d e:F3) (as bs:List NS) (E:gV->q7->Prop) (Q:gV->q7->Prop),d.depth<=n->Cmpb d e->HX s.heap a d as->HX s.heap b e bs->d.canLay0=NQ->e.canLay0=NQ->A.units+n+1<GZ->
 Q (.bool (ltK (toK d) (toK e))) s->DU (E9 prog w) A (Mx .Lt a b) Q E s
theorem z9:∀n,zZ n:=by
 intro n
 induction n with
 |zero=>
  intro prog w A s a b d e as bs E Q hd z ra rb ld le hu q
  cases z with
  |int i j=>
   cases ra;cases rb
   exact qh (by rw[<-fg];exact q)
  |nil ys=>simp[Hd]at hd
  |nil' xs=>simp[Hd]at hd
  |cons _ _=>simp[Hd]at hd
 |succ n ih=>
  intro prog w A s a b d e as bs E Q hd z ra rb ld le hu q;have tup:∀xs ys,d=.tuple xs->e=.tuple ys->DU (E9 prog w) A (Mx .Lt a b) Q E s:=by
   rintro xs ys rfl rfl
   cases ra with
   |tuple h1 h2 h3 L=>
    cases rb with
    |tuple g1 g2 g3 O=>
     rename_i l ol vl nl p ob vb nb;have tl:s.TypeIs (.ref l) "tuple":=⟨_,h1,h2⟩;have tb:s.TypeIs (.ref p) "tuple":=⟨_,g1,g2⟩;refine wpAny_richCompare_same_room tl tb MP (EH MP tl F.entry_tuple_lt ?_ (F.args_tuple_lt_2 _ _)) ∅
     unfold Fc.«tuple.__lt__»;refine b3 ?_;have U:isSubtype (.type "tuple") (.type "tuple")=pure NQ:=by rw[Fq];kernel_rfl
     wp_walk
     rw[h3]
     wp_walk
     rw[g3];refine r4 ?_;refine r4 ?_;refine b3 (dC (fQ (n:=n) (g:=λb=>Fin.done (Flow.ret (Lc b))) (pr:=id) (My _) L O z ld le (by simp[Hd]at hd;lia) ?_ ?_))
     ·rintro⟨x,y⟩ x' y' d e as bs R _ hz rx ry z ld le hd r
      cases hz
      dsimp only;refine b3 (Mf d e _ _ _ _ _ _ rx ry ld le ?_ prog w E _ ?_)
      ·show A.units+1+min d.depth e.depth<GZ;lia
      ·by_cases B:F4 d e=NQ
       ·rw[if_pos B]at r;rw[B];exact r4 r
       ·rw[if_neg B]at r;have B:F4 d e=NR:=by simpa using B
        rw[B];refine b3 (Ha (b3 (ih prog w _ s x y d e as bs E _ hd z rx ry ld le ?_ ?_)))
        ·show A.units+1+n+1<GZ;lia
        ·exact r4 r
     ·have J:=fP z
      cases e2:bF xs ys with
      |some b=>rw[e2]at J;dsimp only at J;rw[J]at q;exact r4 ⟨_,rfl,by simp,q⟩
      |none=>
       rw[e2]at J;dsimp only at J;rw[J]at q;have NP:=bq L;have fv:=bq O;refine r4 ⟨_,rfl,?_,?_⟩
       ·simp[IB]
       ·simp only[Ei]at NP fv;simp only[IB];rw[NP,fv];exact q
  cases z with
  |int i j=>
   cases ra;cases rb
   exact qh (by rw[<-fg];exact q)
  |nil ys=>exact tup _ _ rfl rfl
  |nil' xs=>exact tup _ _ rfl rfl
  |cons _ _=>exact tup _ _ rfl rfl
end
end Srt
namespace Srt
variable{n:Nat}
section
variable{prog:Eg}{w:Ez}{A:ED}{E:gV->q7->Prop}{s:q7}
theorem gJ{α β:Type}{M:IC}{f:α->Sem β}{g:α->β}:∀{l:List α} {Q:List β->q7->Prop},(∀x∈l,∀R:β->q7->Prop,R (g x) s->DU M A (f x) R E s)->Q (l.map g) s->DU M A (l.mapM f) Q E s
 |[],Q,_,q=>by rw[List.mapM_nil];exact r4 q
 |x::xs,Q,h,q=>by rw[List.mapM_cons];refine b3 (h x (by simp) _ (b3 (gJ (λy j=>h y (by simp[j])) (r4 q))))
theorem cV{α β:Type}{M:IC}{f:α->Sem β}{g:α->β}{xs:Array α}{Q:Array β->q7->Prop}(h:∀x∈xs.toList,∀R:β->q7->Prop,R (g x) s->DU M A (f x) R E s)(q:Q (xs.map g) s):DU M A (xs.mapM f) Q E s:=by
 rw[Array.mapM_eq_mapM_toList];rw[map_eq_pure_bind];refine b3 (gJ h (r4 ?_));have:(xs.toList.map g).toArray=xs.map g:=by apply HG.mp;simp
 rw[this];exact q
theorem j3{a:NS}{v:gV}{vs:List gV}{o:Obj}(h1:s.heap.get? a=Z o)(h2:o.cls=.type "tuple")(j:o.data=.seq (v::vs).toArray n){Q:Option gV->q7->Prop}(q:Q (Z v) s):DU (E9 prog w) A (firstOfTuple' (.ref a)) Q E s:=by
 unfold firstOfTuple';have ty:s.TypeIs (.ref a) "tuple":=⟨_,h1,h2⟩
 wp_walk
 rw[j];refine r4 ?_;refine r4 ?_;exact r4 q
theorem vG{a:NS}{o:Obj}{T:gV}(h1:s.heap.get? a=Z o)(h2:o.cls=T){Q:gV->q7->Prop}(q:Q T s):DU (E9 prog w) A (typeOf (.ref a)) Q E s:=by
 wp_walk
 rw[h2];exact q
theorem qi{x y:gV}{d e:F3}{as bs:List NS}(j:Cmpb d e)(rx:HX s.heap x d as)(ry:HX s.heap y e bs)(ld:d.canLay0=NQ)(le:e.canLay0=NQ)(hd:d.depth<=n)(hu:A.units+n+1<GZ){Q:Bool->q7->Prop}(q:Q (ltK (toK d) (toK e)) s):DU (E9 prog w) A (oneLt' NR x y) Q E s:=by rw[oneLt'_eq];exact b3 (z9 n prog w A s x y d e as bs E _ hd j rx ry ld le hu (trd q))
theorem j4{b:Bool}{x y:gV}{xs ys:List F3}{as bs:List NS}(hb:b=NQ->∀d e,xs.head?=Z d->ys.head?=Z e->(∃i,d=.int i)/\∃i,e=.int i)(J:Cmpb (.tuple xs) (.tuple ys))(rx:HX s.heap x (.tuple xs) as)(ry:HX s.heap y (.tuple ys) bs)(lx:Fb xs=NQ)(ly:Fb ys=NQ)(hd:Gc xs<=n)(hu:A.units+n+1<GZ){Q:Bool->q7->Prop}(q:Q (ltK (toK (.tuple xs)) (toK (.tuple ys))) s):
 DU (E9 prog w) A (keyLt' (tuples' b) x y) Q E s:=by
 cases rx with
 |tuple h1 h2 h3 L=>
  cases ry with
  |tuple g1 g2 g3 O=>
   refine b3 (LG h1 h3 ?_);refine b3 (LG g1 g3 ?_);refine b3 (dC (fQ (n:=n) (g:=id) (pr:=Prod.fst) (List.zipIdx_map_fst _ _) L O J lx ly hd ?_ ?_))
   ·rintro⟨⟨x,y⟩,i⟩ x' y' d e as bs R hz hp rx ry J ld le hd r
    cases hp
    dsimp only;refine b3 (Mf d e _ _ _ _ _ _ rx ry ld le ∅ prog w E _ ?_)
    by_cases F:F4 d e=NQ
    ·rw[if_pos F]at r;rw[F];exact r4 r
    ·rw[if_neg F]at r;have F:F4 d e=NR:=by simpa using F
     rw[F];refine b3 ?_
     by_cases z:(b&&i==0)=NQ
     ·rw[z];simp only[tv,beq_iff_eq]at z;obtain⟨rfl,rfl⟩:=z;have j:=List.mem_zipIdx_iff_getElem?.mp hz;obtain⟨NP,fv,t1,t2,B,U⟩:∃(NP fv:Int) (t1 t2:Tok),x=.int NP t1/\y=.int fv t2:=by
       generalize hV:JZ _=vl at L j;generalize hU:JZ _=ul at O j
       cases L with
       |nil=>simp at j
       |cons p1 p2=>
        cases O with
        |nil=>simp at j
        |cons q1 q2=>
         simp at j;obtain⟨⟨NP,ei⟩,⟨fv,ej⟩⟩:=hb rfl _ _ rfl rfl;subst ei ej
         cases p1;cases q1
         exact⟨_,_,_,_,j.1.symm,j.2.symm⟩
      subst B U
      cases rx;cases ry
      refine oneLt_int ?_;rw[<-fg];exact r4 r
     ·have z:(b&&i==0)=NR:=by simpa using z
      rw[z];exact qi J rx ry ld le hd hu (r4 r)
   ·have B:=fP J
    cases U:bF xs ys with
    |some b=>rw[U]at B;dsimp only at B;rw[B]at q;exact r4 q
    |none=>rw[U]at B;dsimp only at B;rw[B]at q;have n1:=bq L;have n2:=bq O;refine r4 ?_;simp only[Ei]at n1 n2;rw[n1,n2];exact q
end
end Srt
namespace Srt
structure kD(n:Nat)(ds:List F3):Prop where
 cmp:∀d∈ds,∀e∈ds,Cmpb d e
 lay:∀d∈ds,d.canLay0=NQ/\d.depth<=n
 kind:(∀d∈ds,∃i,d=.int i)∨(∀d∈ds,∃i xs,d=.tuple (.int i::xs))∨(∀d∈ds,∃ys xs,d=.tuple (.tuple ys::xs))
noncomputable def bW(h:Heap):gV->Option gV
 |.ref a=>(h.get? a).bind λo=>match o.data with|.seq xs _=>xs[0]?|_=>Y
 |_=>Y
variable{vs:List gV}{h:Heap}{v:gV}
section
variable{prog:Eg}{w:Ez}{A:ED}{E:gV->q7->Prop}{s:q7}
noncomputable def cC(h:Heap)(x:D1):Ky:=toK (Fw h x.1)
def RdL(h:Heap)(vs:List gV)(ds:List F3):Prop:=∀v∈vs,∃d∈ds,∃as,HX h v d as
theorem e7{arr:Array gV}{T:String}(h0:0<arr.size)(h:∀v∈arr.toList,∀R:gV->q7->Prop,R (.type T) s->DU (E9 prog w) A (typeOf v) R E s){Q:Option gV->q7->Prop}(q:Q (Z (.type T)) s):DU (E9 prog w) A (oneTypeOnly' arr) Q E s:=by
 rw[oneTypeOnly'_eq];refine b3 (cV (g:=λ_=>EG T) h ?_);have e:(IM (λ_=>EG T) arr)[0]?=Z (EG T):=by rw[Lk,DV h0];rfl
 rw[e];dsimp only;have j:((IM (λ_=>EG T) arr).all λx=>x==EG T)=NQ:=by rw[LH];intro i hi;simp
 rw[j];exact r4 q
theorem oe{n:Nat}{kd:HY}{ds:List F3}(j:RdL s.heap vs ds)(hs:kD n ds)(h:∀(x y:gV) (d e:F3) (as bs:List NS) (E:gV->q7->Prop) (Q:Bool->q7->Prop),d∈ds->e∈ds->HX s.heap x d as->HX s.heap y e bs->Q (ltK (toK d) (toK e)) s->DU (E9 prog w) A (keyLt' kd x y) Q E s):
 Cm prog w A s kd (λx=>x.1∈vs) (λx y=>ltK (cC s.heap x) (cC s.heap y)) where
 asym:=λx y=>fO _ _
 neg:=λx y z=>vF _ _ _
 run:=λx y E Q hx B q=>by obtain⟨d,hd,as,ra⟩:=j _ hx;obtain⟨e,he,bs,rb⟩:=j _ B;have F:=Gd (hs.lay d hd).1 ra;have J:=Gd (hs.lay e he).1 rb;unfold cC at q;rw[F,J]at q;exact h _ _ d e as bs E Q hd he ra rb q
theorem kE(j:∀v∈vs,∃u,bW h v=Z u):((vs.toArray.map (bW h)).all λx=>x.isSome)=NQ:=by rw[LH];intro i hi;simp at hi;obtain⟨u,hu⟩:=j vs[i] (Md hi);simp[hu]
theorem qj{x:gV}(hx:x∈(MQ id (vs.toArray.map (bW h))).toList):∃v∈vs,bW h v=Z x:=by simp at hx;exact hx
theorem qk{u:gV}(j:bW h v=Z u):0<(MQ id ((v::vs).toArray.map (bW h))).size:=by rw[<-Ei];simp[j]
theorem j5{d:F3}{xs:List F3}{as:List NS}(r:HX h v (.tuple (d::xs)) as):∃a o u us n bs,v=.ref a/\h.get? a=Z o/\o.cls=.type "tuple"/\o.data=.seq (u::us).toArray n/\HX h u d bs:=by
 cases r with
 |@tuple a o vs n xs as h1 h2 j h4=>
  generalize z:vs.toList=vl at h4
  cases h4 with
  |@cons u us _ _ bs _ B p2=>exact⟨_,_,u,us,n,bs,rfl,h1,h2,by rw[j];congr 1;apply HG.mp;simpa using z,B⟩
theorem za{n:Nat}{ds:List F3}(NP:RdL s.heap (v::vs) ds)(hs:kD n ds)(hu:A.units+n+1<GZ):
 ∃kd,(∀(E:gV->q7->Prop) (Q:HY->q7->Prop),Q kd s->DU (E9 prog w) A (keyKind' (v::vs).toArray) Q E s)/\Cm prog w A s kd (λx=>x.1∈v::vs) (λx y=>ltK (cC s.heap x) (cC s.heap y)):=by
 rcases hs.kind with J|J|J
 ·refine⟨oneType',λE Q q=>?_,oe NP hs λx y d e as bs E Q hd he ra rb q=>?_⟩
  ·have ax:∀u∈v::vs,∃i t,u=.int i t:=fun u hu=>by
    obtain⟨d,hd,as,ra⟩:=NP u hu;obtain⟨i,rfl⟩:=J d hd
    cases ra
    exact⟨_,_,rfl⟩
   rw[Mz];refine b3 (cV (g:=λ_=>(Y:Option gV)) (λu hu R r=>?_) ?_)
   ·obtain⟨i,t,rfl⟩:=ax u (by simpa using hu)
    rw[firstOfTuple'_int];exact r4 r
   ·have fv:((IM (fun _=>(Y:Option gV)) (v::vs).toArray).all fun x=>x.isSome)=NR:=by
     simp
    rw[fv];have z:((IM (λ_=>(Y:Option gV)) (v::vs).toArray)[0]?.bind id).isSome=NR:=by simp
    simp only[z,Ec,if_false];refine b3 (e7 (T:="int") (by simp) (λu hu R r=>?_) ?_)
    ·obtain⟨i,t,rfl⟩:=ax u (by simpa using hu)
     exact r4 r
    ·exact r4 q
  ·obtain⟨i,rfl⟩:=J d hd;obtain⟨j,rfl⟩:=J e he
   cases ra;cases rb
   rw[keyLt'_oneType];exact oneLt_int (by rw[<-fg];exact q)
 ·refine⟨tuples' NQ,λE Q q=>?_,oe NP hs λx y d e as bs E Q hd he ra rb q=>?_⟩
  ·have hf:∀u∈v::vs,∃a o i t us n,u=.ref a/\s.heap.get? a=Z o/\o.cls=.type "tuple"/\o.data=.seq (.int i t::us).toArray n:=fun u hu=>by
    obtain⟨d,hd,as,ra⟩:=NP u hu;obtain⟨i,xs,rfl⟩:=J d hd;obtain⟨a,o,u1,us,n,bs,fv,z,L,F,O⟩:=j5 ra
    cases O
    exact⟨a,o,_,_,us,n,fv,z,L,F⟩
   have B:∀u∈v::vs,∃i t,bW s.heap u=Z (.int i t):=λu hu=>by obtain⟨a,o,i,t,us,n,rfl,z,L,F⟩:=hf u hu;exact⟨i,t,by simp[bW,z,F]⟩
   rw[Mz];refine b3 (cV (g:=bW s.heap) (λu hu R r=>?_) ?_)
   ·obtain⟨a,o,i,t,us,n,rfl,z,L,F⟩:=hf u (by simpa using hu)
    refine j3 z L F ?_;simpa[bW,z,F]using r
   ·rw[kE (λu hu=>let⟨i,t,e⟩:=B u hu; ⟨_,e⟩)];refine b3 (Ha ?_);obtain⟨i0,t0,e0⟩:=B v (by simp)
    refine b3 (e7 (T:="int") (qk e0) (λu hu R r=>?_) ?_)
    ·obtain⟨u',U,e⟩:=qj hu;obtain⟨i,t,e'⟩:=B u' U;rw[e']at e;cases e;exact r4 r
    ·exact r4 q
  ·obtain⟨i,xs,rfl⟩:=J d hd;obtain⟨j,ys,rfl⟩:=J e he;have l1:=hs.lay _ hd;have l2:=hs.lay _ he;refine j4 (n:=n) (λ_ d e hd he=>?_) (hs.cmp _ hd _ he) ra rb (by simpa[Iv]using l1.1) (by simpa[Iv]using l2.1) (by have:=l1.2;simp[Hd]at this;lia) hu q
   simp at hd he;subst hd he;exact⟨⟨_,rfl⟩,_,rfl⟩
 ·refine⟨tuples' NR,λE Q q=>?_,oe NP hs λx y d e as bs E Q hd he ra rb q=>?_⟩
  ·have hf:∀u∈v::vs,∃a o b ob us n,u=.ref a/\s.heap.get? a=Z o/\o.cls=.type "tuple"/\o.data=.seq (.ref b::us).toArray n/\s.heap.get? b=Z ob/\ob.cls=.type "tuple":=fun u hu=>by
    obtain⟨d,hd,as,ra⟩:=NP u hu;obtain⟨ys,xs,rfl⟩:=J d hd;obtain⟨a,o,u1,us,n,bs,fv,z,L,F,O⟩:=j5 ra
    cases O with
    |tuple h1 h2 h3 h4=>exact⟨a,o,_,_,us,n,fv,z,L,F,h1,h2⟩
   have B:∀u∈v::vs,∃b ob,bW s.heap u=Z (.ref b)/\s.heap.get? b=Z ob/\ob.cls=.type "tuple":=λu hu=>by obtain⟨a,o,b,ob,us,n,rfl,z,L,F,O,e6⟩:=hf u hu;exact⟨b,ob,by simp[bW,z,F],O,e6⟩
   rw[Mz];refine b3 (cV (g:=bW s.heap) (λu hu R r=>?_) ?_)
   ·obtain⟨a,o,b,ob,us,n,rfl,z,L,F,O,e6⟩:=hf u (by simpa using hu)
    refine j3 z L F ?_;simpa[bW,z,F]using r
   ·rw[kE (λu hu=>let⟨i,t,e,_⟩:=B u hu; ⟨_,e⟩)];refine b3 (Ha ?_);obtain⟨i0,t0,e0,_⟩:=B v (by simp)
    refine b3 (e7 (T:="tuple") (qk e0) (λu hu R r=>?_) ?_)
    ·obtain⟨u',U,e⟩:=qj hu;obtain⟨b,ob,e',O,e6⟩:=B u' U;rw[e']at e;cases e;exact vG O e6 r
    ·exact r4 q
  ·obtain⟨zs,xs,rfl⟩:=J d hd;obtain⟨zs',ys,rfl⟩:=J e he;have l1:=hs.lay _ hd;have l2:=hs.lay _ he;exact j4 (n:=n) (λh=>by cases h) (hs.cmp _ hd _ he) ra rb (by simpa[Iv]using l1.1) (by simpa[Iv]using l2.1) (by have:=l1.2;simp[Hd]at this;lia) hu q
end
end Srt
namespace Srt
inductive Pl:F3->Prop where
 |int (i:Int):Pl (.int i)
 |tup (xs:List F3):(∀x∈xs,Pl x)->Pl (.tuple xs)
theorem aK{h h':Heap}(k:∀b o,h.get? b=Z o->o.cls=.type "tuple"->h'.get? b=Z o){d:F3}(p:Pl d):∀{v:gV} {as:List NS},HX h v d as->HX h' v d as:=by
 induction p with
 |int i=>intro v as r;cases r;exact .int _ _
 |tup xs hx ih=>
  intro v as r
  cases r with
  |tuple h1 h2 z B=>
   refine .tuple (k _ _ h1 h2) h2 z ?_;have g:∀(xs:List F3),(∀x∈xs,∀{v:gV} {as:List NS},HX h v x as->HX h' v x as)->∀(vs:List gV) (as:List NS),KD h vs xs as->KD h' vs xs as:=by
    intro xs
    induction xs with
    |nil=>intro _ vs as r;cases r;exact .nil
    |cons x xs ihx=>
     intro j vs as r
     cases r with
     |cons F p2=>exact .cons (j x (by simp) F) (ihx (λy J=>j y (by simp[J])) _ _ p2)
   exact g xs ih _ _ B
section
variable{prog:Eg}{w:Ez}{A:ED}{E:gV->q7->Prop}{s:q7}
theorem sR{α:Type}{R:α->α->Prop}:∀{l:List α},l.length<2->l.Pairwise R
 |[],_=>.nil
 |[_],_=>List.pairwise_singleton _ _
theorem vH{α:Type}:∀{l:List α},2<=l.length->∃x r,l=x::r
 |x::r,_=>⟨x,r,rfl⟩
theorem vI{cap:Nat}(S:dh cap){m:Nat}{a:NS}{vs:List gV}{n:Nat}{ds:List F3}(ha:s.heap.get? a=Z (Ll "list" vs.toArray n))(fv:RdL s.heap vs ds)(hs:kD m ds)(hp:∀d∈ds,Pl d)(hl:vs.length<=D2)(BK:vs.length<=cap)(hu:A.units+m+1<GZ){Q:PySem.Fin->q7->Prop}(q:∀(h':Heap) (out:List gV) (n':Nat),(∀b o,b≠a->s.heap.get? b=Z o->h'.get? b=Z o)->h'.get? a=Z (Ll "list" out.toArray n')->out.Perm vs->out.Pairwise (λx y=>ltK (toK (Fw s.heap y)) (toK (Fw s.heap x))=NR)->Q (.done (.ret .none)) {s with heap:=h'}):
 DU (E9 prog w) A (Fc.«list.sort» ⟨[.ref a],[]⟩) Q E s:=by
 rw[list_sort_plain];refine b3 (LG ha rfl ?_);refine b3 (GN ha rfl ?_ (by simpa using hl) (by simp))
 have g1:=Gf ha (λ_=>#[]);generalize BL:s.heap.update a (Fl λ_=>#[])=h1 at g1;generalize (if((#[]:Array gV).size==vs.toArray.size)=NQ then n else n+1)=n1 at g1
 refine b3 (MA g1 rfl ?_);refine b3 (KH ?_ (by simpa using hl))
 refine b3 (IV ?_ (by simp))
 refine ES ?_;dsimp only;generalize U:({heap:=(h1.push {cls:=EG "tuple",data:=GU vs.toArray.toList.toArray}).push {cls:=EG "list",data:=GU [].toArray},gens:=s.gens,drawn:=s.drawn,toks:=s.toks,os:=s.os}:q7)=s3;have g3:s3.heap.get? a=Z (Ll "list" #[] n1):=by rw[<-U];exact i2 _ (i2 _ g1)
 have keep:∀b o,b≠a->s.heap.get? b=Z o->s3.heap.get? b=Z o:=λb o J L=>by rw[<-U,<-BL];exact i2 _ (i2 _ (by rw[EL _ _ _ _ J];exact L))
 have keepT:∀b o,s.heap.get? b=Z o->o.cls=.type "tuple"->s3.heap.get? b=Z o:=λb o J hc=>keep b o (λz=>by rw[z,ha]at J;cases J;simp at hc) J
 have BM:RdL s3.heap vs ds:=λv hv=>by obtain⟨d,hd,as,r⟩:=fv v hv;exact⟨d,hd,as,aK keepT (hp d hd) r⟩
 have same:∀v∈vs,Fw s3.heap v=Fw s.heap v:=λv hv=>by obtain⟨d,hd,as,r⟩:=fv v hv;rw[Gd (hs.lay d hd).1 r,Gd (hs.lay d hd).1 (aK keepT (hp d hd) r)]
 have q:∀(h':Heap) (out:List gV) (n':Nat),(∀b o,b≠a->s.heap.get? b=Z o->h'.get? b=Z o)->h'.get? a=Z (Ll "list" out.toArray n')->out.Perm vs->out.Pairwise (λx y=>ltK (toK (Fw s.heap y)) (toK (Fw s.heap x))=NR)->Q (.done (.ret .none)) {s3 with heap:=h'}:=by rw[<-U];exact q
 have BO:∀A':ED,A'.units=A.units->True:=λ_ _=>trivial;clear U
 let Good:EN->Prop:=λst'=>FI st'=Y/\(Es st').toList.Perm (vs.zip vs)/\(Es st').toList.Pairwise (λx y=>ltK (cC s3.heap y) (cC s3.heap x)=NR)
 by_cases F:vs.toArray.size<2
 ·rw[if_pos F,if_pos F];refine b3 (r4 ?_);have B:vs.length<2:=by simpa using F
  have run:DU (E9 prog w) A ((pure ():StateT EN Sem Unit).run (IL general' (vs.toArray.zip vs.toArray) #[] 7 Y)) (λr s'=>s'=s3/\Good r.2) E s3:=by
   refine r4 ⟨rfl,rfl,?_,?_⟩
   ·show(vs.toArray.zip vs.toArray).toList.Perm _;simp
   ·show List.Pairwise _ (vs.toArray.zip vs.toArray).toList;exact sR (by simpa using B)
  refine b3 (F2 (Q:=λr s'=>s'=s3/\Good r.2) run (λr s' fv=>?_) (λ_ _ z=>z));obtain⟨rfl,O,j,NP⟩:=fv;obtain⟨u,st'⟩:=r;refine b3 (MA g3 rfl ?_);refine b3 (GN g3 rfl ?_ (by simp) (by simp only[Array.size_map];have:=j.length_eq;simp at this;rw[this];lia))
  dsimp only at O;rw[O];simp only[bne_self_eq_false,Ec,if_false];refine r4 ?_;have gq:=Gf g3 (λ_=>IM (λx=>x.snd) (Es st'));have eo:IM (λx=>x.snd) (Es st')=((Es st').toList.map λx=>x.snd).toArray:=by apply HG.mp;simp
  refine q _ ((Es st').toList.map λx=>x.snd) _ (λb o J L=>?_) (by rw[gq,eo]) ?_ ?_
  ·rw[EL _ _ _ _ J];exact keep b o J L
  ·have h8:=j.map (λx:D1=>x.snd);rw[Mg (by simp)]at h8
   exact h8
  ·rw[EF];refine NP.imp_of_mem λ{x y} hx hy hxy=>?_;have mx:=Jd (j.mem_iff.mp hx);have my:=Jd (j.mem_iff.mp hy);unfold cC at hxy;rw[mx.1,my.1,same y.2 (by rw[<-my.1];exact my.2),same x.2 (by rw[<-mx.1];exact mx.2)]at hxy
   exact hxy
 ·rw[if_neg F,if_neg F];have B:2<=vs.length:=by simpa using F
  obtain⟨v0,BN,BG⟩:=vH B;obtain⟨kd,BH,BI⟩:=za (prog:=prog) (w:=w) (A:=A) (v:=v0) (vs:=BN) (by rw[<-BG];exact BM) hs hu
  rw[<-BG]at BH BI;refine b3 (BH E _ ?_);have run:DU (E9 prog w) A (sortRuns'.run (IL kd (vs.toArray.zip vs.toArray) #[] 7 Y)) (λr s'=>s'=s3/\Good r.2) E s3:=by
   have ez:(Es (IL kd (vs.toArray.zip vs.toArray) #[] 7 Y)).toList=vs.zip vs:=by show(vs.toArray.zip vs.toArray).toList=_;simp
   have h9:wpS (E9 prog w) A E s3 sortRuns' (λ_ st'=>Good st') (IL kd (vs.toArray.zip vs.toArray) #[] 7 Y):=by
    have BJ:(Es (IL kd (vs.toArray.zip vs.toArray) #[] 7 Y)).size=vs.length:=by rw[<-Ei,ez];simp
    refine S _ _ _ _ _ _ _ _ BI (IL kd (vs.toArray.zip vs.toArray) #[] 7 Y) _ rfl rfl rfl (λx hx=>?_) (by rw[BJ];exact B) (by rw[BJ];exact BK) λst' p1 p2 p3=>⟨p3,by rw[ez]at p1;exact p1,p2⟩
    rw[ez]at hx;exact(Jd hx).2
   exact h9
  refine b3 (F2 (Q:=λr s'=>s'=s3/\Good r.2) run (λr s' fv=>?_) (λ_ _ z=>z));obtain⟨rfl,O,j,NP⟩:=fv;obtain⟨u,st'⟩:=r;refine b3 (MA g3 rfl ?_);refine b3 (GN g3 rfl ?_ (by simp) (by simp only[Array.size_map];have:=j.length_eq;simp at this;rw[this];lia))
  dsimp only at O;rw[O];simp only[bne_self_eq_false,Ec,if_false];refine r4 ?_;have gq:=Gf g3 (λ_=>IM (λx=>x.snd) (Es st'));have eo:IM (λx=>x.snd) (Es st')=((Es st').toList.map λx=>x.snd).toArray:=by apply HG.mp;simp
  refine q _ ((Es st').toList.map λx=>x.snd) _ (λb o J L=>?_) (by rw[gq,eo]) ?_ ?_
  ·rw[EL _ _ _ _ J];exact keep b o J L
  ·have h8:=j.map (λx:D1=>x.snd);rw[Mg (by simp)]at h8
   exact h8
  ·rw[EF];refine NP.imp_of_mem λ{x y} hx hy hxy=>?_;have mx:=Jd (j.mem_iff.mp hx);have my:=Jd (j.mem_iff.mp hy);unfold cC at hxy;rw[mx.1,my.1,same y.2 (by rw[<-my.1];exact my.2),same x.2 (by rw[<-mx.1];exact mx.2)]at hxy
   exact hxy
theorem og(u:gV):JM "sorted" ⟨[u],[]⟩=pure ():=by kernel_rfl
theorem j6{cap:Nat}(S:dh cap){m:Nat}{u:gV}{ds:List F3}{C:Heap->List gV->Prop}{Q:gV->q7->Prop}(hu:A.units+m+3<GZ)(hs:kD m ds)(F:∀d∈ds,Pl d)(J:∀(E:gV->q7->Prop) (R:List gV->q7->Prop),(∀(h':Heap) (vs':List gV) (t':Nat),C h' vs'->RdL h' vs' ds->vs'.length<=D2/\vs'.length<=cap->s.toks<=t'->R vs' {s with heap:=h',toks:=t'})->DU (E9 prog w) A.in1 (collect u) R E s)(q:∀(h1 h2:Heap) (vs out:List gV) (n' t':Nat),C h1 vs->(∀b o,h1.get? b=Z o->h2.get? b=Z o)->h2.get? h1.objs.size=Z (Ll "list" out.toArray n')->out.Perm vs->out.Pairwise (λx y=>ltK (toK (Fw h2 y)) (toK (Fw h2 x))=NR)->RdL h2 out ds->vs.length<=D2->s.toks<=t'->Q (.ref h1.objs.size) {s with heap:=h2,toks:=t'}):
 DU (E9 prog w) A (call (.builtin "sorted") [u]) Q E s:=by
 refine Ld (Hz plain_sorted entry_sorted (GG (og u) ?_));unfold Builtin.sorted;refine b3 (GG (a:=()) (by kernel_rfl) ?_)
 refine b3 (J _ _ λh1 vs t' hC O L ht=>?_);obtain⟨L,U⟩:=L;refine b3 (IV ?_ L);refine b3 (ES ?_);have NP:RdL (h1.push {cls:=EG "list",data:=GU vs.toArray}) vs ds:=λv B=>by obtain⟨d,hd,as,r⟩:=O v B;exact⟨d,hd,as,aK (λb o z _=>i2 _ z) (F d hd) r⟩
 have ha:(h1.push {cls:=EG "list",data:=GU vs.toArray}).get? h1.objs.size=Z (Ll "list" vs.toArray 0):=DW _ rfl;refine EH slot_list_sort (T:="list") ⟨_,ha,rfl⟩ entry_list_sort ?_ (args_list_sort _);refine vI S (m:=m) ha NP hs F L U (by show A.units+1+1+m+1<GZ;lia) λh2 out n' keep g2 j fv=>⟨_,rfl,r4 ?_⟩
 have old:∀b o,h1.get? b=Z o->h2.get? b=Z o:=λb o z=>keep b o (Ep (D0 z)) (i2 _ z);have BG:RdL h2 vs ds:=λv B=>by obtain⟨d,hd,as,r⟩:=O v B;exact⟨d,hd,as,aK (λb o z _=>old b o z) (F d hd) r⟩
 refine q h1 h2 vs out n' t' hC old g2 j ?_ (λv B=>BG v (j.mem_iff.mp B)) L ht;have same:∀v∈vs,Fw (h1.push {cls:=EG "list",data:=GU vs.toArray}) v=Fw h2 v:=λv B=>by obtain⟨d,hd,as,r⟩:=O v B;rw[Gd (hs.lay d hd).1 (aK (λb o z _=>old b o z) (F d hd) r),Gd (hs.lay d hd).1 (aK (λb o z _=>i2 _ z) (F d hd) r)]
 refine fv.imp_of_mem λ{x y} hx hy hxy=>?_;rw[same y (j.mem_iff.mp hy),same x (j.mem_iff.mp hx)]at hxy;exact hxy
end
end Srt
namespace It
noncomputable def iO(f0:gV)(b:Bool)(d:NS)(i n ep:Nat)(ok ov:gV):Obj:={cls:=.type "dict_itemiterator",data:=.fields #[f0,.bool b,.ref d,.int i 0,.int n 0,.int ep 0,ok,ov]}
theorem slot_next:Slot "dict_itemiterator" "__next__" "dict_itemiterator.__next__":=.of (owner:="dict_itemiterator") (n:="__next__") (by rw[Gb,F6];kernel_rfl) (by decide +kernel) (by decide +kernel) (by decide +kernel) (.inl (by decide +kernel)) (by rw[Fq];kernel_rfl)
theorem bw:JL table "dict_itemiterator.__next__"=Z Fc.«dict_itemiterator.__next__»:=IK (by kernel_rfl)
theorem bN(a:gV):Ka "dict_itemiterator.__next__" ⟨[a],[]⟩:=by unfold Ka;kernel_rfl
theorem gK:mroOf (.type "dict_itemiterator")=pure [.type "dict_itemiterator",.type "object"]:=by rw[mroOf_type];kernel_rfl
variable{a it d:NS}{b:Bool}{i ep:Nat}{ov:gV}{oa:Obj}
section
variable{prog:Eg}{w:Ez}{A:ED}{E:gV->q7->Prop}{s:q7}
theorem sU{M:IC}{Q:Option Obj->q7->Prop}(q:Q (s.heap.get? a) s):DU M A (loadIfAlive a) Q E s:=λΓ p hp=>by show Sem.wp M Γ (Sem.loadIfAlive a Sem.pure) _ _ p s;rw[Sem.wp_loadIfAlive];exact q
theorem di(ty:s.TypeIs (.ref it) "dict_itemiterator"){types:List String}{Q:Bool->q7->Prop}(q:Q (types.any λt=>[EG "dict_itemiterator",EG "object"].contains (EG t)) s):DU (model prog w) A (Jq (.ref it) types) Q E s:=by
 have hm:=gK;unfold Jq
 wp_walk
 exact q
theorem ql{n:Nat}{ok:gV}{Q:Bool->q7->Prop}(hi:s.heap.get? it=Z (iO (HJ a) b d i n ep ok ov))(j:s.heap.get? a=Z oa)(q:∀h',h'.get? it=Z (iO (HJ a) NQ d i n ep ok ov)->Gi it s.heap h'->Q NR {s with heap:=h'}):DU (model prog w) A (Gu (.ref it)) Q E s:=by
 unfold Gu;refine b3 (Gs hi rfl (x:=HJ a) rfl ?_);refine b3 (sU ?_);rw[show((a:Int)).toNat=a from G6 a,j];dsimp only;rw[if_neg (by simp)]
 refine b3 (Gs hi rfl (x:=.bool b) rfl ?_)
 cases b with
 |true=>
  rw[if_neg (by decide)]
  exact r4 (q s.heap hi (LI ..))
 |false=>
  rw[if_pos (by decide)]
  refine b3 (EM hi (by simp) λh' e' s'=>?_)
  exact r4 (q h' e' s')
theorem qm{n:Nat}{ok k v:gV}{Q:gV->q7->Prop}(hi:s.heap.get? it=Z (iO (HJ a) b d i n ep ok ov))(z:s.heap.get? a=Z oa)(q:∀h',h'.get? it=Z (iO (HJ a) NQ d i n ep ok ov)->h'.get? s.heap.objs.size=Z {cls:=.type "tuple",data:=.seq #[k,v]}->(∀b o,b≠it->s.heap.get? b=Z o->h'.get? b=Z o)->Q (.ref s.heap.objs.size) {s with heap:=h'}):DU (model prog w) A (FK (.ref it) 6 k v) Q E s:=by
 unfold FK;refine b3 (KH ?_ (by size_fits))
 have j:=D0 hi;refine b3 (ql (a:=a) (oa:=oa) (i2 _ hi) (i2 _ z) λh' e' s'=>?_);dsimp only;rw[if_neg (by simp)]
 refine r4 (q h' e' ?_ λb o B e=>?_)
 ·exact s'.extBut _ _ (F8 j) (DW _ rfl)
 ·exact s'.extBut _ _ B (i2 _ e)
theorem vJ{ok cd:gV}{dd:Option NS}{sl:Array (Option gV)}{es:Array FC}{e:FC}{Q:Option gV->q7->Prop}(hi:s.heap.get? it=Z (iO (HJ a) b d i es.size ep ok ov))(F:a≠it)(U:s.heap.get? a=Z oa)(hd:s.heap.get? d=Z {cls:=cd,dict:=dd,data:=.dict es ep,slots:=sl})(he:es[i]?=Z e)(q:∀h',h'.get? it=Z (iO (HJ a) NQ d (i+1) es.size ep ok ov)->h'.get? s.heap.objs.size=Z {cls:=.type "tuple",data:=.seq #[e.key,e.val]}->(∀b o,b≠it->s.heap.get? b=Z o->h'.get? b=Z o)->Q (Z (.ref s.heap.objs.size)) {s with heap:=h'}):DU (model prog w) A (GH (.ref it)) Q E s:=by
 have ty:s.TypeIs (.ref it) "dict_itemiterator":=⟨_,hi,rfl⟩;unfold GH;refine b3 (Ho (EO (name:=F9 "__next__") ty slot_next (EH slot_next ty bw ?_ (bN _))));unfold Fc.«dict_itemiterator.__next__»;have hm:=gK
 wp_walk
 dsimp only;rw[if_neg (by simp)]
 wp_walk
 simp only[G6,he];refine b3 (F2 (Q:=λn s'=>n=2/\s'=s) ?_ (λn s' hs=>?_) λ_ _ z=>z)
 ·wp_walk
  exact⟨by kernel_rfl,rfl⟩
 obtain⟨rfl,rfl⟩:=hs;refine b3 (di ty ?_);refine b3 (EM hi (by simp) λh1 j s1=>?_)
 refine b3 (ES ?_);have B:JF {s' with heap:=h1} (.ref it) "dict_itemiterator":=⟨_,j,rfl⟩
 refine b3 (di B ?_);rw[if_neg (by decide +kernel)]at j
 have j:h1.get? it=Z (iO (HJ a) b d (i+1) es.size ep ok ov):=j;have hsz:h1.objs.size=s'.heap.objs.size:=s1.1;have J:h1.get? a=Z oa:=s1.extBut a oa F U;refine GC (by decide +kernel) ?_
 refine b3 (di B ?_);refine GC (by decide +kernel) ?_
 refine qm (s:={s' with heap:=h1}) j J λh2 NP L fv=>?_
 refine r4 ⟨_,rfl,r4 ?_⟩;dsimp only at L⊢;rw[hsz]at L⊢;exact q h2 NP L λb o O e=>fv b o O (s1.extBut b o O e)
theorem jU{f0 ok cd:gV}{dd:Option NS}{sl:Array (Option gV)}{es:Array FC}{Q:Option gV->q7->Prop}(j:A.handled=Y)(hi:s.heap.get? it=Z (iO f0 b d es.size es.size ep ok ov))(hd:s.heap.get? d=Z {cls:=cd,dict:=dd,data:=.dict es ep,slots:=sl})(q:∀h',(∀b o,b≠it->s.heap.get? b=Z o->h'.get? b=Z o)->Q Y {s with heap:=h'}):DU (model prog w) A (GH (.ref it)) Q E s:=by
 have ty:s.TypeIs (.ref it) "dict_itemiterator":=⟨_,hi,rfl⟩;unfold GH;refine b3 (Ho (EO (name:=F9 "__next__") ty slot_next (EH slot_next ty bw ?_ (bN _))));unfold Fc.«dict_itemiterator.__next__»;have hm:=gK
 wp_walk
 dsimp only;rw[if_neg (by simp)]
 wp_walk
 have he:es[es.size]?=Y:=He (E2 _);simp only[G6,he];refine b3 (F2 (Q:=λn s'=>n=2/\s'=s) ?_ (λn s' hs=>?_) λ_ _ z=>z)
 ·wp_walk
  exact⟨by kernel_rfl,rfl⟩
 obtain⟨rfl,rfl⟩:=hs;refine b3 (EM hi (by simp) λh1 F s1=>?_)
 refine b3 (m:=N3 (.type "StopIteration") []) ?_;simp only[N3,newTuple];refine b3 (EX ?_ (by size_fits))
 refine b3 (m:=HA _ _) (GG (a:=FU) (by first|rfl|(simp only[HA];rfl)) (EX ?_ (by size_fits)))
 simp only[raiseNew];refine b3 (L5 ?_)
 first|rw[show A.in1.handled=Y from j]|rw[j]
 refine b3 (r4 (Mv ?_));exact b3 (GX (T:="StopIteration") (b:=NQ) ⟨_,DW _ rfl,rfl⟩ Kz (r4 (q _ λb o B e=>i2 _ (i2 _ (s1.extBut b o B e)))))
end
end It
namespace It
variable{it d:NS}{ep:Nat}
section
variable{prog:Eg}{w:Ez}{A:ED}{E:gV->q7->Prop}{s:q7}
theorem qo{i n:Nat}{k v:gV}{Q:gV->q7->Prop}(hi:s.heap.get? it=Z (iO .none NR d i n ep .none .none))(q:∀h',h'.get? it=Z (iO (HJ s.heap.objs.size) NR d i n ep k v)->h'.get? s.heap.objs.size=Z {cls:=.type "tuple",data:=.seq #[k,v]}->(∀b o,b≠it->s.heap.get? b=Z o->h'.get? b=Z o)->Q (.ref s.heap.objs.size) {s with heap:=h'}):DU (model prog w) A (FK (.ref it) 6 k v) Q E s:=by
 unfold FK;refine b3 (KH ?_ (by size_fits))
 have B:=D0 hi;have j:=i2 ({cls:=.type "tuple",data:=.seq [k,v].toArray}) hi;unfold Gu;refine b3 (b3 (Gs j rfl (x:=.none) rfl (r4 ?_)));dsimp only;rw[if_pos rfl];refine b3 (Gs j rfl (x:=.none) rfl ?_);refine b3 (Gs j rfl (x:=.none) rfl ?_);refine b3 (EM j (by simp) λh1 J s1=>?_)
 refine b3 (EM J (by simp) λh2 L s2=>?_)
 refine b3 (EM L (by simp) λNP O s3=>?_)
 refine b3 (EM O (by simp) λF U s4=>?_)
 refine b3 (wpAny_letGo ?_);have kp:∀b o,b≠it->(s.heap.push {cls:=.type "tuple",data:=.seq [k,v].toArray}).get? b=Z o->F.get? b=Z o:=λb o z e=>s4.extBut b o z (s3.extBut b o z (s2.extBut b o z (s1.extBut b o z e)));refine r4 (q F U (kp _ _ (F8 B) (DW _ rfl)) λb o z e=>kp b o z (i2 _ e))
theorem vK{i:Nat}{cd:gV}{dd:Option NS}{sl:Array (Option gV)}{es:Array FC}{e:FC}{Q:Option gV->q7->Prop}(hi:s.heap.get? it=Z (iO .none NR d i es.size ep .none .none))(hd:s.heap.get? d=Z {cls:=cd,dict:=dd,data:=.dict es ep,slots:=sl})(he:es[i]?=Z e)(q:∀h',h'.get? it=Z (iO (HJ s.heap.objs.size) NR d (i+1) es.size ep e.key e.val)->h'.get? s.heap.objs.size=Z {cls:=.type "tuple",data:=.seq #[e.key,e.val]}->(∀b o,b≠it->s.heap.get? b=Z o->h'.get? b=Z o)->Q (Z (.ref s.heap.objs.size)) {s with heap:=h'}):DU (model prog w) A (GH (.ref it)) Q E s:=by
 have ty:s.TypeIs (.ref it) "dict_itemiterator":=⟨_,hi,rfl⟩;unfold GH;refine b3 (Ho (EO (name:=F9 "__next__") ty slot_next (EH slot_next ty bw ?_ (bN _))));unfold Fc.«dict_itemiterator.__next__»;have hm:=gK
 wp_walk
 dsimp only;rw[if_neg (by simp)]
 wp_walk
 simp only[G6,he];refine b3 (F2 (Q:=λn s'=>n=2/\s'=s) ?_ (λn s' hs=>?_) λ_ _ z=>z)
 ·wp_walk
  exact⟨by kernel_rfl,rfl⟩
 obtain⟨rfl,rfl⟩:=hs;refine b3 (di ty ?_);refine b3 (EM hi (by simp) λh1 j s1=>?_)
 refine b3 (ES ?_);have B:JF {s' with heap:=h1} (.ref it) "dict_itemiterator":=⟨_,j,rfl⟩
 refine b3 (di B ?_);rw[if_neg (by decide +kernel)]at j
 have j:h1.get? it=Z (iO .none NR d (i+1) es.size ep .none .none):=j;have hsz:h1.objs.size=s'.heap.objs.size:=s1.1;refine GC (by decide +kernel) ?_
 refine b3 (di B ?_);refine GC (by decide +kernel) ?_
 refine qo (s:={s' with heap:=h1}) j λh2 F J O=>?_
 refine r4 ⟨_,rfl,r4 ?_⟩;dsimp only at F J⊢;rw[hsz]at F J⊢;exact q h2 F J λb o L e=>O b o L (s1.extBut b o L e)
structure A0(h0:Heap)(s:q7)(it d:NS)(es:Array FC)(ep i:Nat)(acc:Array gV):Prop where
 dict:∃cd dd sl,s.heap.get? d=Z {cls:=cd,dict:=dd,data:=.dict es ep,slots:=sl}
 iter:(i=0/\s.heap.get? it=Z (iO .none NR d 0 es.size ep .none .none))∨(1<=i/\∃(a:NS) (b:Bool) (ok ov:gV) (oa:Obj),s.heap.get? it=Z (iO (HJ a) b d i es.size ep ok ov)/\a≠it/\s.heap.get? a=Z oa/\oa.cls=.type "tuple")
 size:acc.size=i
 nd:acc.toList.Nodup
 item:∀j,j<i->∃t e,acc[j]?=Z (.ref t)/\es[j]?=Z e/\s.heap.get? t=Z {cls:=.type "tuple",data:=.seq #[e.key,e.val]}/\h0.get? t=Y
theorem vL(hn:A.handled=Y){S:NS}{es:Array FC}{res:gV}{R:Kr->q7->Prop}(J:S≠it)(BL:S≠d)(BM:it≠d)(hz:es.size<=D2)(h0:Heap)(hS0:S<h0.objs.size->True):
 ∀(k i:Nat) (s:q7) (acc:Array gV) (c:Nat),es.size-i=k->i<=es.size->A0 h0 s it d es ep i acc->s.heap.get? S=Z {cls:=.type "list",data:=.seq acc c}->
  (∀b o,b≠it->b≠S->h0.get? b=Z o->s.heap.get? b=Z o)->
  (∀(h':Heap) (acc':Array gV) (c':Nat),(∀b o,b≠it->b≠S->h0.get? b=Z o->h'.get? b=Z o)->h'.get? S=Z {cls:=.type "list",data:=.seq acc' c'}->acc'.size=es.size->acc'.toList.Nodup->(∀j,j<es.size->∃t e,acc'[j]?=Z (.ref t)/\es[j]?=Z e/\h'.get? t=Z {cls:=.type "tuple",data:=.seq #[e.key,e.val]}/\h0.get? t=Y)->R (.ok (.ret res)) {s with heap:=h'})->
  Gj (model prog w) A (.builtin "list.extend.loop" ⟨[.ref S,.ref it,res],[]⟩) R s:=by
 intro k
 induction k with
 |zero=>
  intro i s acc c hk hi H NP kp q;have L:i=es.size:=∅
  obtain⟨cd,dd,sl,hd⟩:=H.dict;refine Fi KY ?_;unfold Fc.«list.extend.loop»;dsimp only;refine b3 ?_;have key:∀(f0:gV) (b:Bool) (ok ov:gV),s.heap.get? it=Z (iO f0 b d es.size es.size ep ok ov)->DU (model prog w) (A.under (LJ "list.extend.loop" {pos:=[Eb S,Eb it,res]})) (GH (.ref it)) (λa s'=>a=Y/\∃h',(∀b o,b≠it->s.heap.get? b=Z o->h'.get? b=Z o)/\s'={s with heap:=h'}) (λe s'=>R (.error e) s') s:=by intro f0 b ok ov hi;refine jU hn hi hd λh' kp'=>⟨rfl,h',kp',rfl⟩
  have BH:DU (model prog w) (A.under (LJ "list.extend.loop" {pos:=[Eb S,Eb it,res]})) (GH (.ref it)) (λa s'=>a=Y/\∃h',(∀b o,b≠it->s.heap.get? b=Z o->h'.get? b=Z o)/\s'={s with heap:=h'}) (λe s'=>R (.error e) s') s:=by
   rcases H.iter with⟨h0,e⟩|⟨h1,a,b,ok,ov,oa,e,_⟩
   ·refine key .none NR .none .none ?_;rw[<-L,h0];rw[<-L,h0]at e;exact e
   ·refine key (HJ a) b ok ov ?_;rw[<-L];rw[<-L]at e;exact e
  refine F2 BH (λa s' hs=>?_) λ_ _ z=>z;obtain⟨rfl,h',kp',rfl⟩:=hs;refine r4 (q h' acc c (λb o h1 h2 e=>kp' b o h1 (kp b o h1 h2 e)) (kp' S _ J NP) (by rw[H.size];exact L) H.nd λj hj=>?_)
  obtain⟨t,e,O,fv,B,e4⟩:=H.item j ∅
  refine⟨t,e,O,fv,kp' t _ (λz=>?_) B,e4⟩
  rcases H.iter with⟨_,e⟩|⟨_,a,b,ok,ov,oa,e,_⟩
  ·rw[z,e]at B;simp[iO]at B
  ·rw[z,e]at B;simp[iO]at B
 |succ k ih=>
  intro i s acc c hk hi H NP kp q;have BN:i<es.size:=∅
  obtain⟨cd,dd,sl,hd⟩:=H.dict;have he:es[i]?=Z es[i]:=DV BN;refine Fi KY ?_;unfold Fc.«list.extend.loop»;dsimp only;refine b3 ?_;have key:DU (model prog w) (A.under (LJ "list.extend.loop" {pos:=[Eb S,Eb it,res]})) (GH (.ref it)) (λv s'=>v=Z (.ref s.heap.objs.size)/\∃(h':Heap) (a:NS) (b:Bool) (ok ov:gV) (oa:Obj),s'={s with heap:=h'}/\h'.get? it=Z (iO (HJ a) b d (i+1) es.size ep ok ov)/\a≠it/\h'.get? a=Z oa/\oa.cls=.type "tuple"/\h'.get? s.heap.objs.size=Z {cls:=.type "tuple",data:=.seq #[es[i].key,es[i].val]}/\∀b o,b≠it->s.heap.get? b=Z o->h'.get? b=Z o) (λe s'=>R (.error e) s') s:=by
   rcases H.iter with⟨h0,e⟩|⟨h1,a,b,ok,ov,oa,e,O,fv,B⟩
   ·subst h0;refine vK e hd he λh' g1 g2 g3=>⟨rfl,h',_,_,_,_,_,rfl,g1,?_,g2,rfl,g2,g3⟩;exact F8 (D0 e)
   ·refine vJ e O fv hd he λh' g1 g2 g3=>⟨rfl,h',a,_,_,_,oa,rfl,g1,O,g3 a oa O fv,B,g2,g3⟩
  refine F2 key (λv s' hs=>?_) λ_ _ z=>z;obtain⟨rfl,h',a,b,ok,ov,oa,rfl,g1,g2,g3,g4,g5,g6⟩:=hs;have U:=D0 NP;refine b3 (GN (g6 S _ J NP) rfl ?_ (by rw[H.size];lia) (by simp[H.size];lia))
  refine r4 ⟨HW HK _,?_⟩;have gS:=Gf (c:="list") (g6 S _ J NP) (λx=>x.push (Eb s.heap.objs.size));have oth:∀b o,b≠S->h'.get? b=Z o->(h'.update S (Fl λx=>x.push (Eb s.heap.objs.size))).get? b=Z o:=λb o hb e=>by rw[EL _ _ _ _ hb];exact e
  have tup_ne:∀t (o:Obj),s.heap.get? t=Z o->o.cls=.type "tuple"->t≠it/\t≠S:=λt o e ec=>by
   constructor
   ·intro z
    rcases H.iter with⟨_,e'⟩|⟨_,a,b,ok,ov,oa,e',_⟩
    ·rw[z,e']at e;cases e;simp[iO]at ec
    ·rw[z,e']at e;cases e;simp[iO]at ec
   ·intro z;rw[z,NP]at e;cases e;simp at ec
  refine ih (i+1) _ _ _ ∅ ∅ ⟨⟨cd,dd,sl,oth d _ BL.symm (g6 d _ BM.symm hd)⟩,.inr ⟨∅,a,b,ok,ov,oa,oth it _ J.symm g1,g2,oth a _ ?_ g3,g4⟩,by simp[H.size],?_,?_⟩ gS (λb o h1 h2 e=>oth b o h2 (g6 b o h1 (kp b o h1 h2 e))) λh2 BI c2=>q h2 BI c2
  ·intro z;rw[z,g6 S _ J NP]at g3;cases g3;simp at g4
  ·rw[E4];refine Iw.mpr ⟨H.nd,by simp,λx hx y hy BO=>?_⟩
   simp at hy;subst hy BO;obtain⟨j,hj,ej⟩:=FE.mp hx;obtain⟨t,e,O,fv,B,e4⟩:=H.item j (by rw[<-H.size];simpa using hj)
   have e5:acc[j]?=Z (Eb s.heap.objs.size):=by rw[<-DS,z4 hj,ej]
   rw[e5]at O;cases O;exact absurd (D0 B) (EB _)
  ·intro j hj
   by_cases BJ:j<i
   ·obtain⟨t,e,O,fv,B,e4⟩:=H.item j BJ;obtain⟨t1,t2⟩:=tup_ne t _ B rfl;refine⟨t,e,?_,fv,oth t _ t2 (g6 t _ t1 B),e4⟩;rw[Array.getElem?_push_lt (by rw[H.size];exact BJ)]
    rw[<-O,DV]
   ·have:j=i:=by lia
    subst this;have BG:it<s.heap.objs.size:=by
     rcases H.iter with⟨_,e'⟩|⟨_,a,b,ok,ov,oa,e',_⟩
     ·exact D0 e'
     ·exact D0 e'
    have BK:h0.get? s.heap.objs.size=Y:=by
     cases hq:h0.get? s.heap.objs.size with
     |none=>rfl
     |some o=>exact absurd (D0 (kp _ _ (F8 BG) (F8 U) hq)) (EB _)
    refine⟨s.heap.objs.size,es[j],?_,he,oth _ _ (F8 U) g5,BK⟩;have:=H.size;subst this;simp
end
end It
namespace It
variable{v d:NS}{es:Array FC}{ep:Nat}{cd:gV}{dd:Option NS}{sl:Array (Option gV)}
section
variable{prog:Eg}{w:Ez}{A:ED}{E:gV->q7->Prop}{s:q7}
theorem vM{Q:gV->q7->Prop}(j:s.heap.get? v=Z {cls:=.type "dict_items",data:=.fields #[.ref d]})(hd:s.heap.get? d=Z {cls:=cd,dict:=dd,data:=.dict es ep,slots:=sl})(q:Q (.ref s.heap.objs.size) {s with heap:=s.heap.push (iO .none NR d 0 es.size ep .none .none)}):DU (model prog w) A (JC (.ref v)) Q E s:=by
 have ty:s.TypeIs (.ref v) "dict_items":=⟨_,j,rfl⟩;refine Iq ty Kc (EH Kc ty F.entry_dict_items_iter ?_ (F.args_dict_items_iter_1 _));unfold Fc.«dict_items.__iter__»
 wp_walk
 exact⟨_,rfl,"dict_itemiterator",_,⟨_,DW _ rfl,rfl⟩,slot_next.lookup,q⟩
theorem qp{Q:Bool->q7->Prop}(B:s.heap.get? v=Z {cls:=.type "dict_items",data:=.fields #[.ref d]})(q:Q NR s):DU (model prog w) A (Gn (.ref v)) Q E s:=by
 have ty:s.TypeIs (.ref v) "dict_items":=⟨_,B,rfl⟩;unfold Gn;refine b3 (I8 ty F.slot_dict_items_len.lookup ?_);generalize j:("dict_items.__len__":String)=z
 (fail_if_success (clear j z));wp_delta
 rw[show splitId z=Z ("dict_items","__len__")from by subst j;decide +kernel]
 subst j;refine b3 (GX (b:=NQ) ty (by rw[Fq];kernel_rfl) ?_)
 rw[if_neg (by decide)]
 refine Jr (by decide +kernel) ?_
 refine b3 (GF ty ?_);exact r4 q
open Builtin.List in
theorem sV{B:ED}(hn:A.handled=Y){S:NS}{c:Nat}{R:Kr->q7->Prop}(res:gV)(L:s.heap.get? v=Z {cls:=.type "dict_items",data:=.fields #[.ref d]})(hd:s.heap.get? d=Z {cls:=cd,dict:=dd,data:=.dict es ep,slots:=sl})(J:s.heap.get? S=Z {cls:=.type "list",data:=.seq #[] c})(hz:es.size<=D2)(q:∀(h':Heap) (acc':Array gV) (c':Nat),(∀b o,b≠S->s.heap.get? b=Z o->h'.get? b=Z o)->h'.get? S=Z {cls:=.type "list",data:=.seq acc' c'}->acc'.size=es.size->acc'.toList.Nodup->(∀j,j<es.size->∃t e,acc'[j]?=Z (.ref t)/\es[j]?=Z e/\h'.get? t=Z {cls:=.type "tuple",data:=.seq #[e.key,e.val]}/\s.heap.get? t=Y)->R (.ok (.ret res)) {s with heap:=h'}):
 DU (model prog w) B (listExtendWith (.ref S) (.ref v) res) (λfin s'=>match fin with|.done f=>R (.ok f) s'|.again c'=>c'.quiet=NQ/\Gj (model prog w) A c' R s') (λe s'=>R (.error e) s') s:=by
 have ty:s.TypeIs (.ref v) "dict_items":=⟨_,L,rfl⟩;have BG:S≠v:=λe=>by rw[e,L]at J;simp at J
 have O:S≠d:=λe=>by rw[e,hd]at J;simp at J
 have U:=D0 hd;have z:=D0 J;have BI:=D0 L;have h1:listSameRef (.ref S) (.ref v)=NR:=by simp[listSameRef,BG]
 unfold listExtendWith;refine b3 (GF ty ?_);rw[if_neg (by rw[h1];decide)]
 refine b3 (vM L hd ?_);refine b3 (ES (qp (d:=d) (i2 _ L) ?_));refine Jr (by decide +kernel) ?_
 refine b3 (Ha ?_);unfold listTouch;have NP:(s.heap.push (iO .none NR d 0 es.size ep .none .none)).get? S=Z (Ll "list" #[] c):=i2 _ J;refine b3 (b3 (GN NP rfl ?_ (by simp) (by simp)))
 have fv:=Gf NP (λx=>x.push FU);refine GN fv rfl ?_ (by simp;decide) (by simp)
 have BH:=Gf fv (λx=>x.pop);refine r4 ⟨HW HK _,?_⟩;have oth:∀b o,b≠S->s.heap.get? b=Z o->(((s.heap.push (iO .none NR d 0 es.size ep .none .none)).update S (Fl λx=>x.push FU)).update S (Fl λx=>x.pop)).get? b=Z o:=λb o hb e=>by rw[EL _ _ _ _ hb,EL _ _ _ _ hb];exact i2 _ e
 have hit:(((s.heap.push (iO .none NR d 0 es.size ep .none .none)).update S (Fl λx=>x.push FU)).update S (Fl λx=>x.pop)).get? s.heap.objs.size=Z (iO .none NR d 0 es.size ep .none .none):=by rw[EL _ _ _ _ (F8 z),EL _ _ _ _ (F8 z)];exact DW _ rfl
 refine vL hn (S:=S) (it:=s.heap.objs.size) (d:=d) (es:=es) (ep:=ep) (Ep z) O (F8 U) hz s.heap (λ_=>trivial) es.size 0 _ #[] _ ∅ ∅ ⟨⟨cd,dd,sl,oth d _ O.symm hd⟩,.inl ⟨rfl,hit⟩,rfl,by simp,λj hj=>∅⟩ BH (λb o h1 h2 e=>oth b o h2 e) λh' acc' c' k1 k2 k3 k5 k4=>?_
 exact q h' acc' c' (λb o hb e=>k1 b o (Ep (D0 e)) hb e) k2 k3 k5 k4
theorem collect_view(hn:A.handled=Y){Q:List gV->q7->Prop}(NP:s.heap.get? v=Z {cls:=.type "dict_items",data:=.fields #[.ref d]})(hd:s.heap.get? d=Z {cls:=cd,dict:=dd,data:=.dict es ep,slots:=sl})(hz:es.size<=D2)(q:∀(h':Heap) (us:List gV),(∀b o,s.heap.get? b=Z o->h'.get? b=Z o)->us.length=es.size->us.Nodup->(∀j,j<es.size->∃t e,us[j]?=Z (.ref t)/\es[j]?=Z e/\h'.get? t=Z {cls:=.type "tuple",data:=.seq #[e.key,e.val]}/\s.heap.get? t=Y)->Q us {s with heap:=h'}):DU (model prog w) A (collect (.ref v)) Q E s:=by
 unfold collect;refine b3 (KI (Fi Kn ?_));unfold Fc.«proto.collect»;dsimp only;refine b3 (IV ?_ (by simp))
 refine r4 ⟨Ie _ (by decide +kernel),?_⟩
 refine Fi Mh ?_;unfold Fc.«list.__iadd__»;refine b3 (GG (a:=(Eb s.heap.objs.size,[Eb v])) (by kernel_rfl) ?_)
 have fv:=D0 NP;have hS0:(s.heap.push {cls:=EG "list",data:=GU [].toArray}).get? s.heap.objs.size=Z {cls:=EG "list",data:=GU #[] 0}:=DW _ rfl;have fin:∀(h':Heap) (acc:Array gV) (c':Nat),(∀b o,b≠s.heap.objs.size->(s.heap.push {cls:=EG "list",data:=GU [].toArray}).get? b=Z o->h'.get? b=Z o)->h'.get? s.heap.objs.size=Z {cls:=.type "list",data:=.seq acc c'}->acc.size=es.size->acc.toList.Nodup->(∀j,j<es.size->∃t e,acc[j]?=Z (.ref t)/\es[j]?=Z e/\h'.get? t=Z {cls:=.type "tuple",data:=.seq #[e.key,e.val]}/\(s.heap.push {cls:=EG "list",data:=GU [].toArray}).get? t=Y)->
  DU (model prog w) A (do
   let o <-load s.heap.objs.size
   match o.data with
   |.seq xs _=>pure xs.toList
   |_=>unsupported "internal:collect") Q E {s with heap:=h'}:=by
  intro h' acc c' z B J L O;refine b3 (K0 B ?_);exact r4 (q h' acc.toList (λb o e=>z b o (Ep (D0 e)) (i2 _ e)) (by simpa using J) L λj hj=>by
   obtain⟨t,e,e1,e2,e3,e4⟩:=O j hj;refine⟨t,e,by rw[DS];exact e1,e2,e3,?_⟩
   cases hq:s.heap.get? t with
   |none=>rfl
   |some o=>rw[i2 _ hq]at e4;cases e4)
 refine F2 (sV (s:={s with heap:=s.heap.push {cls:=EG "list",data:=GU [].toArray}}) (R:=λr s'=>r=.ok (.ret (.ref s.heap.objs.size))/\DU (model prog w) A (do
  let o <-load s.heap.objs.size
  match o.data with
  |.seq xs _=>pure xs.toList
  |_=>unsupported "internal:collect") Q E s') hn (Eb s.heap.objs.size) (i2 _ NP) (i2 _ hd) hS0 hz λh' acc c' z B J L O=>⟨rfl,fin h' acc c' z B J L O⟩) (λfn s' h=>?_) (λe s' h=>?_)
 ·cases fn with
  |done f=>
   obtain⟨e,h⟩:=h
   cases e
   exact h
  |again c'=>refine⟨h.1,FY h.2 λr s1 U=>?_⟩;obtain⟨rfl,U⟩:=U;exact U
 ·cases h.1
end
end It
section
section
variable{P:Eg}{w:Ez}{H:Hp}{h:Heap}{a:NS}{o:HO}
theorem ObjOk.there(x:ObjOk P w H h a o):∃ob,h.get? a=Z ob:=by
 cases o with
 |lst xs=>obtain⟨_,_,_,_,e⟩:=x;exact⟨_,e⟩
 |tup xs=>obtain⟨_,_,_,_,e,_⟩:=x;exact⟨_,e⟩
 |dK kvs=>obtain⟨_,_,_,_,o,_,_,e,_⟩:=x;exact⟨_,e⟩
 |dT kvs=>obtain⟨_,_,_,_,o,_,_,e,_⟩:=x;exact⟨_,e⟩
 |set S n=>obtain⟨o,_,_,_,e,_⟩:=x;exact⟨_,e⟩
 |ins C dx fs=>obtain⟨_,_,_,e,_⟩:=x;exact⟨_,e⟩
 |own y=>obtain⟨_,e⟩:=x;exact⟨_,e⟩
 |xd fs=>obtain⟨_,⟨_,_,_,e,_⟩,_⟩:=x;exact⟨_,e⟩
 |rng lo hi=>obtain⟨_,_,_,e⟩:=x;exact⟨_,e⟩
 |frz ob u=>obtain⟨e,_⟩:=x;exact⟨_,e⟩
 |tbl ps=>exact⟨_,show h.get? a=Z _ from x⟩
 |met f y=>exact⟨_,show h.get? a=Z _ from x⟩
 |ext φ=>obtain⟨_,⟨_,e⟩,_⟩:=x;exact⟨_,e⟩
end
noncomputable def lay(H:Hp)(N:NS->Option HO):Hp:=λb=>match N b with|some o=>Z o|none=>H b
section
variable{X:Cx}{pins:List (NS×Obj)}{σ:List (Option V)}{H:Hp}{s:q7}{h':Heap}{N:NS->Option HO}
theorem ij{o:HO}(e:N b=Z o):lay H N b=Z o:=by unfold lay;rw[e]
theorem fh(e:N b=Y):lay H N b=H b:=by unfold lay;rw[e]
theorem Inv.fresh'(I:Inv X pins σ H s)(e:s.heap.get? b=Y):H b=Y:=by
 cases q:H b with
 |none=>rfl
 |some o=>obtain⟨ob,eo⟩:=(I.hok b o q).there;rw[e]at eo;cases eo
theorem Inv.laidN{t':Nat}(I:Inv X pins σ H s)(k:∀b u,s.heap.get? b=Z u->h'.get? b=Z u)(j:∀b o,N b=Z o->s.heap.get? b=Y)(new:∀b o,N b=Z o->ObjOk X.prog X.w (lay H N) h' b o):Inv X pins σ (lay H N) {s with heap:=h',toks:=t'}:=by
 have old:∀b u,s.heap.get? b=Z u->N b=Y:=λb u e=>by
  cases q:N b with
  |none=>rfl
  |some o=>rw[j b o q]at e;cases e
 have oldH:∀b o,H b=Z o->lay H N b=Z o:=λb o e=>by obtain⟨ob,eo⟩:=(I.hok b o e).there;rw[fh (old b ob eo)];exact e
 refine I.un ⟨λb u q _ _ _=>k b u q,λb u q _ _ _=>⟨u.slots,k b u q⟩,λb u q n _=>by rw[fh (old b u q)];exact n,λb u q _=>⟨u,k b u q⟩,λb xs q=>oldH b _ q,λb u xs q=>oldH b _ q,λb ps q=>⟨#[],by rw[oldH b _ q];simp⟩⟩ λb o e=>?_
 cases q:N b with
 |some o'=>rw[ij q]at e;cases e;exact new b o q
 |none=>rw[fh q]at e;exact(I.hok b o e).stay (λc v _ q=>k c v q) (λc q=>oldH c _ q) λc xs q=>oldH c _ q
end
namespace Mi
open L2.Srt
inductive Sh where
 |int
 |tup (l:List Sh)
mutual
noncomputable def hs:Sh->D->Bool
 |.int,.int _=>NQ
 |.tup l,.tup ds=>hss l ds
 |_,_=>NR
noncomputable def hss:List Sh->List D->Bool
 |[],[]=>NQ
 |s::l,d::ds=>hs s d&&hss l ds
 |_,_=>NR
end
mutual
noncomputable def pd:D->F3
 |.int i=>.int i
 |.tup ds=>.tuple (pds ds)
 |_=>.none
noncomputable def pds:List D->List F3
 |[]=>[]
 |d::ds=>pd d::pds ds
end
mutual
noncomputable def dep:Sh->Nat
 |.int=>0
 |.tup l=>deps l+1
noncomputable def deps:List Sh->Nat
 |[]=>0
 |s::l=>max (dep s) (deps l)
end
noncomputable def da:Sh->Bool
 |.int=>NQ
 |.tup (.int::l)=>decide (deps l<=6)
 |.tup (.tup a::l)=>decide (deps (.tup a::l)<=6)
 |.tup []=>NR
noncomputable def kyD(d:D):Ky:=toK (pd d)
theorem oh{x:D}(h:hs .int x=NQ):∃i,x=.int i:=by cases x<;>first|exact⟨_,rfl⟩|cases h
theorem oi{l:List Sh}{x:D}(h:hs (.tup l) x=NQ):∃ds,x=.tup ds/\hss l ds=NQ:=by cases x<;>first|exact⟨_,rfl,h⟩|cases h
theorem jC{a:List D}(h:hss [] a=NQ):a=[]:=by
 cases a with
 |nil=>rfl
 |cons _ _=>cases h
variable{s:Sh}
theorem jD{l:List Sh}{a:List D}(h:hss (s::l) a=NQ):∃x r,a=x::r/\hs s x=NQ/\hss l r=NQ:=by
 cases a with
 |nil=>cases h
 |cons x r=>exact⟨x,r,rfl,IY.mp h⟩
mutual
theorem qq:∀(s:Sh) (x y:D),hs s x=NQ->hs s y=NQ->Cmpb (pd x) (pd y)
 |.int,_,_,h,g=>by obtain⟨a,rfl⟩:=oh h;obtain⟨b,rfl⟩:=oh g;simp only[pd];exact .int a b
 |.tup l,_,_,h,g=>by obtain⟨a,rfl,h⟩:=oi h;obtain⟨b,rfl,g⟩:=oi g;simp only[pd];exact hss_cmp l a b h g
theorem hss_cmp:∀(l:List Sh) (a b:List D),hss l a=NQ->hss l b=NQ->Cmpb (.tuple (pds a)) (.tuple (pds b))
 |[],_,_,h,g=>by cases jC h;cases jC g;simp only[pds];exact .nil _
 |s::l,_,_,h,g=>by obtain⟨x,a,rfl,j⟩:=jD h;clear h;have h:=j;obtain⟨y,b,rfl,z⟩:=jD g;clear g;have g:=z;simp only[pds];exact .cons (qq s x y h.1 g.1) (hss_cmp l a b h.2 g.2)
end
mutual
theorem gL:∀(s:Sh) (x:D),hs s x=NQ->Pl (pd x)/\(pd x).canLay0=NQ/\(pd x).depth<=dep s
 |.int,_,h=>by obtain⟨a,rfl⟩:=oh h;simp only[pd];exact⟨.int a,rfl,by simp[Hd]⟩
 |.tup l,_,h=>by obtain⟨a,rfl,h⟩:=oi h;obtain⟨h1,h2,j⟩:=hss_pl l a h;simp only[pd];exact⟨.tup _ h1,by simpa[Iv]using h2,by simp[Hd,dep];lia⟩
theorem hss_pl:∀(l:List Sh) (a:List D),hss l a=NQ->(∀x∈pds a,Pl x)/\Fb (pds a)=NQ/\Gc (pds a)<=deps l
 |[],_,h=>by cases jC h;simp[pds,Fb,Gc]
 |s::l,_,h=>by
  obtain⟨x,a,rfl,j⟩:=jD h;clear h;have h:=j;obtain⟨h1,h2,F⟩:=gL s x h.1;obtain⟨g1,g2,g3⟩:=hss_pl l a h.2;simp only[pds];refine⟨λy B=>?_,by simp[Fb,h2,g2],by simp[Gc,deps];lia⟩
  rcases DX.mp B with z|z
  ·rw[z];exact h1
  ·exact g1 y z
end
mutual
theorem jE(M:Mem):∀(s:Sh) (x:D) (n:Nat),hs s x=NQ->dep s<=n->rb n M x=Z (pd x)
 |.int,_,n,h,_=>by obtain⟨a,rfl⟩:=oh h;cases n<;>simp[rb,pd]
 |.tup l,_,n,h,j=>by
  obtain⟨a,rfl,h⟩:=oi h;simp only[dep]at j;obtain⟨k,rfl⟩:∃k,n=k+1:=⟨n-1,∅⟩
  simp only[rb,pd];rw[hss_rb M l a k h ∅];rfl
theorem hss_rb(M:Mem):∀(l:List Sh) (a:List D) (n:Nat),hss l a=NQ->deps l<=n->aI (rb n M) a=Z (pds a)
 |[],_,_,h,_=>by cases jC h;simp[pds,aI]
 |s::l,_,n,h,j=>by obtain⟨x,a,rfl,z⟩:=jD h;clear h;have h:=z;simp only[deps]at j;simp only[pds,aI];rw[jE M s x n h.1 ∅,hss_rb M l a n h.2 ∅];rfl
end
theorem fR(h:da s=NQ):dep s<=7:=by
 match s,h with
 |.int,_=>simp[dep]
 |.tup (.int::l),h=>simp[da]at h;simp[dep,deps];lia
 |.tup (.tup a::l),h=>simp only[da,decide_eq_true_eq]at h;simp only[dep];lia
theorem mD(h:da s=NQ){xs:List D}(hx:∀x∈xs,hs s x=NQ):kD 7 (xs.map pd)/\∀d∈xs.map pd,Pl d:=by
 refine⟨⟨?_,?_,?_⟩,?_⟩
 ·intro d hd e he;obtain⟨x,h1,rfl⟩:=Ej.mp hd;obtain⟨y,h2,rfl⟩:=Ej.mp he;exact qq s x y (hx x h1) (hx y h2)
 ·intro d hd;obtain⟨x,h1,rfl⟩:=Ej.mp hd;obtain⟨_,g2,g3⟩:=gL s x (hx x h1);exact⟨g2,by have:=fR h;lia⟩
 ·match s,h with
  |.int,_=>
   left
   intro d hd;obtain⟨x,h1,rfl⟩:=Ej.mp hd;have:=hx x h1
   cases x<;>simp[hs]at this
   exact⟨_,rfl⟩
  |.tup (.int::l),_=>
   right;left
   intro d hd;obtain⟨x,h1,rfl⟩:=Ej.mp hd;have:=hx x h1
   cases x<;>simp[hs]at this
   rename_i ds
   cases ds with
   |nil=>simp[hss]at this
   |cons y ys=>
    simp[hss]at this
    cases y<;>simp[hs]at this
    exact⟨_,_,rfl⟩
  |.tup (.tup a::l),_=>
   right;right
   intro d hd;obtain⟨x,h1,rfl⟩:=Ej.mp hd;have:=hx x h1
   cases x<;>simp[hs]at this
   rename_i ds
   cases ds with
   |nil=>simp[hss]at this
   |cons y ys=>
    simp[hss]at this
    cases y<;>simp[hs]at this
    exact⟨_,_,rfl⟩
 ·intro d hd;obtain⟨x,h1,rfl⟩:=Ej.mp hd;exact(gL s x (hx x h1)).1
theorem cW{α β:Type}(f:α->β):∀{l m:List β},l.Perm m->∀{t:List α},t.map f=m->∃t':List α,t'.Perm t/\t'.map f=l:=by
 intro l m h
 induction h with
 |nil=>intro t e;exact⟨[],by rw[List.map_eq_nil_iff.mp e],rfl⟩
 |cons x h ih=>
  intro t e
  cases t with
  |nil=>simp at e
  |cons a t=>simp at e;obtain⟨t',h1,h2⟩:=ih e.2;exact⟨a::t',h1.cons a,by simp[h2,e.1]⟩
 |swap x y l=>
  intro t e
  match t,e with
  |a::b::t,e=>simp at e;exact⟨b::a::t,.swap _ _ _,by simp[e]⟩
 |trans h1 h2 j z=>intro t e;obtain⟨L,p2,B⟩:=z e;obtain⟨t1,F,J⟩:=j B;exact⟨t1,F.trans p2,J⟩
def db(ys:List D):Prop:=ys.Pairwise λa b=>ltK (kyD b) (kyD a)=NR
theorem mF{K:Frag}{H:Hp}:∀{ds:List D} {vs:List V} {us:List gV},RDs K H ds vs->Vals vs us->∃t:List (D×V×gV),t.map (·.1)=ds/\t.map (·.2.1)=vs/\t.map (·.2.2)=us/\∀p∈t,RD K H p.1 p.2.1/\RelV p.2.1 p.2.2
 |[],vs,us,h,g=>by
  cases RDs.nil_iff.mp h
  cases g
  exact⟨[],rfl,rfl,rfl,λ_ h=>by simp at h⟩
 |d::ds,vs,us,h,g=>by
  obtain⟨v,r,rfl,h1,h2⟩:=Nu.mp h
  cases g with
  |cons g1 g2=>
   rename_i u us;obtain⟨t,j,B,F,J⟩:=mF h2 g2;exact⟨(d,v,u)::t,by simp[j],by simp[B],by simp[F],λp L=>by
    rcases DX.mp L with z|z
    ·rw[z];exact⟨h1,g1⟩
    ·exact J p z⟩
theorem mG{K:Frag}{H:Hp}:∀{t:List (D×V×gV)},(∀p∈t,RD K H p.1 p.2.1/\RelV p.2.1 p.2.2)->RDs K H (t.map (·.1)) (t.map (·.2.1))/\Vals (t.map (·.2.1)) (t.map (·.2.2))
 |[],_=>⟨RDs.nil,.nil⟩
 |p::t,h=>by
  obtain⟨h1,h2⟩:=mG (t:=t) λq j=>h q (by simp[j])
  exact⟨RDs.cons (h p (by simp)).1 h1,.cons (h p (by simp)).2 h2⟩
section
variable{X:Cx}
theorem lJ{cap:Nat}(S:dh cap)(hu:X.A.units+16<GZ){pins:List (NS×Obj)}{s:q7}{σ:St}{H:Hp}{Q:VK}(I:Inv X pins σ H s){M:Mem}(rm:RM X.K M H){es:List D}{sh:Sh}{vs:List V}{p:NS}(rvs:RDs X.K H es vs)(hok:da sh=NQ)(hsh:∀d∈es,hs sh d=NQ)(q:∀p ys,M p=Y->ys.Perm es->db ys->KE' X.K M H Q (.ref p) (af M p (.lst ys))){its:List gV}(hv:Vals vs its)(hl:vs.length<=D2)(BH:vs.length<=cap)(O:∀(E:gV->q7->Prop) (R:List gV->q7->Prop),(∀(h':Heap) (tk:Nat),(∀b o,s.heap.get? b=Z o->h'.get? b=Z o)->s.toks<=tk->R its {s with heap:=h',toks:=tk})->DU (E9 X.prog X.w) X.A.in1 (collect (.ref p)) R E s):
 DU (E9 X.prog X.w) X.A (call (.builtin "sorted") [.ref p]) (EP X pins σ Q) X.xe s:=by
 obtain⟨hS,L⟩:=mD hok hsh;have BK:=fR hok;obtain⟨t,t1,t2,t3,t4⟩:=mF rvs hv;have U:∀pp∈t,∃as,HX s.heap pp.2.2 (pd pp.1) as:=λpp j=>by
  have hm:pp.1∈es:=by rw[<-t1];exact E6 j
  exact aZ I rm 16 pp.1 (pd pp.1) pp.2.1 pp.2.2 (jE M sh pp.1 16 (hsh _ hm) ∅) (t4 pp j).1 (t4 pp j).2
 have NP:RdL s.heap its (es.map pd):=λu hu=>by rw[<-t3]at hu;obtain⟨pp,j,rfl⟩:=Ej.mp hu;obtain⟨as,ra⟩:=U pp j;exact⟨pd pp.1,E6 (by rw[<-t1];exact E6 j),as,ra⟩
 refine j6 S (m:=7) (ds:=es.map pd) (C:=λh' vs'=>vs'=its/\∀b o,s.heap.get? b=Z o->h'.get? b=Z o) ∅ hS L (λE R hR=>?_) λh1 h2 vs' out n' tk hC old g2 F fv BL BM ht=>?_
 ·refine O E R λh' tk kp BI=>hR h' its tk ⟨rfl,kp⟩ (λu hu=>?_) ⟨by rw[<-hv.length];exact hl,by rw[<-hv.length];exact BH⟩ BI
  obtain⟨d,hd,as,ra⟩:=NP u hu;exact⟨d,hd,as,aK (λb o e _=>kp b o e) (L d hd) ra⟩
 ·obtain⟨rfl,kp⟩:=hC;rw[<-t3]at F;obtain⟨t',p1,p2⟩:=cW (fun pp:D×V×gV=>pp.2.2) F rfl;have hz:=mG (t:=t') fun pp j=>t4 pp (p1.mem_iff.mp j);have BG:∀b o,s.heap.get? b=Z o->h2.get? b=Z o:=fun b o e=>old b o (kp b o e);have z:s.heap.get? h1.objs.size=Y:=by
   cases hq:s.heap.get? h1.objs.size with
   |none=>rfl
   |some o=>exact absurd (D0 (kp _ _ hq)) (EB _)
  have BJ:=I.fresh' z;have hlen:(t'.map (·.2.1)).length<=D2:=by rw[DY,p1.length_eq,<-DY (f:=λpp:D×V×gV=>pp.2.1),t2];exact hl
  have I2:=I.laidN (t':=tk) (h':=h2) (N:=λb=>if b=h1.objs.size then Z (.lst (t'.map (·.2.1)))else Y) BG (λb o e=>by
   by_cases B:b=h1.objs.size
   ·rw[B];exact z
   ·rw[if_neg B]at e;cases e) (λb o e=>by
   by_cases B:b=h1.objs.size
   ·subst B;rw[if_pos rfl]at e;cases e;exact⟨hlen,out,n',by rw[<-p2];exact hz.2,g2⟩
   ·rw[if_neg B]at e;cases e)
  have eH:lay H (λb=>if b=h1.objs.size then Z (.lst (t'.map (·.2.1)))else Y)=upd H h1.objs.size (.lst (t'.map (·.2.1))):=by
   funext b
   unfold lay upd;dsimp only
   by_cases B:b=h1.objs.size
   ·rw[if_pos B,if_pos B]
   ·rw[if_neg B,if_neg B]
  rw[eH]at I2;refine⟨.ref h1.objs.size,_,I2,rfl,?_⟩;refine bO rm hz.1 (λp' n=>q p' _ n ?_ ?_) BJ
  ·have:=p1.map (λpp:D×V×gV=>pp.1);rw[t1]at this;exact this
  ·unfold db;rw[EF];rw[<-p2,EF]at fv;refine fv.imp_of_mem fun {a b} ha B hab=>?_;have rd:∀pp∈t',Fw h2 pp.2.2=pd pp.1:=fun pp j=>by
    have J:=p1.mem_iff.mp j;obtain⟨as,ra⟩:=U pp J;have hm:pp.1∈es:=by rw[<-t1];exact E6 J
    exact Gd (hS.lay _ (E6 hm)).1 (aK (λb o e _=>BG b o e) (L _ (E6 hm)) ra)
   rw[rd a ha,rd b B]at hab;exact hab
end
end Mi
end
namespace Mi
open L2.Srt
noncomputable def kvD(kv:D×D):D:=.tup [kv.1,kv.2]
noncomputable def gM(ta:TEd):TEd:=λρ M Q=>ta ρ M λx M1=>∃a t kvs sh,x=.ref a/\M1 a=Z (.dct t kvs)/\da sh=NQ/\(∀kv∈kvs,hs sh (kvD kv)=NQ)/\∀p ys,M1 p=Y->ys.Perm (kvs.map kvD)->db ys->Q (.ref p) (af M1 p (.lst ys))
theorem oj{ta:TEd}(h:ab ta):ab (gM ta):=λρ M Q Q' i q=>h _ _ _ _ (λx O j=>(by obtain⟨a,t,kvs,sh,e,z,B,F,J⟩:=j;exact⟨a,t,kvs,sh,e,z,B,F,λp ys n L hs=>i _ _ (J p ys n L hs)⟩)) q
def kF(K:Frag)(H:Hp)(kv:D×D)(e:FC):Prop:=∃kV vV,RD K H kv.1 kV/\RelV kV e.key/\RD K H kv.2 vV/\RelV vV e.val
variable{K:Frag}{H:Hp}
theorem mH{d:D}{k:Key}(h:RKey d k):RD K H d (kV k):=by
 cases d<;>first
  |exact h.elim
  |(cases h;first|exact Nr.mpr rfl|exact Nz.mpr rfl)
theorem j7{K:Frag}{H:Hp}:∀{ds:List D} {ks:List Key},EZ RKey ds ks->RDs K H ds (ks.map kV)
 |_,_,.nil=>RDs.nil
 |_,_,.cons r t=>RDs.cons (mH r) (j7 t)
theorem ug{P:Eg}{w:Ez}{K:Frag}{H:Hp}:∀{kvs:List (D×D)} {ps:List (Key×V)} {vs:List (Key×gV)} {es:List FC},EZ (λ(p:D×D) (q:Key×V)=>RKey p.1 q.1/\RD K H p.2 q.2) kvs ps->KV ps vs->Pairs (ay P w) es vs->EZ (kF K H) kvs es
 |_,_,_,_,.nil,.nil,.nil=>.nil
 |_,_,_,_,.cons B t1,.cons F J,.cons h1 h2 t3=>by
  refine .cons ⟨kV _,_,mH B.1,?_,B.2,by rw[h2];exact F.2⟩ (ug t1 J t3)
  rw[<-F.1]at h1
  rcases aD h1 with⟨i,t,j,z⟩|⟨x,t,j,z⟩
  ·rw[j,z];exact⟨t,rfl⟩
  ·rw[j,z];exact⟨t,rfl⟩
theorem uh{P:Eg}{w:Ez}{K:Frag}{H:Hp}:∀{kvs:List (D×D)} {ps:List (List Key×V)} {xs:List (List Key×NS×gV)},EZ (λ(p:D×D) (q:List Key×V)=>RKeys p.1 q.1/\RD K H p.2 q.2) kvs ps->EZ (λ(p:List Key×V) (q:List Key×NS×gV)=>p.1=q.1/\H q.2.1=Z (.tup (p.1.map kV))/\RelV p.2 q.2.2) ps xs->EZ (kF K H) kvs (xs.map (entryOfKey (Hm (ay P w))))
 |_,_,_,.nil,.nil=>.nil
 |kv::_,_,_,.cons z t1,.cons B F=>by
  refine .cons ?_ (uh t1 F);obtain⟨d,v⟩:=kv;have j:=z.1
  cases d<;>first
   |exact j.elim
   |exact⟨.ref _,_,NI ⟨_,_,rfl,B.2.1,j7 j⟩,rfl,z.2,B.2.2⟩
theorem bz{α β:Type}{R:α->β->Prop}:∀{l:List α} {m:List β},EZ R l m->l.length=m.length
 |_,_,.nil=>rfl
 |_,_,.cons _ t=>by simp[bz t]
noncomputable abbrev Rw:=NS×(D×D)×V×V×FC
theorem ui{K:Frag}{H:Hp}{G:NS->FC->Prop}:∀{kvs:List (D×D)} {es:List FC} {us:List gV},EZ (kF K H) kvs es->us.length=es.length->(∀j,j<es.length->∃t e,us[j]?=Z (.ref t)/\es[j]?=Z e/\G t e)->
 ∃L:List Rw,L.map (λr=>Eb r.1)=us/\L.map (λr=>r.2.1)=kvs/\∀r∈L,RD K H r.2.1.1 r.2.2.1/\RelV r.2.2.1 r.2.2.2.2.key/\RD K H r.2.1.2 r.2.2.2.1/\RelV r.2.2.2.1 r.2.2.2.2.val/\G r.1 r.2.2.2.2
 |_,_,us,.nil,B,_=>⟨[],by simp at B;simp[B],rfl,λ_ h=>by simp at h⟩
 |kv::kvs,e::es,us,.cons r t,B,h=>by
  cases us with
  |nil=>simp at B
  |cons u us=>
   obtain⟨L,h1,h2,U⟩:=ui (us:=us) t (by simpa using B) λj NP=>by
    obtain⟨t,e',F,J,O⟩:=h (j+1) (by simpa using NP)
    exact⟨t,e',by simpa using F,by simpa using J,O⟩
   obtain⟨t0,e',F,J,O⟩:=h 0 (by simp)
   simp at F J;subst F J;obtain⟨kV,vV,g1,g2,g3,fv⟩:=r;exact⟨(t0,kv,kV,vV,e)::L,by simp[h1],by simp[h2],λr hr=>by
    rcases DX.mp hr with z|z
    ·rw[z];exact⟨g1,g2,g3,fv,O⟩
    ·exact U r z⟩
theorem sW{L:List Rw}(j:(L.map λr=>r.1).Nodup){r:Rw}(B:r∈L):L.find? (λx=>decide (x.1=r.1))=Z r:=by
 induction L with
 |nil=>simp at B
 |cons x L ih=>
  simp only[Eu,FN]at j
  rcases DX.mp B with z|z
  ·subst z;simp
  ·have:x.1≠r.1:=λe=>j.1 (by rw[e];exact E6 z)
   rw[Hf (by simpa using this)]
   exact ih j.2 z
variable{a:NS}{kvs:List (D×D)}
section
variable{X:Cx}
theorem xI{h:Heap}{P:Eg}{w:Ez}{ps:List (List Key×V)}(ok:ObjOk P w H h a (.dT ps))(pr:EZ (λ(p:D×D) (q:List Key×V)=>RKeys p.1 q.1/\RD K H p.2 q.2) kvs ps):
 ∃cd dd sl es ep,h.get? a=Z {cls:=cd,dict:=dd,data:=.dict es ep,slots:=sl}/\es.size<=D2/\EZ (kF K H) kvs es.toList:=by
 obtain⟨J,B,xs,j,o,es,ep,h1,h2,z,F,L⟩:=ok;obtain⟨cd,dd,dat,sl⟩:=o;dsimp only at z;subst z;have pp:=uh (P:=P) (w:=w) pr j;rw[<-F]at pp;refine⟨cd,dd,sl,es,ep,h1,?_,pp⟩;have:=bz pp;have:=bz pr;simp at *;lia
theorem vN{pins:List (NS×Obj)}{σ:St}{s:q7}{M:Mem}(I:Inv X pins σ H s)(rm:RM X.K M H){t:Bool}(e:M a=Z (.dct t kvs)):
 ∃cd dd sl es ep,s.heap.get? a=Z {cls:=cd,dict:=dd,data:=.dict es ep,slots:=sl}/\es.size<=D2/\EZ (kF X.K H) kvs es.toList/\IsD H a:=by
 have ro:=rm a _ e
 cases t with
 |false=>obtain⟨ps,j,pr⟩:=ro;obtain⟨L,F,vs,B,o,es,ep,h1,h2,z,O,J,U⟩:=I.hok a _ j;obtain⟨cd,dd,dat,sl⟩:=o;dsimp only at z;subst z;have pp:=ug pr B J;refine⟨cd,dd,sl,es,ep,h1,?_,pp,.inl ⟨_,Rd.of j⟩⟩;have:=bz pp;have:=bz pr;simp at *;lia
 |true=>obtain⟨ps,j,pr⟩:=ro;obtain⟨cd,dd,sl,es,ep,h1,h2,z⟩:=xI (I.hok a _ j) pr;exact⟨cd,dd,sl,es,ep,h1,h2,z,.inr ⟨_,Rd.of j⟩⟩
theorem qr{d:NS}{Q:gV->q7->Prop}{A:ED}{E:gV->q7->Prop}{s:q7}{cd:gV}{dd:Option NS}{sl:Array (Option gV)}{es:Array FC}{ep:Nat}{prog:Eg}{w:Ez}(ty:s.TypeIs (.ref d) "dict")(z:(d==FV)=NR)(hd:s.heap.get? d=Z {cls:=cd,dict:=dd,data:=.dict es ep,slots:=sl})(q:Q (.ref s.heap.objs.size) {s with heap:=s.heap.push {cls:=.type "dict_items",data:=.fields #[.ref d]}}):DU (model prog w) A (call (.builtin "dict.items") [.ref d]) Q E s:=by
 have j:cd=.type "dict":=by obtain⟨o,h1,h2⟩:=ty;rw[hd]at h1;cases h1;exact h2
 subst j;refine EH LK ty F.entry_dict_items ?_ (F.args_dict_items_1 _);unfold Fc.«dict.items»
 wp_walk
 exact⟨_,rfl,q⟩
theorem sX{e:Expr}{ta:TEd}{p pos apos cpos:Pos}(hu:X.A.units+16<GZ)(m:ab ta)(hc:X.calm=NQ)(he:PE X e (lE X.K ta))(hg:Gl X "sorted")(hm:X.mg "sorted"=Y)(BJ:JD e "items" X.env (eval e X.env)=eval e X.env)(BK:(apos.endLine==cpos.line)=NQ):
 PE X (.Call (.Name "sorted" p) [.Call (.Attribute e "items" apos) [] [] cpos] [] pos) (lE X.K (gM ta)):=by
 intro pins s σ H Q I h;obtain⟨ρ,M,rs,rm,h⟩:=h;refine Fe (bR I hg hm (u:=.builtin "sorted") (by decide +kernel) ?_ (by decide) (by decide))
 refine GS ?_ rfl rfl;refine Fz ?_;refine wpAny_Call_method0_late BJ BK (thn (he pins s σ H (λv H1=>∃fv a t kvs sh,Ext M H fv H1/\RM X.K fv H1/\v=.ref a/\fv a=Z (.dct t kvs)/\da sh=NQ/\(∀kv∈kvs,hs sh (kvD kv)=NQ)/\∀p ys,fv p=Y->ys.Perm (kvs.map kvD)->db ys->KE' X.K M H Q (.ref p) (af fv p (.lst ys))) I ⟨ρ,M,rs,rm,m _ _ _ _ (λx fv ⟨a,t,kvs,sh,e,e1,e2,e3,q1⟩ v H1 x1 NP BV=>by subst e;exact⟨fv,a,t,kvs,sh,x1,NP,Nt.mp BV,e1,e2,e3,q1⟩) h⟩) λv s1 ⟨x,H1,I1,r1,fv,a,t,kvs,sh,x1,NP,ex,e1,hok,hsh,q⟩=>?_)
 subst ex;obtain rfl:v=Eb a:=r1;obtain⟨cd,dd,sl,es,ep,hd,hz,BN,hD⟩:=vN I1 NP e1;obtain⟨t1,t2,BW⟩:=jQ I1 hD;refine⟨"dict","dict.items",F.plainAttrs_dict,LK,F.type_dict_items,t1,t2,Im rfl (PySem.evalArgs_none ?_)⟩;refine qr t1 BW hd ?_;refine G4 ?_;have kpv:∀b o,s1.heap.get? b=Z o->(s1.heap.push {cls:=EG "dict_items",data:=Mr #[Eb a]}).get? b=Z o:=λb o e=>i2 _ e;obtain⟨hS,BX⟩:=mD (xs:=kvs.map kvD) hok (λd hd=>by obtain⟨kv,BY,rfl⟩:=Ej.mp hd;exact hsh kv BY)
 have U:=fR hok;have BO:∀(h':Heap) (r:Rw),(∀b o,s1.heap.get? b=Z o->h'.get? b=Z o)->r.2.1∈kvs->RD X.K H1 r.2.1.1 r.2.2.1->RelV r.2.2.1 r.2.2.2.2.key->RD X.K H1 r.2.1.2 r.2.2.2.1->RelV r.2.2.2.1 r.2.2.2.2.val->h'.get? r.1=Z {cls:=.type "tuple",data:=.seq #[r.2.2.2.2.key,r.2.2.2.2.val]}->∃as,HX h' (.ref r.1) (pd (kvD r.2.1)) as:=by
  intro h' r kp hm g1 g2 g3 g4 g5;have J:=hsh _ hm
  match sh,J,U with
  |.tup l,J,U=>
   simp only[kvD,hs]at J
   match l,J,U with
   |[sa,sb],J,U=>
    simp only[hss,tv,and_true]at J;simp only[dep,deps]at U;obtain⟨as,ra⟩:=aZ I1 NP 16 _ _ _ _ (jE fv sa _ 16 J.1 ∅) g1 g2
    obtain⟨bs,rb'⟩:=aZ I1 NP 16 _ _ _ _ (jE fv sb _ 16 J.2 ∅) g3 g4
    have ra:=aK (λb o e _=>kp b o e) (gL sa _ J.1).1 ra;have rb':=aK (λb o e _=>kp b o e) (gL sb _ J.2).1 rb';have fin:HX h' (.ref r.1) (.tuple [pd r.2.1.1,pd r.2.1.2]) (as++(bs++[])):=.tuple g5 rfl rfl (.cons ra (.cons rb' .nil));exact⟨_,fin⟩
   |[],J,_=>simp[hss]at J
   |[_],J,_=>simp[hss]at J
   |_::_::_::_,J,_=>simp[hss]at J
  |.int,J,_=>simp[kvD,hs]at J
 refine j6 (cap:=D2) o9 (m:=7) (ds:=(kvs.map kvD).map pd) (C:=λh' us=>(∀b o,s1.heap.get? b=Z o->h'.get? b=Z o)/\∃L:List Rw,L.map (λr=>Eb r.1)=us/\L.map (λr=>r.2.1)=kvs/\us.Nodup/\∀r∈L,RD X.K H1 r.2.1.1 r.2.2.1/\RelV r.2.2.1 r.2.2.2.2.key/\RD X.K H1 r.2.1.2 r.2.2.2.1/\RelV r.2.2.2.1 r.2.2.2.2.val/\h'.get? r.1=Z {cls:=.type "tuple",data:=.seq #[r.2.2.2.2.key,r.2.2.2.2.val]}/\s1.heap.get? r.1=Y) ∅ hS BX (λE R hR=>?_) λh1 h2 us out n' tk hC old g2 BG BP C4 C5 ht=>?_
 ·refine It.collect_view (A:=X.A.in1) (s:={s1 with heap:=s1.heap.push {cls:=EG "dict_items",data:=Mr #[Eb a]}}) (I.ok.hd hc) (DW _ rfl) (kpv _ _ hd) hz λh' us k1 k2 k3 k4=>?_
  obtain⟨L,l1,l2,l3⟩:=ui (G:=λt e=>h'.get? t=Z {cls:=.type "tuple",data:=.seq #[e.key,e.val]}/\s1.heap.get? t=Y) BN (by simpa using k2) λj hj=>by
   obtain⟨t,e,e1,e2,e3,e4⟩:=k4 j (by simpa using hj)
   refine⟨t,e,e1,by rw[DS];exact e2,e3,?_⟩
   cases hq:s1.heap.get? t with
   |none=>rfl
   |some o=>rw[kpv _ _ hq]at e4;cases e4
  refine hR h' us _ ⟨λb o e=>k1 b o (kpv b o e),L,l1,l2,k3,l3⟩ (λu hu=>?_) ⟨by rw[k2];exact hz,by rw[k2];exact hz⟩ (E2 _)
  rw[<-l1]at hu;obtain⟨r,O,rfl⟩:=Ej.mp hu;obtain⟨p1,p2,p3,p4,p5,p6⟩:=l3 r O;have hm:r.2.1∈kvs:=by rw[<-l2];exact E6 O
  obtain⟨as,ra⟩:=BO h' r (λb o e=>k1 b o (kpv b o e)) hm p1 p2 p3 p4 p5;exact⟨_,E6 (E6 hm),as,ra⟩
 ·obtain⟨kp,L,l1,l2,l3,l4⟩:=hC;rw[<-l1]at BG;obtain⟨L',p1,p2⟩:=cW (fun r:Rw=>Eb r.1) BG rfl;have BQ:∀b o,s1.heap.get? b=Z o->h2.get? b=Z o:=fun b o e=>old b o (kp b o e);have B:s1.heap.get? h1.objs.size=Y:=by
   cases hq:s1.heap.get? h1.objs.size with
   |none=>rfl
   |some o=>exact absurd (D0 (kp _ _ hq)) (EB _)
  have BZ:(L.map λr=>r.1).Nodup:=by
   rw[<-l1]at l3;have:(L.map λr=>Eb r.1)=(L.map λr=>r.1).map Eb:=by simp
   rw[this]at l3;exact List.Pairwise.of_map _ (λa b BI he=>BI (by rw[he])) l3
  have BH:∀r∈L',r∈L:=λr O=>p1.mem_iff.mp O;have hp:∀r∈L,r.1≠h1.objs.size:=λr O=>Ep (D0 (l4 r O).2.2.2.2.1)
  let N:NS->Option HO:=λb=>if b=h1.objs.size then Z (.lst (L'.map λr=>V.ref r.1))else(L.find? λx=>decide (x.1=b)).map λr=>.tup [r.2.2.1,r.2.2.2.1]
  have BR:N h1.objs.size=Z (.lst (L'.map λr=>V.ref r.1)):=by show(if _ then _ else _)=_;rw[if_pos rfl]
  have C0:∀r∈L,N r.1=Z (.tup [r.2.2.1,r.2.2.2.1]):=λr O=>by
   show(if _ then _ else _)=_
   rw[if_neg (hp r O),sW BZ O];rfl
  have BL:∀b o,N b=Z o->b=h1.objs.size/\o=.lst (L'.map λr=>V.ref r.1)∨∃r∈L,b=r.1/\o=.tup [r.2.2.1,r.2.2.2.1]:=λb o e=>by
   by_cases hb:b=h1.objs.size
   ·subst hb;rw[BR]at e;cases e;exact .inl ⟨rfl,rfl⟩
   ·right
    have e:((L.find? λx=>decide (x.1=b)).map λr=>HO.tup [r.2.2.1,r.2.2.2.1])=Z o:=by
     have e':(if b=h1.objs.size then Z (HO.lst (L'.map λr=>V.ref r.1))else(L.find? λx=>decide (x.1=b)).map λr=>HO.tup [r.2.2.1,r.2.2.2.1])=Z o:=e
     rw[if_neg hb]at e';exact e'
    cases hf:L.find? λx=>decide (x.1=b)with
    |none=>rw[hf]at e;cases e
    |some r=>rw[hf]at e;cases e;have C1:=List.find?_some hf;exact⟨r,List.mem_of_find?_eq_some hf,(by simpa using C1:r.1=b).symm,rfl⟩
  have oldH:∀b o,H1 b=Z o->lay H1 N b=Z o:=λb o e=>by
   rw[fh]
   ·exact e
   ·cases hq:N b with
    |none=>rfl
    |some o'=>
     obtain⟨ob,eo⟩:=(I1.hok b o e).there
     rcases BL b o' hq with⟨rfl,_⟩|⟨r,O,rfl,_⟩
     ·rw[B]at eo;cases eo
     ·rw[(l4 r O).2.2.2.2.2]at eo;cases eo
  have st:Stab H1 (lay H1 N):=⟨λb xs e=>oldH b _ e,λb o u e=>oldH b _ e⟩;have BM:L'.length=kvs.length:=by rw[p1.length_eq,<-l2];simp
  have C2:=bz BN;have I2:=I1.laidN (t':=tk) (h':=h2) (N:=N) BQ (λb o e=>by
   rcases BL b o e with⟨rfl,_⟩|⟨r,O,rfl,_⟩
   ·exact B
   ·exact(l4 r O).2.2.2.2.2) (λb o e=>by
   rcases BL b o e with⟨rfl,rfl⟩|⟨r,O,rfl,rfl⟩
   ·refine⟨by rw[DY,BM,C2];simpa using hz,out,n',?_,g2⟩
    rw[<-p2];have:∀l:List Rw,Vals (l.map λr=>V.ref r.1) (l.map λr=>Eb r.1):=by
     intro l
     induction l with
     |nil=>exact .nil
     |cons r l ih=>exact .cons rfl ih
    exact this L'
   ·obtain⟨q1,q2,q3,q4,q5,q6⟩:=l4 r O;exact⟨by show 2<=D2;decide,[r.2.2.2.2.key,r.2.2.2.2.val],.cons q2 (.cons q4 .nil),_,old _ _ q5,rfl,0,rfl⟩)
  refine⟨.ref h1.objs.size,_,I2,rfl,?_⟩;have BS:fv h1.objs.size=Y:=NP.out (I1.fresh' B);have BU:RDs X.K (lay H1 N) (L'.map λr=>kvD r.2.1) (L'.map λr=>V.ref r.1):=by
   have:∀l:List Rw,(∀r∈l,r∈L)->RDs X.K (lay H1 N) (l.map λr=>kvD r.2.1) (l.map λr=>V.ref r.1):=by
    intro l
    induction l with
    |nil=>intro _;exact RDs.nil
    |cons r l ih=>
     intro hl;obtain⟨q1,q2,q3,q4,q5,q6⟩:=l4 r (hl r (by simp))
     refine RDs.cons (NI ⟨r.1,_,rfl,ij (C0 r (hl r (by simp))),RDs.cons (q1.mono st) (RDs.cons (q3.mono st) RDs.nil)⟩) (ih λr' C3=>hl r' (by simp[C3]))
   exact this L' BH
  refine q h1.objs.size (L'.map λr=>kvD r.2.1) BS ?_ ?_ (.ref h1.objs.size) (lay H1 N) (x1.trans ⟨λb o _ e=>oldH b o e,λb o n e=>?_⟩) (λa' o' e'=>?_) (Nt.mpr rfl)
  ·have:=p1.map (λr:Rw=>kvD r.2.1);rw[show L.map (λr:Rw=>kvD r.2.1)=(L.map λr=>r.2.1).map kvD by simp,l2]at this
   exact this
  ·unfold db;rw[EF];rw[<-p2,EF]at BP;refine BP.imp_of_mem fun {a b} ha hb BI=>?_;have rd:∀r∈L',Fw h2 (Eb r.1)=pd (kvD r.2.1):=fun r O=>by
    obtain⟨q1,q2,q3,q4,q5,q6⟩:=l4 r (BH r O);have hm:r.2.1∈kvs:=by rw[<-l2];exact E6 (BH r O)
    obtain⟨as,ra⟩:=BO h2 r BQ hm q1 q2 q3 q4 (old _ _ q5);exact Gd (hS.lay _ (E6 (E6 hm))).1 ra
   rw[rd a ha,rd b hb]at BI;exact BI
  ·have hb:b≠h1.objs.size:=fun z=>by
    rw[z,I1.fresh' B]at e;cases e
   exact ah hb
  ·by_cases hz:a'=h1.objs.size
   ·subst hz;rw[ag]at e';cases e';exact⟨_,ij BR,BU⟩
   ·rw[ah hz]at e';exact(NP a' o' e').mono st λho e=>oldH a' ho e
end
section
noncomputable def jF(to tk tx:TEd):TEd:=λρ M Q=>to ρ M λx M1=>∃a t kvs,x=.ref a/\M1 a=Z (.dct t kvs)/\tk ρ M1 λk M2=>tx ρ M2 λz M3=>∃t' kvs',M3 a=Z (.dct t' kvs')/\gy t' k=NQ/\Q ((dget kvs' k).getD z) M3
theorem qt{to tk tx:TEd}(h1:ab to)(h2:ab tk)(B:ab tx):ab (jF to tk tx):=λρ M Q Q' i q=>h1 _ _ _ _ (λx NP j=>(by obtain⟨a,t,kvs,e,F,J⟩:=j;exact⟨a,t,kvs,e,F,h2 _ _ _ _ (λk M2 L=>B _ _ _ _ (λz fv j=>(by obtain⟨t',kvs',O,ok,U⟩:=j;exact⟨t',kvs',O,ok,i _ _ U⟩)) L) J⟩)) q
section
variable{X:Cx}
theorem xJ{M:Mem}(rm:RM K M H){t:Bool}(e:M a=Z (.dct t kvs)):IsD H a:=by
 have ro:=rm a _ e
 cases t with
 |false=>obtain⟨ps,j,_⟩:=ro;exact .inl ⟨_,Rd.of j⟩
 |true=>obtain⟨ps,j,_⟩:=ro;exact .inr ⟨_,Rd.of j⟩
theorem vO{o e f:Expr}{to tk tx:TEd}{apos cpos:Pos}(hu:X.A.units+1<GZ)(mo:ab to)(mk:ab tk)(mx:ab tx)(ho:PE X o (lE X.K to))(he:PE X e (lE X.K tk))(hf:PE X f (lE X.K tx))(m:M2 X o "get" apos e f cpos):
 PE X (.Call (.Attribute o "get" apos) [e,f] [] cpos) (lE X.K (jF to tk tx)):=by
 refine PE.imp (rH hu ho he hf m) λσ H Q h=>?_;obtain⟨ρ,M,rs,rm,q⟩:=h;refine⟨ρ,M,rs,rm,mo _ _ _ _ (λx fv g9 v H1 O j rd1=>?_) q⟩;obtain⟨a,t,kvs,e,e1,q1⟩:=g9;subst e
 cases Nt.mp rd1
 have B:=rs.mono (O.stab rm);refine⟨a,rfl,xJ j e1,ρ,fv,B,j,mk _ _ _ _ (λk M2 q2 v2 H2 U F J=>?_) q1⟩;have L:=B.mono (U.stab j);refine⟨ρ,M2,L,F,mx _ _ _ _ (λz M3 g9 v3 H3 NP rm3 rd3=>?_) q2⟩;obtain⟨t',kvs',e3,ok,q3⟩:=g9;obtain⟨w,g,g1,g2⟩:=mm rm3 e3 ok (J.mono (NP.stab F));refine⟨w,g,?_⟩;refine q3 _ H3 (O.trans (U.trans NP)) rm3 ?_
 cases e4:dget kvs' k with
 |none=>rw[g2 e4];exact rd3
 |some d=>obtain⟨w',e5,r5⟩:=g1 d e4;rw[e5];exact r5
end
end
end Mi
namespace Mi
end Mi
namespace Mi
end Mi
namespace Mi
end Mi
namespace Mi
end Mi
namespace Dk
end Dk
namespace Mi
open L2.Srt
end Mi
namespace Mi
end Mi
namespace Mi
end Mi
namespace Mi
end Mi
namespace Mi
end Mi
namespace Mi
end Mi
namespace Mi
end Mi
namespace Mi
end Mi
namespace Mi
end Mi
namespace Mi
open L2.Srt
end Mi
namespace Srt
open AutoSeq1 (wpAny_loadPart')
open MeetsSeq MeetsSeq2 MeetsSeq3
end Srt
namespace Srt
end Srt
namespace Mi
open L2.Srt
end Mi
namespace ST
noncomputable abbrev Tb:=SetTable
noncomputable abbrev Pb:=SetTable.Probe
noncomputable def ae(t:Tb):Nat->Pb->Pb
 |0,p=>p
 |n+1,p=>ae t n (t.advance p)
theorem bK{t:Tb}:∀(a b:Nat) (p:Pb),ae t (a+b) p=ae t b (ae t a p)
 |0,b,p=>by rw[Hc];rfl
 |a+1,b,p=>by rw[LL];exact bK a b (t.advance p)
variable{p:Pb}
theorem j8{t:Tb}(h:p.dummy=Y):(t.advance p).dummy=Y:=by
 unfold IP
 split
 ·exact h
 ·exact h
theorem gN{t:Tb}:∀(n:Nat) {p:Pb},p.dummy=Y->(ae t n p).dummy=Y
 |0,_,h=>h
 |n+1,_,h=>gN n (j8 h)
theorem mJ{t:Tb}{hashAt:Nat->Int}{h:Int}:∀(m fuel:Nat) (p:Pb),m<fuel->p.dummy=Y->(∀k,k<m->∃i,t.slot (ae t k p).j=.live i)->t.slot (ae t m p).j=.empty->
 (Iy t hashAt h fuel p=Z (.empty (ae t m p).j Y)/\∀k,k<m->∀i,t.slot (ae t k p).j=.live i->hashAt i≠h) ∨
 ∃k i,k<m/\t.slot (ae t k p).j=.live i/\hashAt i=h/\Iy t hashAt h fuel p=Z (.candidate (ae t k p).j i (t.advance (ae t k p)))/\∀k',k'<k->∀i,t.slot (ae t k' p).j=.live i->hashAt i≠h
 |0,fuel+1,p,_,hd,_,he=>by
  refine .inl ⟨?_,λk B=>absurd B (Fx _)⟩;have he:t.slot p.j=.empty:=he;show(match t.slot p.j with|.empty=>_|.dummy=>_|.live i=>_)=_
  rw[he];simp only[hd];rfl
 |m+1,fuel+1,p,hf,hd,J,he=>by
  obtain⟨i,hi⟩:=J 0 (Kd m);have hi:t.slot p.j=.live i:=hi;have e:Iy t hashAt h (fuel+1) p=if hashAt i==h then Z (.candidate p.j i (t.advance p))else Iy t hashAt h fuel (t.advance p):=by
   show(match t.slot p.j with|.empty=>_|.dummy=>_|.live i=>_)=_
   rw[hi]
  by_cases F:hashAt i=h
  ·refine .inr ⟨0,i,Kd m,hi,F,?_,λk B=>absurd B (Fx _)⟩;rw[e,if_pos (by simpa using F)];rfl
  ·rw[e,if_neg (by simpa using F)]
   rcases mJ m fuel (t.advance p) ∅ (j8 hd) (λk B=>J (k+1) ∅) he with⟨h1,h2⟩|⟨k,i',B,h1,h2,L,O⟩
   ·refine .inl ⟨h1,λk B i'' z=>?_⟩
    cases k with
    |zero=>rw[show ae t 0 p=p from rfl,hi]at z;cases z;exact F
    |succ k=>exact h2 k ∅ i'' z
   ·refine .inr ⟨k+1,i',∅,h1,h2,L,λk' U i'' z=>?_⟩
    cases k' with
    |zero=>rw[show ae t 0 p=p from rfl,hi]at z;cases z;exact F
    |succ k'=>exact O k' ∅ i'' z
noncomputable def nxt(mask i:Nat):Nat:=(i*5+1)%(mask+1)
noncomputable def de(mask:Nat):Nat->Nat->Nat
 |0,i=>i
 |n+1,i=>de mask n (nxt mask i)
def Cyc(mask:Nat):Prop:=∀i,i<=mask->∀j,j<=mask->∃n,n<=mask/\de mask n i=j
structure Pok(t:Tb)(p:Pb):Prop where
 i:p.i<=t.mask
 more:p.more<=9
 dm:p.dummy=Y
 je:p.j+p.more<=t.mask
theorem e8{mask i:Nat}(h:i<=mask):Fy mask i<=mask/\i<=Fy mask i/\Fy mask i-i<=9:=by
 unfold Fy
 split<;>lia
noncomputable def ci(t:Tb)(p:Pb):Pb:={j:=(Fs t.mask p.i p.perturb).1,more:=Fy t.mask (Fs t.mask p.i p.perturb).1-(Fs t.mask p.i p.perturb).1,i:=(Fs t.mask p.i p.perturb).1,perturb:=(Fs t.mask p.i p.perturb).2,dummy:=p.dummy}
theorem fS{t:Tb}(h:0<p.more):t.advance p={p with j:=p.j+1,more:=p.more-1}:=by unfold IP;rw[if_pos h]
theorem kG{t:Tb}(h:p.more=0):t.advance p=ci t p:=by unfold IP;rw[if_neg ∅];rfl
theorem dj{t:Tb}:∀(n:Nat) (p:Pb),p.more=n->ae t (n+1) p=ci t p
 |0,p,h=>kG h
 |n+1,p,h=>by show ae t (n+1) (t.advance p)=_;rw[fS ∅,dj n _ (by show p.more-1=n;lia)];rfl
theorem fi{t:Tb}(h:Pok t p):Pok t (ci t p):=by
 have h1:(Fs t.mask p.i p.perturb).1<=t.mask:=by unfold Fs;exact LM (N5 _ (Kd _))
 have h2:=e8 h1;exact⟨h1,h2.2.2,h.dm,by show(Fs t.mask p.i p.perturb).1+(Fy t.mask (Fs t.mask p.i p.perturb).1-(Fs t.mask p.i p.perturb).1)<=t.mask;lia⟩
theorem xK{t:Tb}(h:Pok t p):Pok t (t.advance p):=by
 by_cases hm:0<p.more
 ·rw[fS hm];exact⟨h.i,by have:=h.more;show p.more-1<=9;lia,h.dm,by have:=h.je;show p.j+1+(p.more-1)<=t.mask;lia⟩
 ·rw[kG ∅];exact fi h
theorem mK{t:Tb}:∀(n:Nat) {p:Pb},Pok t p->Pok t (ae t n p)
 |0,_,h=>h
 |n+1,_,h=>mK n (xK h)
noncomputable def aW(t:Tb):Nat->Pb->Pb
 |0,p=>p
 |n+1,p=>aW t n (ci t p)
theorem uj{t:Tb}:∀(n:Nat) (p:Pb),Pok t p->∃m,m<=10*n/\ae t m p=aW t n p
 |0,p,_=>⟨0,E2 _,rfl⟩
 |n+1,p,h=>by
  obtain⟨m,hm,e⟩:=uj n (ci t p) (fi h);refine⟨p.more+1+m,by have:=h.more;lia,?_⟩
  rw[bK,dj _ _ rfl,e];rfl
theorem fT{t:Tb}:∀(n:Nat) {p:Pb},Pok t p->Pok t (aW t n p)
 |0,_,h=>h
 |n+1,_,h=>fT n (fi h)
theorem dD{t:Tb}:∀(n:Nat) (p:Pb),(aW t n p).perturb=p.perturb / 32^n
 |0,p=>by simp[aW]
 |n+1,p=>by show(aW t n (ci t p)).perturb=_;rw[dD n];show p.perturb / 32 / 32^n=_;rw[Nat.div_div_eq_div_mul,Nat.pow_succ,Lz 32]
theorem ik{t:Tb}:∀(n:Nat) (p:Pb),p.perturb=0->(aW t n p).i=de t.mask n p.i
 |0,p,_=>rfl
 |n+1,p,h=>by
  show(aW t n (ci t p)).i=_;rw[ik n _ (by show p.perturb / 32=0;rw[h])]
  show de t.mask n ((p.i*5+1+p.perturb / 32)%(t.mask+1))=_;rw[h];rfl
theorem e9{t:Tb}:∀(a b:Nat) (p:Pb),aW t (a+b) p=aW t b (aW t a p)
 |0,b,p=>by rw[Hc];rfl
 |a+1,b,p=>by rw[LL];exact e9 a b (ci t p)
theorem im{t:Tb}:∀(n:Nat) (p:Pb),(aW t (n+1) p).j=(aW t (n+1) p).i
 |0,_=>rfl
 |n+1,p=>im n (ci t p)
theorem vP{t:Tb}(B:Cyc t.mask)(h:Pok t p)(F:p.perturb<2^64){s:Nat}(hs:s<=t.mask):∃m,m<10*Ff t.mask/\(ae t m p).j=s:=by
 have z:=fT 13 h;have J:(aW t 13 p).perturb=0:=by rw[dD];exact Mj (Er F (by decide))
 obtain⟨n,O,e⟩:=B _ z.i s hs;obtain⟨m,hm,L⟩:=uj (13+n) p h;refine⟨m,by unfold Ff;lia,?_⟩
 rw[L,show 13+n=(12+n)+1 by lia,im,show 12+n+1=13+n by lia,e9,ik _ _ J,e]
theorem kH{t:Tb}{h:Int}:Pok t (t.probeStart h)/\(t.probeStart h).perturb<2^64:=by
 have h1:G0 h%(t.mask+1)<=t.mask:=LM (N5 _ (Kd _));have h2:=e8 h1;refine⟨⟨h1,h2.2.2,rfl,by show G0 h%(t.mask+1)+(Fy t.mask (G0 h%(t.mask+1))-G0 h%(t.mask+1))<=t.mask;lia⟩,?_⟩
 show G0 h<_;unfold G0;have:=Hg h (show(0:Int)<2^64 by decide)
 have:=Ia h (show(2:Int)^64≠0 by decide)
 lia
end ST
namespace ST
noncomputable abbrev Srt(l:List Nat):Prop:=l.Pairwise (· < ·)
variable{j:Nat}
theorem cI{l:List Nat}(h:Srt l){i x y:Nat}(z:i<j)(hx:l[i]?=Z x)(B:l[j]?=Z y):x<y:=by obtain⟨h1,F⟩:=DT.mp hx;obtain⟨h2,J⟩:=DT.mp B;rw[<-F,<-J];exact Jv.mp h i j h1 h2 z
structure At(l:List Nat)(j r:Nat):Prop where
 le:r<=l.length
 lo:∀i x,i<r->l[i]?=Z x->x<j
 hi:∀i x,r<=i->l[i]?=Z x->j<=x
theorem fU{xs:Array Nat}{j:Nat}(hs:Srt xs.toList):∀(fuel lo hi:Nat),hi-lo<=fuel->lo<=hi->hi<=xs.size->(∀i x,i<lo->xs.toList[i]?=Z x->x<j)->(∀i x,hi<=i->xs.toList[i]?=Z x->j<=x)->At xs.toList j (SetTable.below.go xs j fuel lo hi)
 |0,lo,hi,h,h1,h2,B,F=>by
  obtain rfl:lo=hi:=∅
  show At _ _ lo;exact⟨by simpa using h2,B,F⟩
 |fuel+1,lo,hi,h,h1,h2,B,F=>by
  show At _ _ (if lo<hi then _ else lo)
  by_cases hlt:lo<hi
  ·rw[if_pos hlt];dsimp only;have hm:(lo+hi) / 2<xs.size:=by lia
   have z:xs.toList[(lo+hi) / 2]?=Z (xs.toList[(lo+hi) / 2]'(by simpa using hm)):=z4 _
   have hd:xs.getD ((lo+hi) / 2) j=xs.toList[(lo+hi) / 2]'(by simpa using hm):=by simp[Array.getD,hm]
   rw[hd];generalize xs.toList[(lo+hi) / 2]'(by simpa using hm)=y at z
   by_cases hy:y<j
   ·rw[if_pos hy];refine fU hs fuel _ hi ∅ ∅ h2 (λi x J hx=>?_) F
    by_cases e:i=(lo+hi) / 2
    ·subst e;rw[z]at hx;cases hx;exact hy
    ·exact LA (cI hs ∅ hx z) hy
   ·rw[if_neg hy];refine fU hs fuel lo _ ∅ ∅ ∅ B (λi x J hx=>?_)
    by_cases e:i=(lo+hi) / 2
    ·subst e;rw[z]at hx;cases hx;lia
    ·have:=cI hs (show(lo+hi) / 2<i by lia) z hx;lia
  ·rw[if_neg hlt];obtain rfl:lo=hi:=by lia
   exact⟨by simpa using h2,B,F⟩
theorem fV{xs:Array Nat}(hs:Srt xs.toList):At xs.toList j (Ft xs j):=
 fU hs xs.size 0 xs.size ∅ (ER _) (E2 _) (λi x h=>absurd h (Fx _)) (λi x h hx=>by have:=(DT.mp hx).1;simp at this;lia)
theorem At.mem{l:List Nat}{r:Nat}(h:At l j r)(hs:Srt l):j∈l↔l[r]?=Z j:=by
 constructor
 ·intro hm;obtain⟨i,hi⟩:=FR.mp hm;have h1:¬i<r:=λz=>absurd (h.lo i j z hi) (EB _)
  by_cases e:i=r
  ·rw[<-e];exact hi
  ·obtain⟨y,B⟩:∃y,l[r]?=Z y:=⟨_,z4 (by have:=(DT.mp hi).1;lia)⟩
   have h2:=cI hs (show r<i by lia) B hi
   have F:=h.hi r y (E2 _) B;lia
 ·exactλe=>Eh e
theorem At.ins{l:List Nat}{j r:Nat}(h:At l j r)(hs:Srt l)(L:j∉l):Srt (l.take r++j::l.drop r):=by
 show List.Pairwise _ (_++_);rw[z3,Hb];refine⟨hs.sublist (Lu _ _),⟨λx hx=>?_,hs.sublist (List.drop_sublist _ _)⟩,λx hx y J=>?_⟩
 ·obtain⟨i,hi⟩:=FR.mp hx;rw[Gx]at hi;have:=h.hi _ x (IQ r i) hi;have:x≠j:=λz=>L (by rw[<-z];exact Eh hi)
  lia
 ·obtain⟨i,hi⟩:=FR.mp hx;have B:i<r:=by have:=(DT.mp hi).1;rw[Et]at this;lia
  rw[GJ B]at hi;have h1:=h.lo i x B hi
  rcases DX.mp J with rfl|J
  ·exact h1
  ·obtain⟨i',F⟩:=FR.mp J;rw[Gx]at F;have:=h.hi _ y (IQ r i') F;lia
theorem dN{α:Type}{xs:Array α}{p:Nat}{x:α}:(Hx xs p x).toList=xs.toList.take p++x::xs.toList.drop p:=by unfold Hx;simp;exact Gm (by simp)
noncomputable abbrev En:=Nat×Int×gV
structure Good(t:Tb)(es:Array (Int×gV))(L:List En):Prop where
 place:t.place.toList=L.map (·.1)
 ents:es.toList=L.map (·.2)
 srt:Srt (L.map (·.1))
 le:∀x∈L,x.1<=t.mask
 dm:t.dummies=#[]
 cyc:Cyc t.mask
 odd:t.mask%2=1
 reach:∀x∈L,∃m,(ae t m (t.probeStart x.2.1)).j=x.1/\∀k,k<m->(ae t k (t.probeStart x.2.1)).j∈L.map (·.1)
variable{es:Array (Int×gV)}{L:List En}
theorem Good.size{t:Tb}(h:Good t es L):t.place.size=L.length/\es.size=L.length:=by have h1:=congrArg Gr h.place;have h2:=congrArg Gr h.ents;rw[Ei,DY]at h1 h2;exact⟨h1,h2⟩
theorem kI:SetTable.has #[] j=NR:=rfl
theorem Good.slot{t:Tb}(h:Good t es L)(j:Nat):(j∉L.map (·.1)/\t.slot j=.empty)∨∃i x,L[i]?=Z x/\x.1=j/\t.slot j=.live i:=by
 have hs:Srt t.place.toList:=by rw[h.place];exact h.srt
 have B:=fV (xs:=t.place) (j:=j) hs;rw[h.place]at B;unfold SetTable.slot;have eg:t.place[Ft t.place j]?=(L.map (·.1))[Ft t.place j]?:=by rw[<-h.place,DS]
 by_cases hm:j∈L.map (·.1)
 ·have e:=(B.mem h.srt).mp hm
  right
  rw[Em]at e;obtain⟨x,hx,F⟩:=Ip.mp e;refine⟨_,x,hx,F,?_⟩;dsimp only;rw[eg,Em,hx];simp[F]
 ·left
  refine⟨hm,?_⟩;dsimp only;have e:(L.map (·.1))[Ft t.place j]?≠Z j:=λz=>hm ((B.mem h.srt).mpr z);rw[eg,h.dm,kI];rw[if_neg (by simpa using e)]
  rfl
theorem Good.free{t:Tb}(h:Good t es L)(hf:L.length<=t.mask){p:Pb}(NP:Pok t p)(fv:p.perturb<2^64):∃m,m<10*Ff t.mask/\(ae t m p).j<=t.mask/\(ae t m p).j∉L.map (·.1)/\∀k,k<m->(ae t k p).j∈L.map (·.1):=by
 obtain⟨s,hs,J⟩:∃s,s<=t.mask/\s∉L.map (·.1):=by
  refine FQ λz=>?_;have F:∀s,s<=t.mask->s∈L.map (·.1):=λs hs=>FQ λz2=>z ⟨s,hs,z2⟩;have g:∀n,n<=t.mask+1->n<=((L.map (·.1)).filter (· < n)).length:=by
   intro n
   induction n with
   |zero=>intro _;exact ER _
   |succ n ih=>
    intro J;have i1:=ih ∅
    have hm:=F n ∅
    have hd:((L.map (·.1)).filter (· < n)).length<((L.map (·.1)).filter (· < n+1)).length:=by
     have B:((L.map (·.1)).filter (· < n)).Sublist ((L.map (·.1)).filter (· < n+1)):=by
      have:(L.map (·.1)).filter (· < n)=((L.map (·.1)).filter (· < n+1)).filter (· < n):=by rw[List.filter_filter];congr 1;funext x;rw[MR];simp;lia
      rw[this];exact HN
     refine Nat.lt_of_le_of_ne B.length_le λe=>?_;have e2:=B.eq_of_length e;have:n∈(L.map (·.1)).filter (· < n):=by rw[e2];exact G9.mpr ⟨hm,by simp⟩
     have:=(G9.mp this).2;simp at this
    lia
  have g1:=g (t.mask+1) (E2 _);have g2:=FT (· < t.mask+1) (L.map (·.1));rw[DY]at g2;lia
 obtain⟨m,hm,e⟩:=vP h.cyc NP fv hs;have key:∀n,(ae t n p).j∉L.map (·.1)->∃m,m<=n/\(ae t m p).j∉L.map (·.1)/\∀k,k<m->(ae t k p).j∈L.map (·.1):=by
  intro n
  induction n using Nat.strongRecOn with
  |_ n ih=>
   intro J
   by_cases hx:∃k,k<n/\(ae t k p).j∉L.map (·.1)
   ·obtain⟨k,O,h2⟩:=hx;obtain⟨m,h3,U⟩:=ih k O h2;exact⟨m,∅,U⟩
   ·exact⟨n,E2 _,J,λk O=>FQ λz=>hx ⟨k,O,z⟩⟩
 obtain⟨m',h3,U,h5⟩:=key m (by rw[e];exact J)
 exact⟨m',∅,by have:=(mK m' NP).je;lia,U,h5⟩
end ST
namespace ST
theorem kJ{t t':Tb}(e:t'.mask=t.mask)(p:Pb):t'.advance p=t.advance p:=by unfold IP;rw[e]
theorem bP{t t':Tb}(e:t'.mask=t.mask):∀(n:Nat) (p:Pb),ae t' n p=ae t n p
 |0,_=>rfl
 |n+1,p=>by show ae t' n (t'.advance p)=ae t n (t.advance p);rw[kJ e,bP e n]
theorem bX{t t':Tb}(e:t'.mask=t.mask)(h:Int):t'.probeStart h=t.probeStart h:=by unfold J8;rw[e]
theorem sY{t:Tb}{j:Nat}:(t.put j).1.mask=t.mask/\(t.put j).1.led=t.led/\(t.put j).1.plain=t.plain/\(t.put j).1.finger=t.finger/\(t.put j).1.moves=t.moves:=⟨rfl,rfl,rfl,rfl,rfl⟩
theorem io{α β:Type}{f:α->β}{l:List α}{x:α}{r:Nat}:(l.take r++x::l.drop r).map f=(l.map f).take r++f x::(l.map f).drop r:=by rw[GD,Eu,List.map_take,List.map_drop]
theorem sZ{α:Type}{l:List α}{x:α}{r:Nat}:(l.take r++x::l.drop r).Perm (x::l):=by
 have:=JQ (a:=x) (l₁:=l.take r) (l₂:=l.drop r)
 rwa[F7]at this
theorem Good.put{t:Tb}{es:Array (Int×gV)}{L:List En}(h:Good t es L){hsh:Int}{x:gV}{m:Nat}(O:(ae t m (t.probeStart hsh)).j<=t.mask)(U:(ae t m (t.probeStart hsh)).j∉L.map (·.1))(fv:∀k,k<m->(ae t k (t.probeStart hsh)).j∈L.map (·.1)):
 ∃L':List En,L'.Perm (((ae t m (t.probeStart hsh)).j,hsh,x)::L)/\Good (t.put (ae t m (t.probeStart hsh)).j).1 (Hx es (t.put (ae t m (t.probeStart hsh)).j).2 (hsh,x)) L':=by
 generalize J:(ae t m (t.probeStart hsh)).j=j at O U;have hs:Srt t.place.toList:=by rw[h.place];exact h.srt
 have NP:=fV (xs:=t.place) (j:=j) hs;rw[h.place]at NP;have ep:(t.put j).2=Ft t.place j:=rfl;have z:=sZ (l:=L) (x:=((j,hsh,x):En)) (r:=Ft t.place j);have em:∀s,s∈L.map (·.1)->s∈(L.take (Ft t.place j)++(j,hsh,x)::L.drop (Ft t.place j)).map (·.1):=λs hs=>(z.map _).mem_iff.mpr (Ee _ hs);refine⟨_,z,⟨?_,?_,?_,λy B=>?_,?_,h.cyc,h.odd,λy B=>?_⟩⟩
 ·show(Hx t.place (Ft t.place j) j).toList=_;rw[dN,io,h.place]
 ·rw[ep,dN,io,h.ents]
 ·rw[io];exact NP.ins h.srt U
 ·rcases DX.mp (z.mem_iff.mp B)with rfl|B
  ·exact O
  ·exact h.le y B
 ·show(if SetTable.has t.dummies j=NQ then _ else t.dummies)=_
  rw[h.dm,kI];rfl
 ·rcases DX.mp (z.mem_iff.mp B)with rfl|B
  ·refine⟨m,?_,λk F=>?_⟩
   ·rw[bX (t:=t) (t':=(t.put j).1) rfl,bP (t:=t) (t':=(t.put j).1) rfl];exact J
   ·rw[bX (t:=t) (t':=(t.put j).1) rfl,bP (t:=t) (t':=(t.put j).1) rfl];exact em _ (fv k F)
  ·obtain⟨m',h1,h2⟩:=h.reach y B;refine⟨m',?_,λk F=>?_⟩
   ·rw[bX (t:=t) (t':=(t.put j).1) rfl,bP (t:=t) (t':=(t.put j).1) rfl];exact h1
   ·rw[bX (t:=t) (t':=(t.put j).1) rfl,bP (t:=t) (t':=(t.put j).1) rfl];exact em _ (h2 k F)
structure Own(t:Tb)(hs:List Int)(ow:Array (Option Nat))(n:Nat):Prop where
 size:ow.size=t.mask+1
 lt:∀(j i:Nat),ow[j]?=Z (Z i)->i<n
 one:∀i,i<n->∃j:Nat,ow[j]?=Z (Z i)
 uniq:∀j j' i:Nat,ow[j]?=Z (Z i)->ow[j']?=Z (Z i)->j=j'
 reach:∀(j i:Nat),ow[j]?=Z (Z i)->∃h m,hs[i]?=Z h/\(ae t m (t.probeStart h)).j=j/\∀k,k<m->∃i',ow[(ae t k (t.probeStart h)).j]?=Z (Z i')
theorem gO{t:Tb}:∀(k:Nat) (p:Pb),k<=p.more->(ae t k p).j=p.j+k
 |0,_,_=>rfl
 |k+1,p,h=>by
  show(ae t k (t.advance p)).j=_;rw[fS ∅,gO k _ (by show k<=p.more-1;lia)]
  show p.j+1+k=_;lia
theorem j9{t:Tb}{ow:Array (Option Nat)}(hsz:ow.size=t.mask+1):∀(fuel:Nat) (p:Pb),Pok t p->p.j=p.i->p.more=Fy t.mask p.i-p.i->(∃r,r<fuel/\ow[(aW t r p).j]?=Z Y)->
 ∃N,Gp t.mask ow fuel p.i p.perturb=Z (ae t N p).j/\ow[(ae t N p).j]?=Z Y/\∀k,k<N->∃i',ow[(ae t k p).j]?=Z (Z i')
 |0,p,_,_,_,⟨r,h,_⟩=>absurd h (Fx _)
 |fuel+1,p,NP,O,hm,⟨r,hr,hn⟩=>by
  have BG:=e8 NP.i;have val:∀k,k<=p.more->∃o,ow[p.i+k]?=Z o/\ow.getD (p.i+k) (Z 0)=o:=λk z=>by
   have B:p.i+k<ow.size:=by have:=NP.je;lia
   exact⟨ow[p.i+k],by simp[B],by simp[Array.getD,B]⟩
  have unf:Gp t.mask ow (fuel+1) p.i p.perturb=match(FW (Fy t.mask p.i+1-p.i)).find? λk=>(ow.getD (p.i+k) (Z 0)).isNone with
   |some k=>Z (p.i+k)
   |none=>Gp t.mask ow fuel (Fs t.mask p.i p.perturb).1 (Fs t.mask p.i p.perturb).2:=by
   rfl
  have hlen:Fy t.mask p.i+1-p.i=p.more+1:=∅
  rw[hlen]at unf
  cases hf:(FW (p.more+1)).find? λk=>(ow.getD (p.i+k) (Z 0)).isNone with
  |some k=>
   rw[hf]at unf;obtain⟨h1,h2,h3⟩:=List.find?_range_eq_some.mp hf;have z:k<=p.more:=by have:=FH.mp h2;lia
   refine⟨k,?_,?_,λk' fv=>?_⟩
   ·rw[unf,gO k p z,O]
   ·rw[gO k p z,O];obtain⟨o,F,J⟩:=val k z;rw[J]at h1;rw[F];cases o with
    |none=>rfl
    |some _=>simp at h1
   ·have L:=h3 k' fv;rw[gO k' p ∅,O]
    obtain⟨o,F,J⟩:=val k' ∅
    rw[J]at L
    cases o with
    |none=>simp at L
    |some i'=>exact⟨i',F⟩
  |none=>
   rw[hf]at unf;have h1:=List.find?_range_eq_none.mp hf;have occ:∀k,k<=p.more->∃i',ow[(ae t k p).j]?=Z (Z i'):=λk z=>by
    have L:=h1 k ∅
    rw[gO k p z,O];obtain⟨o,F,J⟩:=val k z;rw[J]at L
    cases o with
    |none=>simp at L
    |some i'=>exact⟨i',F⟩
   cases r with
   |zero=>
    obtain⟨i',U⟩:=occ 0 (ER _);rw[show ae t 0 p=aW t 0 p from rfl,hn]at U
    cases U
   |succ r=>
    obtain⟨N,U,h6,h7⟩:=j9 hsz fuel (ci t p) (fi NP) rfl rfl ⟨r,∅,hn⟩
    refine⟨p.more+1+N,?_,?_,λk z=>?_⟩
    ·rw[unf,bK,dj _ _ rfl,<-U];rfl
    ·rw[bK,dj _ _ rfl];exact h6
    ·by_cases hk2:k<=p.more
     ·exact occ k hk2
     ·obtain⟨k2,rfl⟩:∃k2,k=p.more+1+k2:=⟨k-(p.more+1),∅⟩
      rw[bK,dj _ _ rfl];exact h7 k2 ∅
theorem t5{t:Tb}(B:Cyc t.mask){p:Pb}(h:Pok t p)(F:p.perturb<2^64){s:Nat}(hs:s<=t.mask):∃r,r<Ff t.mask/\(aW t r p).j=s:=by
 have z:=fT 13 h;have J:(aW t 13 p).perturb=0:=by rw[dD];exact Mj (Er F (by decide))
 obtain⟨n,L,e⟩:=B _ z.i s hs;refine⟨13+n,by unfold Ff;lia,?_⟩
 rw[show 13+n=(12+n)+1 by lia,im,show 12+n+1=13+n by lia,e9,ik _ _ J,e]
theorem uk:∀{l:List Nat} {n:Nat},l.Nodup->(∀x∈l,x<n)->l.length<=n
 |l,0,_,h=>by
  cases l with
  |nil=>exact E2 _
  |cons a l=>exact absurd (h a Ey) (Fx _)
 |l,n+1,j,h=>by
  have ih:=uk (l:=l.erase n) (n:=n) (j.erase n) λx hx=>by
   have h1:=h x (List.mem_of_mem_erase hx);have h2:x≠n:=λz=>by subst z;exact j.not_mem_erase hx
   lia
  have:=List.length_erase_le (a:=n) (l:=l)
  by_cases hm:n∈l
  ·rw[List.length_erase_of_mem hm]at ih;lia
  ·rw[List.erase_of_not_mem hm]at ih;lia
theorem Own.left{t:Tb}{hs:List Int}{ow:Array (Option Nat)}{n:Nat}(h:Own t hs ow n)(O:n<=t.mask):∃s,s<=t.mask/\ow[s]?=Z Y:=by
 refine FQ λz=>?_;have j:∀s,s<=t.mask->∃i,ow[s]?=Z (Z i):=λs hs=>by
  have B:s<ow.size:=by rw[h.size];lia
  cases e:ow[s]with
  |none=>exact absurd ⟨s,hs,by simp[B,e]⟩ z
  |some i=>exact⟨i,by simp[B,e]⟩
 have L:=uk (l:=(FW (t.mask+1)).map λs=>(ow.getD s Y).getD 0) (n:=n) ?_ ?_
 ·simp at L;lia
 ·rw[Fg,EF];refine List.pairwise_lt_range.imp_of_mem λ{a b} ha hb hab e=>?_;obtain⟨i,hi⟩:=j a (by have:=FH.mp ha;lia)
  obtain⟨i',F⟩:=j b (by have:=FH.mp hb;lia)
  have ea:ow.getD a Y=Z i:=by rw[Ew,hi];rfl
  have eb:ow.getD b Y=Z i':=by rw[Ew,F];rfl
  rw[ea,eb]at e;have e:i=i':=e;subst e;have:=h.uniq _ _ _ hi F;lia
 ·intro x hx;obtain⟨s,J,rfl⟩:=Ej.mp hx;obtain⟨i,hi⟩:=j s (by have:=FH.mp J;lia)
  have ea:ow.getD s Y=Z i:=by rw[Ew,hi];rfl
  rw[ea];exact h.lt _ _ hi
theorem Own.step{t:Tb}(fv:Cyc t.mask){hs:List Int}{ow:Array (Option Nat)}{n:Nat}(h:Own t hs ow n)(hn:n<=t.mask){x:Int}(hx:hs[n]?=Z x):
 ∃j,Gp t.mask ow (Ff t.mask) (G0 x%(t.mask+1)) (G0 x)=Z j/\Own t hs (ow.setIfInBounds j (Z n)) (n+1):=by
 obtain⟨s,L,O⟩:=h.left hn;obtain⟨NP,hb⟩:=kH (t:=t) (h:=x);obtain⟨r,hr,er⟩:=t5 fv NP hb L;obtain⟨N,h1,h2,h3⟩:=j9 h.size (Ff t.mask) (t.probeStart x) NP rfl rfl ⟨r,hr,by rw[er];exact O⟩
 refine⟨_,h1,?_⟩;generalize hj:(ae t N (t.probeStart x)).j=j at h2;have U:j<ow.size:=by have:=(HE.mp h2).1;exact this
 have get:∀k,(ow.setIfInBounds j (Z n))[k]?=if j=k then Z (Z n)else ow[k]?:=λk=>by
  rw[Array.getElem?_setIfInBounds]
  by_cases e:j=k
  ·subst e;simp[U]
  ·simp[e]
 have keep:∀k i,ow[k]?=Z (Z i)->(ow.setIfInBounds j (Z n))[k]?=Z (Z i):=λk i e=>by rw[get,if_neg (λz=>by rw[<-z,h2]at e;cases e)];exact e
 refine⟨by rw[Array.size_setIfInBounds];exact h.size,λk i e=>?_,λi hi=>?_,λa b i ea eb=>?_,λk i e=>?_⟩
 ·rw[get]at e
  by_cases B:j=k
  ·rw[if_pos B]at e;cases e;lia
  ·rw[if_neg B]at e;have:=h.lt _ _ e;lia
 ·by_cases e:i=n
  ·subst e;exact⟨j,by rw[get,if_pos rfl]⟩
  ·obtain⟨k,hk⟩:=h.one i ∅
   exact⟨k,keep _ _ hk⟩
 ·rw[get]at ea eb
  by_cases e1:j=a
  ·by_cases B:j=b
   ·lia
   ·rw[if_pos e1]at ea;rw[if_neg B]at eb
    cases ea
    have:=h.lt _ _ eb;lia
  ·by_cases B:j=b
   ·rw[if_neg e1]at ea;rw[if_pos B]at eb
    cases eb
    have:=h.lt _ _ ea;lia
   ·rw[if_neg e1]at ea;rw[if_neg B]at eb;exact h.uniq _ _ _ ea eb
 ·rw[get]at e
  by_cases B:j=k
  ·rw[if_pos B]at e;cases e;refine⟨x,N,hx,by rw[hj,B],λk' F=>?_⟩
   obtain⟨i',J⟩:=h3 k' F;exact⟨i',keep _ _ J⟩
  ·rw[if_neg B]at e;obtain⟨y,m,a1,a2,a3⟩:=h.reach _ _ e;refine⟨y,m,a1,a2,λk' F=>?_⟩;obtain⟨i',J⟩:=a3 k' F;exact⟨i',keep _ _ J⟩
end ST
namespace ST
theorem Own.nil{t:Tb}{hs:List Int}:Own t hs (Ib (t.mask+1) Y) 0:=by
 have e:∀(j i:Nat),(Ib (t.mask+1) (Y:Option Nat))[j]?=Z (Z i)->False:=λj i e=>by
  rw[Array.getElem?_replicate]at e
  split at e<;>simp at e
 exact⟨Array.size_replicate,λj i h=>(e j i h).elim,λi h=>absurd h (Fx _),λj j' i h=>(e j i h).elim,λj i h=>(e j i h).elim⟩
theorem kK{t:Tb}(B:Cyc t.mask):∀(l pre:List Int) (ow:Array (Option Nat)),(pre++l).length<=t.mask+1->Own t (pre++l) ow pre.length->
 ∃ow',l.foldl (λ(acc:Option (Array (Option Nat)×Nat)) h=>do
  let(owner,k) <-acc
  let j <-Gp t.mask owner (Ff t.mask) (G0 h%(t.mask+1)) (G0 h)
  pure (owner.setIfInBounds j (Z k),k+1)) (Z (ow,pre.length))=Z (ow',(pre++l).length)/\Own t (pre++l) ow' (pre++l).length
 |[],pre,ow,z,h=>⟨ow,by simp,by simpa using h⟩
 |x::l,pre,ow,z,h=>by
  obtain⟨j,J,F⟩:=h.step B (by simp at z;lia) (x:=x) (by simp)
  have ea:pre++x::l=(pre++[x])++l:=by simp
  rw[ea]at F z⊢;obtain⟨ow',L,O⟩:=kK B l (pre++[x]) (ow.setIfInBounds j (Z pre.length)) z (by simpa using F)
  refine⟨ow',?_,O⟩;rw[<-L,J2];congr 1;show(Option.bind (Z (ow,pre.length)) _)=_;rw[JR];dsimp only;rw[J];simp
theorem xL{t:Tb}(j:Cyc t.mask){hs:Array Int}(z:hs.size<=t.mask+1):∃ow,JA t.mask hs=Z ow/\Own t hs.toList ow hs.size:=by
 obtain⟨ow,h1,h2⟩:=kK (t:=t) j hs.toList [] (Ib (t.mask+1) Y) (by simpa using z) Own.nil
 refine⟨ow,?_,by simpa using h2⟩
 unfold JA;rw[<-Array.foldl_toList];rw[show(Z (Ib (t.mask+1) Y,0):Option (Array (Option Nat)×Nat))=Z (Ib (t.mask+1) Y,([]:List Int).length)from rfl,h1];rfl
noncomputable def lv(mask:Nat)(ow:Array (Option Nat)):List (Nat×Nat):=(FW (mask+1)).filterMap λj=>(ow.getD j Y).map (j,·)
variable{mask:Nat}{ow:Array (Option Nat)}
theorem mem_lv{j i:Nat}:(j,i)∈lv mask ow↔j<=mask/\ow[j]?=Z (Z i):=by
 unfold lv;rw[Jf];constructor
 ·rintro⟨k,B,e⟩;obtain⟨i',z,F⟩:=Ip.mp e
  cases F
  refine⟨by have:=FH.mp B;lia,?_⟩
  rw[Ew]at z
  cases e3:ow[j]? with
  |none=>rw[e3]at z;cases z
  |some o=>rw[e3]at z;exact congrArg Z z
 ·rintro⟨h1,h2⟩;refine⟨j,FH.mpr ∅,?_⟩
  rw[Ew,h2];rfl
theorem kL{g:Nat->Option Nat}:∀(l:List Nat),(l.filterMap λj=>(g j).map (j,·)).map (·.1)=l.filter λj=>(g j).isSome
 |[]=>rfl
 |a::l=>by
  rw[GP,List.filter_cons]
  cases g a with
  |none=>exact kL l
  |some i=>show a::_=a::_;rw[kL l]
theorem qv:Srt ((lv mask ow).map (·.1)):=by unfold lv Srt;rw[kL];exact List.pairwise_lt_range.sublist HN
theorem vQ{t:Tb}{hs:List Int}{n:Nat}(h:Own t hs ow n):((lv t.mask ow).map (·.2)).Perm (FW n):=by
 refine(List.perm_ext_iff_of_nodup ?_ List.nodup_range).mpr λi=>?_
 ·rw[Fg,EF];have F:(lv t.mask ow).Pairwise λa b=>a.1<b.1:=by have:=qv (mask:=t.mask) (ow:=ow);unfold Srt at this;rwa[EF]at this
  refine F.imp_of_mem λ{a b} ha hb z e=>?_;obtain⟨a1,a2⟩:=a;obtain⟨b1,J⟩:=b;have e:a2=J:=e;subst e;have L:=h.uniq _ _ _ (mem_lv.mp ha).2 (mem_lv.mp hb).2;have z:a1<b1:=z;lia
 ·rw[Ej,FH];constructor
  ·rintro⟨⟨j,i'⟩,hm,rfl⟩;exact h.lt _ _ (mem_lv.mp hm).2
  ·intro hi;obtain⟨j,B⟩:=h.one i hi;refine⟨(j,i),mem_lv.mpr ⟨?_,B⟩,rfl⟩;have:=(HE.mp B).1;rw[h.size]at this;lia
noncomputable def ee(es:Array (Int×gV))(l:List (Nat×Nat)):List En:=l.map λp=>(p.1,es.getD p.2 default)
theorem t6{T t:Tb}(e:T.mask=t.mask)(n:Nat)(h:Int):ae T n (T.probeStart h)=ae t n (t.probeStart h):=by rw[bX e,bP e]
theorem vR{finger moves:Nat}{led plain:Bool}{es:Array (Int×gV)}(U:Cyc mask)(z:mask%2=1)(NP:es.size<=mask+1):
 ∃(t':Tb) (ord:Array Nat),SetTable.laid mask finger moves led plain (es.map (·.1))=Z (t',ord)/\t'.mask=mask/\t'.finger=finger/\t'.moves=moves/\t'.led=led/\t'.plain=plain/\∃L:List En,ord.toList.map (λi=>es.getD i default)=L.map (·.2)/\(L.map (·.2)).Perm es.toList/\Good t' (ord.map λi=>es.getD i default) L/\(∀i∈ord.toList,i<es.size):=by
 let t:Tb:={mask,place:=#[],dummies:=#[],finger,led,moves,plain}
 obtain⟨ow,h1,h2⟩:=xL (t:=t) U (hs:=es.map (·.1)) (by simpa using NP)
 have h1:JA mask (es.map (·.1))=Z ow:=h1;have B:=vQ h2;have F:∀p∈lv mask ow,p.2<es.size:=λp J=>by have:=h2.lt _ _ (mem_lv.mp (show(p.1,p.2)∈lv t.mask ow from J)).2;simpa using this
 refine⟨{mask,place:=((lv mask ow).map (·.1)).toArray,dummies:=#[],finger,led,moves,plain},((lv mask ow).map (·.2)).toArray,?_,rfl,rfl,rfl,rfl,rfl,ee es (lv mask ow),?_,?_,⟨?_,?_,?_,?_,rfl,U,z,?_⟩,?_⟩
 ·unfold SetTable.laid;rw[h1];rfl
 ·simp[ee]
 ·have fv:(ee es (lv mask ow)).map (·.2)=((lv mask ow).map (·.2)).map λi=>es.getD i default:=by simp[ee]
  have e2:es.toList=(FW es.size).map λi=>es.getD i default:=by
   apply Iu;intro i;rw[Em,DS]
   by_cases hi:i<es.size
   ·rw[KW hi,DV hi];show Z es[i]=Z (es.getD i default);rw[Ew,DV hi];rfl
   ·rw[He ∅,IF (by simp;lia)];rfl
  rw[fv,e2];have:(es.map (·.1)).size=es.size:=by simp
  rw[this]at B;exact B.map _
 ·simp[ee]
 ·simp[ee]
 ·have e:(ee es (lv mask ow)).map (·.1)=(lv mask ow).map (·.1):=by simp[ee]
  rw[e];exact qv
 ·intro x hx;obtain⟨p,J,rfl⟩:=Ej.mp hx;exact(mem_lv.mp (show(p.1,p.2)∈lv mask ow from J)).1
 ·intro x hx;obtain⟨⟨j,i⟩,J,rfl⟩:=Ej.mp hx;obtain⟨h,m,g1,g2,g3⟩:=h2.reach j i (mem_lv.mp J).2;have eh:(es.getD i default).1=h:=by
   rw[DS,Lk]at g1;rw[Ew]
   cases e:es[i]? with
   |none=>rw[e]at g1;cases g1
   |some v=>rw[e]at g1;cases g1;rfl
  have key:=t6 (T:={mask,place:=((lv mask ow).map (·.1)).toArray,dummies:=#[],finger,led,moves,plain}) (t:=t) rfl;refine⟨m,?_,λk hk=>?_⟩
  ·show(ae _ m (J8 _ (es.getD i default).1)).j=j;rw[eh,key];exact g2
  ·show(ae _ k (J8 _ (es.getD i default).1)).j∈_;rw[eh,key];obtain⟨i',O⟩:=g3 k hk;have hm:(_,i')∈lv mask ow:=mem_lv.mpr ⟨?_,O⟩
   ·exact Ej.mpr ⟨_,Ej.mpr ⟨_,hm,rfl⟩,rfl⟩
   ·have:=(HE.mp O).1;have e:=h2.size;have e:ow.size=mask+1:=e;lia
 ·intro i hi;simp at hi;obtain⟨a,ha⟩:=hi;exact F _ ha
end ST
namespace ST
variable{es:Array (Int×gV)}{L:List En}
section
variable{prog:Eg}{w:Ez}{K:Type}[DecidableEq K]{knd:Hl prog w K}
variable{A:ED}{E:gV->q7->Prop}{s:q7}
noncomputable def hAt(es:Array (Int×gV))(i:Nat):Int:=(es[i]?.map (·.1)).getD 0
theorem Good.fits{t:Tb}(h:Good t es L)(hf:L.length<=t.mask):t.fits es.size=NQ:=by obtain⟨h1,h2⟩:=h.size;unfold L7 SetTable.fill;rw[h.dm];simp[h1,h2,hf]
theorem Good.stands{t:Tb}(h:Good t es L)(hf:L.length<=t.mask):t.gaveWay=NR:=by unfold SetTable.gaveWay;have:=h.odd;simp[this]
theorem Good.live{t:Tb}(h:Good t es L){i:Nat}{x:En}(hx:L[i]?=Z x):t.slot x.1=.live i:=by
 rcases h.slot x.1 with⟨h1,_⟩|⟨i',y,h1,h2,F⟩
 ·exact absurd (E6 (Eh hx)) h1
 ·have j:(L.map (·.1))[i]?=Z x.1:=by rw[Em,hx];rfl
  have B:(L.map (·.1))[i']?=Z x.1:=by rw[Em,h1];exact congrArg Z h2
  have hi:i=i':=by
   rcases JB i i' with z|z|z
   ·exact absurd (cI h.srt z j B) (EB _)
   ·exact z
   ·exact absurd (cI h.srt z B j) (EB _)
  rw[hi];exact F
theorem t7{t:Tb}(G:Good t es L){h:Int}{n m:Nat}(NP:n<=m)(hm:m<10*Ff t.mask)(z:(ae t m (t.probeStart h)).j∉L.map (·.1))(B:∀k,k<m->(ae t k (t.probeStart h)).j∈L.map (·.1)):
 (t.probe (hAt es) h (ae t n (t.probeStart h))=Z (.empty (ae t m (t.probeStart h)).j Y)/\∀k,n<=k->k<m->∀i,t.slot (ae t k (t.probeStart h)).j=.live i->hAt es i≠h) ∨
 ∃k i,n<=k/\k<m/\t.slot (ae t k (t.probeStart h)).j=.live i/\hAt es i=h/\t.probe (hAt es) h (ae t n (t.probeStart h))=Z (.candidate (ae t k (t.probeStart h)).j i (ae t (k+1) (t.probeStart h)))/\∀k',n<=k'->k'<k->∀i,t.slot (ae t k' (t.probeStart h)).j=.live i->hAt es i≠h:=by
 have lv:∀k,k<m->∃i,t.slot (ae t k (t.probeStart h)).j=.live i:=λk J=>by
  rcases G.slot (ae t k (t.probeStart h)).j with⟨h1,_⟩|⟨i,_,_,_,F⟩
  ·exact absurd (B k J) h1
  ·exact⟨i,F⟩
 have em:t.slot (ae t m (t.probeStart h)).j=.empty:=by
  rcases G.slot (ae t m (t.probeStart h)).j with⟨_,h2⟩|⟨i,x,h1,h2,_⟩
  ·exact h2
  ·exact absurd (h2▸E6 (Eh h1)) z
 have to:∀k,ae t k (ae t n (t.probeStart h))=ae t (n+k) (t.probeStart h):=λk=>(bK n k _).symm
 rcases mJ (t:=t) (hashAt:=hAt es) (h:=h) (m-n) (10*Ff t.mask) (ae t n (t.probeStart h)) ∅ (gN n rfl) (λk J=>by rw[to];exact lv _ ∅) (by rw[to,show n+(m-n)=m by lia];exact em)with⟨h1,h2⟩|⟨k,i,J,h1,h2,F,fv⟩
 ·refine .inl ⟨?_,λk O U i hi=>?_⟩
  ·rw[to,show n+(m-n)=m by lia]at h1;exact h1
  ·exact h2 (k-n) ∅ i (by rw[to,show n+(k-n)=k by lia];exact hi)
 ·rw[to]at h1 F;refine .inr ⟨n+k,i,∅,∅,h1,h2,?_,λk' O U i' hi=>?_⟩
  ·refine F.trans ?_;rw[show n+k+1=(n+k)+1 from rfl,bK (n+k) 1];rfl
  ·exact fv (k'-n) ∅ i' (by rw[to,show n+(k'-n)=k' by lia];exact hi)
def iq(knd:Hl prog w K):Prop:=∀{A:ED} {E:gV->q7->Prop} {s:q7} {k:K} {a:NS} {Q:Bool->q7->Prop},knd.is s.heap k a->Q NR s->DU (model prog w) A (Iz 8 (.ref a)) Q E s
theorem vS(B:iq knd){k:K}{x:NS}{Q:Bool->q7->Prop}(hx:knd.is s.heap k x):∀(l:List gV),(∀v∈l,∃k' b,v=.ref b/\knd.is s.heap k' b)->Q NR s->DU (model prog w) A (LN (.ref x) l) Q E s:=by
 intro l J h;unfold LN;refine b3 ?_;refine JS _ (λrest r s'=>r.1=Y/\s'=s/\∀v∈rest,∃k' b,v=.ref b/\knd.is s.heap k' b) _ ?_ ?_ _ _ ⟨rfl,rfl,J⟩
 ·rintro v rest r s' ⟨z,rfl,j⟩;obtain⟨k',b,rfl,F⟩:=j v Ey;have fin:∀u∈rest,∃k' b,u=Eb b/\knd.is s'.heap k' b:=λu hu=>j u (Ee _ hu);dsimp only
  split
  ·exact r4 ⟨rfl,rfl,fin⟩
  ·refine b3 (knd.quiet hx ?_);simp only[HZ,Ec,if_false];refine b3 (knd.quiet F ?_);simp only[HZ,Ec,if_false];refine b3 (B hx ?_);simp only[Ec,if_false];refine b3 (B F ?_);simp only[Ec,if_false];exact r4 ⟨rfl,rfl,fin⟩
 ·rintro⟨L,O⟩ s' ⟨z,rfl,_⟩;simp only at z;subst z;exact r4 h
end
end ST
namespace ST
section
variable{prog:Eg}{w:Ez}{K:Type}[DecidableEq K]{knd:Hl prog w K}
variable{A:ED}{E:gV->q7->Prop}{s:q7}
noncomputable def ent(knd:Hl prog w K)(b:K×NS):Int×gV:=(knd.hash b.1,.ref b.2)
theorem ir{es:Array (Int×gV)}{bs:List (K×NS)}(j:es.toList=bs.map (ent knd)){i:Nat}{b:K×NS}(h:bs[i]?=Z b):hAt es i=knd.hash b.1/\es[i]?=Z (ent knd b):=by
 have e:es[i]?=Z (ent knd b):=by rw[<-DS,j,Em,h];rfl
 exact⟨by unfold hAt;rw[e];rfl,e⟩
theorem fH(hc:iq knd){a:NS}{o:Obj}{es:Array (Int×gV)}{ep:Nat}{t:Tb}{L:List En}{bs:List (K×NS)}{k:K}{x:NS}(ho:s.heap.get? a=Z o)(hd:o.data=.set es ep t)(G:Good t es L)(NP:L.length<=t.mask)(hb:es.toList=bs.map (ent knd))(hr:knd.room A)(hk:∀b∈bs,knd.is s.heap b.1 b.2)(hx:knd.is s.heap k x){m:Nat}(hm:m<10*Ff t.mask)(B:(ae t m (t.probeStart (knd.hash k))).j∉L.map (·.1))(O:∀i,i<m->(ae t i (t.probeStart (knd.hash k))).j∈L.map (·.1)){Q:SetFound->q7->Prop}(q1:k∈bs.map (·.1)->Q (.there Y) s)(q2:k∉bs.map (·.1)->Q (.free (ae t m (t.probeStart (knd.hash k))).j NR) s):
 ∀(fuel n:Nat) (st:Option Pb),n<=m->m-n<fuel->st.getD (t.probeStart (knd.hash k))=ae t n (t.probeStart (knd.hash k))->
  (∀n',n'<n->∀i b,t.slot (ae t n' (t.probeStart (knd.hash k))).j=.live i->bs[i]?=Z b->b.1≠k)->DU (model prog w) A (JG a (.ref x) (knd.hash k) NQ fuel st) Q E s
 |0,n,st,_,h,_,_=>absurd h (Fx _)
 |fuel+1,n,st,BK,BR,BL,U=>by
  have hlen:bs.length=L.length:=by have h1:=congrArg Gr hb;have h2:=G.size.2;simp at h1;lia
  unfold JG;refine b3 (FL ho hd (G.fits NP) ?_);dsimp only;rw[G.stands NP,BL];simp only[Ec,if_false]
  rcases t7 G BK hm B O with⟨h1,h2⟩|⟨j,i,h0,h1,h2,h3,h4,h5⟩
  ·erw [h1]
   dsimp only;refine r4 (q2 λBI=>?_);obtain⟨b,BM,rfl⟩:=Ej.mp BI;obtain⟨i,hi⟩:=FR.mp BM;obtain⟨y,hy⟩:∃y,L[i]?=Z y:=⟨_,z4 (by have:=(DT.mp hi).1;lia)⟩
   obtain⟨g1,g2⟩:=ir hb hi;have e2:y.2=ent knd b:=by
    have e3:(L.map (·.2))[i]?=Z (ent knd b):=by rw[<-G.ents,DS];exact g2
    rw[Em,hy]at e3;exact Fn.inj e3
   obtain⟨m1,a1,a2⟩:=G.reach y (Eh hy);have e4:y.2.1=knd.hash b.1:=by rw[e2];rfl
   rw[e4]at a1 a2;have BN:m1<m:=by
    rcases JB m1 m with z|z|z
    ·exact z
    ·subst z;rw[a1]at B;exact absurd (E6 (Eh hy)) B
    ·exact absurd (a2 m z) B
   have BJ:t.slot (ae t m1 (t.probeStart (knd.hash b.1))).j=.live i:=by rw[a1];exact G.live hy
   by_cases hn:m1<n
   ·exact U m1 hn i b BJ hi rfl
   ·exact h2 m1 ∅ BN i BJ g1
  ·erw [h4]
   dsimp only;have BO:=O j h1;obtain⟨y,hy,BS⟩:∃y,L[i]?=Z y/\y.1=(ae t j (t.probeStart (knd.hash k))).j:=by
    rcases G.slot (ae t j (t.probeStart (knd.hash k))).j with⟨g1,_⟩|⟨i',y,g1,g2,g3⟩
    ·exact absurd BO g1
    ·rw[h2]at g3;cases g3;exact⟨y,g1,g2⟩
   obtain⟨b,fv⟩:∃b,bs[i]?=Z b:=⟨_,z4 (by have:=(DT.mp hy).1;lia)⟩
   obtain⟨g1,g2⟩:=ir hb fv;have BP:=hk b (Eh fv);have rest:DU (model prog w) A (do
    let Z (_,y):=es[i]?|unsupported "internal:set-entry"
    let equal <-holding [y] (eqBool y (.ref x))
    let(es',_,t') <-setState a
    if NQ&&equal then return SetFound.there Y
    let Z same:=t'.sameMemory t.moves t.mask|unsupported "set.changed-during-lookup:is-the-new-block-at-the-old-address"
    let still <-match(if same then t'.slot (ae t j (t.probeStart (knd.hash k))).j else .empty)with
     |.live i'=>match es'[i']? with
      |some (_,y')=>do pure (if <-isSame y' y then Z i' else Y)
      |none=>pure Y
     |_=>pure Y
    match still with
    |none=>rule "set.search.anew";JG a (.ref x) (knd.hash k) NQ fuel Y
    |some i'=>if equal then return .there (Z i')else JG a (.ref x) (knd.hash k) NQ fuel (Z (ae t (j+1) (t.probeStart (knd.hash k))))) Q E s:=by
    rw[g2];dsimp only[ent];refine b3 (ES (knd.eqBool hr BP hx ?_));refine b3 (FL ho hd (G.fits NP) ?_);dsimp only
    by_cases he:b.1=k
    ·rw[decide_eq_true he];simp only[Bool.and_self,if_true];exact r4 (q1 (he▸E6 (Eh fv)))
    ·rw[decide_eq_false he];simp only[Bool.and_false,Ec,if_false];have BQ:t.sameMemory t.moves t.mask=Z NQ:=by unfold SetTable.sameMemory;simp
     rw[BQ];dsimp only;rw[if_pos rfl,h2];dsimp only;rw[g2];dsimp only[ent];refine b3 (wpAny_isSame_ref_self ?_);simp only[if_true];refine b3 (r4 ?_);dsimp only;refine fH hc ho hd G NP hb hr hk hx hm B O q1 q2 fuel (j+1) _ ∅ ∅ rfl λn' BU i' b' BG J BH=>?_
     by_cases z1:n'<n
     ·exact U n' z1 i' b' BG J BH
     ·by_cases z2:n'<j
      ·refine h5 n' ∅ z2 i' BG ?_
       rw[(ir hb J).1,BH]
      ·obtain rfl:n'=j:=by lia
       rw[h2]at BG
       cases BG
       rw[fv]at J
       cases J
       exact he BH
   by_cases F:t.led=NQ
   ·rw[F];simp only[HZ,Ec,if_false];exact rest
   ·have F:t.led=NR:=by simpa using F
    rw[F];simp only[Bool.not_false,if_true];refine b3 (vS hc hx _ (λv hv=>?_) ?_)
    ·obtain⟨e,he,rfl⟩:=Ej.mp hv;have he:e∈es.toList:=by simp at he;simpa using he.1
     rw[hb]at he;obtain⟨b',J,rfl⟩:=Ej.mp he;exact⟨b'.1,b'.2,rfl,hk b' J⟩
    ·simp only[Ec,if_false];exact rest
end
end ST
namespace ST
noncomputable def orb(mask:Nat):Nat->Nat->List Nat
 |0,_=>[]
 |n+1,i=>i::orb mask n (nxt mask i)
theorem mL{mask:Nat}:∀(n i k:Nat),k<n->(orb mask n i)[k]?=Z (de mask k i)
 |n+1,i,0,_=>rfl
 |n+1,i,k+1,h=>by show(orb mask n (nxt mask i))[k]?=_;rw[mL n _ k ∅];rfl
theorem mM{mask:Nat}:∀(n i:Nat),(orb mask n i).length=n
 |0,_=>rfl
 |n+1,i=>by show(orb mask n _).length+1=_;rw[mM n]
theorem dE{mask:Nat}:∀(a b i:Nat),de mask (a+b) i=de mask b (de mask a i)
 |0,b,i=>by rw[Hc];rfl
 |a+1,b,i=>by rw[LL];exact dE a b (nxt mask i)
theorem kM{mask:Nat}(h1:(FW (mask+1)).all (λj=>(orb mask (mask+1) 0).contains j)=NQ)(h2:de mask (mask+1) 0=0):Cyc mask:=by
 have hit:∀j,j<=mask->∃n,n<=mask/\de mask n 0=j:=λj F=>by
  have J:=HH.mp h1 j (FH.mpr ∅)
  have L:j∈orb mask (mask+1) 0:=by simpa using J
  obtain⟨k,B⟩:=FR.mp L;have z:=(DT.mp B).1;rw[mM]at z;rw[mL _ _ _ z]at B;exact⟨k,∅,Fn.inj B⟩
 intro i hi j F;obtain⟨a,O,ea⟩:=hit i hi;obtain⟨b,U,eb⟩:=hit j F
 by_cases hab:a<=b
 ·exact⟨b-a,∅,by rw[<-ea,<-dE,show a+(b-a)=b by lia];exact eb⟩
 ·refine⟨mask+1-a+b,∅,?_⟩
  rw[<-ea,<-dE,show a+(mask+1-a+b)=(mask+1)+b by lia,dE,h2];exact eb
theorem A1:Cyc 7:=kM (by decide +kernel) (by decide +kernel)
theorem zb:Cyc 31:=kM (by decide +kernel) (by decide +kernel)
theorem xM:Cyc 127:=kM (by decide +kernel) (by decide +kernel)
section
variable{prog:Eg}{w:Ez}{K:Type}[DecidableEq K]{knd:Hl prog w K}
variable{A:ED}{E:gV->q7->Prop}{s:q7}
def jG(knd:Hl prog w K):Prop:=∀{h h':Heap} {k:K} {x d:NS} {o:Obj} {es ep t},knd.is h k x->h.get? d=Z o->o.data=.set es ep t->Gi d h h'->knd.is h' k x
def jH(knd:Hl prog w K):Prop:=∀{A:ED} {E:gV->q7->Prop} {s:q7} {k:K} {a:NS} {Q:Bool->q7->Prop},knd.is s.heap k a->Q NQ s->DU (model prog w) A (MB 8 (.ref a)) Q E s
def SetH(knd:Hl prog w K)(h:Heap)(a:NS)(cs:List (K×NS)):Prop:=∃(o:Obj) (es:Array (Int×gV)) (ep:Nat) (t:Tb) (L:List En) (bs:List (K×NS)),h.get? a=Z o/\o.ExactSet/\o.data=.set es ep t/\Good t es L/\(t.mask=7∨t.mask=31∨t.mask=127)/\L.length*5<t.mask*3/\es.toList=bs.map (ent knd)/\(∀b∈bs,knd.is h b.1 b.2)/\bs.Perm cs/\(cs.map (·.1)).Nodup/\t.plain=NQ/\t.led = !w.params.followText "set-order"
theorem oo{h:Heap}{a:NS}{led:Bool}(j:led = !w.params.followText "set-order")(ho:h.get? a=Z {cls:=.type "set",dict:=Y,data:=.set #[] 0 (.fresh 0 0 led)}):SetH knd h a []:=⟨_,_,_,_,[],[],ho,⟨rfl,rfl,rfl⟩,rfl,⟨rfl,rfl,Io,λx h=>absurd h EU,rfl,A1,(show 7%2=1 by decide),λx h=>absurd h EU⟩,.inl rfl,(show 0*5<7*3 by decide),rfl,λb h=>absurd h EU,HC _,Kv,rfl,j⟩
theorem t8{a:NS}{o:Obj}{es:Array (Int×gV)}{ep:Nat}{t:Tb}{L:List En}(ho:s.heap.get? a=Z o)(hd:o.data=.set es ep t)(G:Good t es L)(F:L.length<=t.mask){wanted mask:Nat}(hm:Js wanted-1=mask)(fv:Cyc mask)(z:mask%2=1)(hle:es.size<=mask+1)(hsz:Js wanted<=D2)(J:es.size<=D2){Q:Unit->q7->Prop}(q:∀(es':Array (Int×gV)) (t':Tb) (L':List En),Good t' es' L'->es'.toList.Perm es.toList->t'.mask=mask->t'.plain=t.plain->t'.led=t.led->Q () {s with heap:=s.heap.update a (GO es' t')}):DU (model prog w) A (setRelay a wanted) Q E s:=by
 obtain⟨t',ord,e1,m1,_,_,m4,m5,L',g1,g2,g3,O⟩:=vR (mask:=mask) (finger:=t.finger) (moves:=t.movedTo mask) (led:=t.led) (plain:=t.plain) (es:=es) fv z hle;have er:t.relaid (es.map (·.1)) wanted=Z (t',ord):=by unfold SetTable.relaid;rw[hm];exact e1
 have ef:ord.filterMap (es[·]?)=ord.map λi=>es.getD i default:=by
  apply HG.mp;rw[Array.toList_filterMap,Mk];generalize ord.toList=l at O
  induction l with
  |nil=>rfl
  |cons i l ih=>have hi:=O i Ey;rw[GP,DV hi];show _::_=_::_;rw[ih λj hj=>O j (Ee _ hj)];congr 1;show es[i]=es.getD i default;rw[Ew,DV hi];rfl
 have NP:(ord.map λi=>es.getD i default).toList.Perm es.toList:=by rw[Mk,g1];exact g2
 have B:(ord.map λi=>es.getD i default).size=es.size:=by have:=NP.length_eq;simpa using this
 unfold setRelay;refine b3 (FL ho hd (G.fits F) ?_);dsimp only;rw[if_neg ∅]
 have U:DU (model prog w) A (do
  let Z (t,order):=t.relaid (es.map (·.1)) wanted|unsupported "internal:set-table-without-room"
  let es':=order.filterMap (es[·]?)
  if es'.size != es.size then unsupported "internal:set-table-lost-an-element"
  pure (es',t):Sem (Array (Int×gV)×SetTable)) (λr s'=>DU (model prog w) A (storeSet a r.1 r.2) Q E s') E s:=by
  rw[er];dsimp only;rw[ef,B];simp only[bne_self_eq_false,Ec,if_false];exact r4 (LO ho hd (q _ _ _ g3 NP m1 m5 m4) (by rw[B];exact J))
 exact b3 U
end
end ST
namespace ST
section
variable{prog:Eg}{w:Ez}{K:Type}[DecidableEq K]{knd:Hl prog w K}
variable{A:ED}{E:gV->q7->Prop}{s:q7}
noncomputable def addK(k:K)(x:NS)(cs:List (K×NS)):List (K×NS):=if k∈cs.map (·.1)then cs else cs++[(k,x)]
theorem unlift{β γ:Type}{f:β->γ}{l:List γ}:∀{bs:List β},l.Perm (bs.map f)->∃bs':List β,l=bs'.map f/\bs'.Perm bs:=by
 intro bs h;obtain⟨L',h1,h2⟩:∃bs':List β,bs'.Perm bs/\bs'.map f=l:=by
  have:=G7.symm h;clear h;generalize hm:bs.map f=m at this
  induction this generalizing bs with
  |nil=>exact⟨bs,HC _,hm⟩
  |@cons x l1 l2 hp ih=>
   cases bs with
   |nil=>cases hm
   |cons b bs=>obtain⟨z,j⟩:=Ni.inj hm;obtain⟨bs',B,p2⟩:=ih j;exact⟨b::bs',B.cons b,by rw[Eu,z,p2]⟩
  |swap x y l=>
   match bs,hm with
   |b1::F::bs,hm=>obtain⟨z,j⟩:=Ni.inj hm;obtain⟨j,O⟩:=Ni.inj j;exact⟨F::b1::bs,List.Perm.swap _ _ _,by rw[Eu,Eu,z,j,O]⟩
  |trans _ _ J L=>obtain⟨b1,B,p2⟩:=J hm;obtain⟨F,U,NP⟩:=L p2;exact⟨F,U.trans B,NP⟩
 exact⟨L',h2.symm,h1⟩
theorem xN(hc:iq knd)(kS:jG knd)(bv:jH knd){a:NS}{cs:List (K×NS)}{k:K}{x:NS}(hS:SetH knd s.heap a cs)(Co:cs.length<70)(hr:knd.room A)(hx:knd.is s.heap k x){Q:Bool->q7->Prop}(q:∀(b:Bool) h',Gi a s.heap h'->SetH knd h' a (addK k x cs)->Q b {s with heap:=h'}):DU (model prog w) A (setAddHashed a (.ref x) (knd.hash k)) Q E s:=by
 obtain⟨o,es,ep,t,L,bs,ho,hex,hd,G,BH,BP,hb,hk,hp,BX,BI,BQ⟩:=hS;have BJ:L.length<=t.mask:=∅
 have hL:L.length=cs.length:=by have h1:=congrArg Gr hb;have h2:=G.size.2;have h3:=hp.length_eq;simp at h1;lia
 have C6:es.size=cs.length:=by rw[G.size.2,hL]
 unfold setAddHashed setAddHashedIn;refine ES (b3 (FL ho hd (G.fits BJ) ?_));dsimp only;have C7:byScan (.ref x) es=NR:=rfl;rw[C7];simp only[Ec,if_false];obtain⟨C8,C9⟩:=kH (t:=t) (h:=knd.hash k);obtain⟨m,hm,hj,O,BK⟩:=G.free BJ C8 C9;have Ca:m<100000:=by
  unfold Ff at hm
  rcases BH with z|z|z<;>rw[z]at hm<;>lia
 unfold setSearch;refine b3 (fH hc ho hd G BJ hb hr hk hx hm O BK (λBY=>?_) (λCb=>?_) 100000 0 Y (ER _) ∅ rfl (λn' h=>absurd h (Fx _)))
 ·
   dsimp only;have BR:k∈cs.map (·.1):=(hp.map (·.1)).mem_iff.mp BY;have e:s={s with heap:=s.heap}:=by cases s;rfl
   refine r4 ?_;rw[e];refine q _ s.heap (LI a s.heap) ?_;unfold addK;rw[if_pos BR];exact⟨o,es,ep,t,L,bs,ho,hex,hd,G,BH,BP,hb,hk,hp,BX,BI,BQ⟩
 ·dsimp only;have BL:k∉cs.map (·.1):=λz=>Cb ((hp.map (·.1)).mem_iff.mpr z);have ea:addK k x cs=cs++[(k,x)]:=by unfold addK;rw[if_neg BL]
  rw[ea]at q;refine b3 (FL ho hd (G.fits BJ) ?_);dsimp only;obtain⟨L',BZ,G'⟩:=G.put (hsh:=knd.hash k) (x:=Eb x) hj O BK;generalize C0:t.put (ae t m (t.probeStart (knd.hash k))).j=pt at G';obtain⟨t1,p⟩:=pt;dsimp only at G'⊢;have F:t1.mask=t.mask/\t1.plain=t.plain/\t1.led=t.led:=by have:=sY (t:=t) (j:=(ae t m (t.probeStart (knd.hash k))).j);rw[C0]at this;exact⟨this.1,this.2.2.1,this.2.1⟩
  generalize Cn:Hx es p (knd.hash k,Eb x)=B at G';have Cc:B.toList.Perm (((k,x)::bs).map (ent knd)):=by rw[G'.ents,Eu,<-hb,G.ents];exact BZ.map (·.2)
  obtain⟨BS,C1,BM⟩:=unlift Cc;have BU:L'.length=L.length+1:=by rw[BZ.length_eq];rfl
  have Cd:B.size=cs.length+1:=by rw[G'.size.2,BU,hL]
  have BV:BS.Perm (cs++[(k,x)]):=BM.trans ((hp.cons (k,x)).trans (List.perm_append_singleton _ _).symm);have BN:((cs++[(k,x)]).map (·.1)).Nodup:=by
   rw[GD,Iw];refine⟨BX,by simp,λu hu v hv=>?_⟩
   rw[Lm,FA]at hv;rintro rfl;exact BL (by have e:u=k:=hv;rw[<-e];exact hu)
  have C2:∀{h':Heap},Gi a s.heap h'->∀b∈BS,knd.is h' b.1 b.2:=λC3 b BW=>by
   rcases DX.mp (BM.mem_iff.mp BW)with rfl|BW
   ·exact kS hx ho hd C3
   ·exact kS (hk b BW) ho hd C3
  have U:B.size<=D2:=by rw[Ek];lia
  rw[F.2.1,BI];simp only[if_true];refine b3 (bv hx ?_);simp only[if_true];refine b3 (LO ho hd ?_ U);have NP:=KZ s.heap a (GO B t1);have hg:(s.heap.update a (GO B t1)).get? a=Z {o with data:=.set B (ep+1) t1}:=by
   have:=Hq (GO B t1) ho (by rw[Ml B t1 hd];rfl)
   rw[Ml B t1 hd]at this;exact this
  have fv:t1.fill=cs.length+1:=by unfold SetTable.fill;rw[G'.dm,G'.size.1,BU,hL];rfl
  by_cases hfull:(cs.length+1)*5≥t.mask*3
  ·have e1:t1.tooFull=NQ:=by unfold Mm;rw[fv,F.1];simpa using hfull
   rw[e1];simp only[Bool.not_false,Bool.and_self,if_true];have go:∀mask,Js (SetTable.grown (es.size+1))-1=mask->Cyc mask->mask%2=1->(mask=7∨mask=31∨mask=127)->(cs.length+1)*5<mask*3->DU (model prog w) A (do setRelay a (SetTable.grown (es.size+1));pure NQ) Q E {s with heap:=s.heap.update a (GO B t1)}:=by
    intro mask e2 Ce C4 Cf Cg;refine b3 (t8 (s:={s with heap:=s.heap.update a (GO B t1)}) hg rfl G' (by rw[F.1];lia) e2 Ce C4 ∅ (by rw[Ek];lia) U λJ t2 L2 G2 p2 m2 Ch Ci=>?_)
    refine r4 ?_;rw[C1]at p2;obtain⟨Cj,C5,BG⟩:=unlift p2;have BO:=NP.trans (KZ (s.heap.update a (GO B t1)) a (GO J t2));have Ck:((s.heap.update a (GO B t1)).update a (GO J t2)).get? a=Z {o with data:=.set J (ep+1+1) t2}:=by
     have:=Hq (GO J t2) hg (by rw[Ml J t2 (ep:=ep+1) (es:=B) (t:=t1) rfl];rfl)
     rw[Ml J t2 (ep:=ep+1) (es:=B) (t:=t1) rfl]at this;exact this
    have Cl:L2.length=cs.length+1:=by have h1:=G2.size.2;have h2:=congrArg Gr C5;have h3:=BG.length_eq;have h4:=BV.length_eq;simp at h2 h4;lia
    exact q _ _ BO ⟨_,J,_,t2,L2,Cj,Ck,hex,rfl,G2,by rw[m2];exact Cf,by rw[m2,Cl];exact Cg,C5,λb hb=>C2 BO b (BG.mem_iff.mp hb),BG.trans BV,BN,by rw[Ch,F.2.1];exact BI,by rw[Ci,F.2.2];exact BQ⟩
   rw[C6]at go⊢
   rcases BH with z|z|z
   ·rw[z]at hfull BP;have e3:cs.length=4:=by lia
    rw[e3]at go⊢;exact go 31 (by decide +kernel) zb (by decide) (.inr (.inl rfl)) (by decide)
   ·rw[z]at hfull BP;have e3:cs.length=18:=by lia
    rw[e3]at go⊢;exact go 127 (by decide +kernel) xM (by decide) (.inr (.inr rfl)) (by decide)
   ·rw[z]at hfull;lia
  ·have e1:t1.tooFull=NR:=by unfold Mm;rw[fv,F.1];simpa using hfull
   rw[e1];simp only[Bool.and_false,Ec,if_false];refine r4 ?_;exact q _ _ NP ⟨_,B,_,t1,L',BS,hg,hex,rfl,G',by rw[F.1];exact BH,by rw[F.1,BU,hL];lia,C1,C2 NP,BV,BN,by rw[F.2.1];exact BI,by rw[F.2.2];exact BQ⟩
end
end ST
namespace ST
section
variable{prog:Eg}{w:Ez}{K:Type}[DecidableEq K]{knd:KeyKind prog w K}
theorem tuple_keepS:jG (Hm knd):=λ{h h' k x d o es ep t} hx ho hd hs=>by
 obtain⟨o',items,n,z,F,j,hi⟩:=hx;have B:x≠d:=by rintro rfl;obtain rfl:o'=o:=Fn.inj (z.symm.trans ho);rw[hd]at j;exact nomatch j
 exact⟨o',items,n,(hs.2 x B).trans z,F,j,hi⟩
theorem lK(n:Nat){v:gV}(h:KJ v=NQ):Iz n v=pure NR:=by cases n<;>cases v<;>simp_all [KJ,Iz]
theorem tuple_seen:iq (Hm knd):=λ{A E s k a Q} hx h=>by
 have F:s.TypeIs (.ref a) "tuple":=LP hx;obtain⟨o,items,n,ho,_,hd,hi⟩:=hx;unfold Iz;refine b3 (GF F ?_);dsimp only;refine b3 (r4 ?_);simp only[HZ,Ec,if_false];refine b3 (Jm ho hd ?_);dsimp only;refine b3 ?_;show DU _ _ (forIn items _ _) _ _ s;rw[<-Ln];refine JS _ (λrest r s'=>r.1=Y/\s'=s/\∀v∈rest,KJ v=NQ) _ ?_ ?_ _ _ ⟨rfl,rfl,hi.byValue⟩
 ·rintro v rest r s' ⟨z,rfl,j⟩;rw[lK _ (j v Ey)];refine b3 (r4 ?_);simp only[Ec,if_false];exact r4 ⟨rfl,rfl,λu B=>j u (Ee _ B)⟩
 ·rintro⟨J,L⟩ s' ⟨z,rfl,_⟩;simp only at z;subst z;exact r4 h
end
section
variable{prog:Eg}{w:Ez}
theorem t9(n:Nat){k:Int}{v:gV}(h:(KO prog w).is k v=NQ):MB n v=pure NQ:=by cases v<;>first|(cases n<;>rfl)|(simp[KO,Mq]at h)
theorem tuple_byVal:jH (Hm (KO prog w)):=λ{A E s k a Q} hx h=>by
 have z:s.TypeIs (.ref a) "tuple":=LP hx;obtain⟨o,items,n,ho,_,hd,hi⟩:=hx;unfold MB;refine b3 (I8 z F.slot_tuple_hash.lookup ?_);dsimp only;refine b3 (Jm ho hd ?_);refine b3 ?_;show DU _ _ (forIn items _ _) _ _ s;rw[<-Ln];refine JS _ (λrest r s'=>r.1=Y/\s'=s/\∃ks,ItemsAre (KO prog w) ks rest) _ ?_ ?_ _ _ ⟨rfl,rfl,_,hi⟩
 ·rintro v rest r s' ⟨j,rfl,ks,hi⟩
  cases hi with
  |cons h1 h2=>rw[t9 _ h1];refine b3 (r4 ?_);simp only[HZ,Ec,if_false];exact r4 ⟨rfl,rfl,_,h2⟩
 ·rintro⟨B,J⟩ s' ⟨j,rfl,_⟩;simp only at j;subst j;exact r4 h
end
end ST
namespace ST
noncomputable def gath{K:Type}[DecidableEq K](xs:List (K×NS)):List (K×NS):=xs.foldl (λcs x=>addK x.1 x.2 cs) []
theorem gath_snoc{K:Type}[DecidableEq K]{xs:List (K×NS)}{x:K×NS}:gath (xs++[x])=addK x.1 x.2 (gath xs):=by unfold gath;rw[LQ];rfl
theorem tf{K:Type}[DecidableEq K]{k:K}{x:NS}{cs:List (K×NS)}:(addK k x cs).length<=cs.length+1:=by unfold addK;split<;>simp
theorem tm{K:Type}[DecidableEq K]{k:K}{x:NS}{cs:List (K×NS)}{b:K×NS}(h:b∈addK k x cs):b∈cs∨b=(k,x):=by
 unfold addK at h
 split at h
 ·exact .inl h
 ·rcases Ef.mp h with z|z
  ·exact .inl z
  ·exact .inr (FA.mp z)
theorem snoc_rec{α:Type}{P:List α->Prop}(h0:P [])(h1:∀l x,P l->P (l++[x]))(l:List α):P l:=by
 have:∀(n:Nat) (l:List α),l.length=n->P l:=by
  intro n
  induction n with
  |zero=>intro l h;rw[Eo.mp h];exact h0
  |succ n ih=>
   intro l h;have j:l≠[]:=λz=>by rw[z]at h;cases h
   rw[<-Fv j];exact h1 _ _ (ih _ (by rw[List.length_dropLast];lia))
 exact this _ l rfl
theorem gath_len{K:Type}[DecidableEq K](xs:List (K×NS)):(gath xs).length<=xs.length:=snoc_rec (P:=λxs=>(gath xs).length<=xs.length) (ER _) (λl x ih=>by rw[gath_snoc,DZ];exact Fu tf (Nat.add_le_add_right ih 1)) xs
theorem gath_mem{K:Type}[DecidableEq K](xs:List (K×NS)):∀b∈gath xs,b∈xs:=
 snoc_rec (P:=λxs=>∀b∈gath xs,b∈xs) (λb h=>h) (λl x ih b j=>by
  rw[gath_snoc]at j
  rcases tm j with z|z
  ·exact EV _ (ih b z)
  ·exact Ed _ (by rw[z];exact FA.mpr rfl)) xs
section
variable{prog:Eg}{w:Ez}{K:Type}[DecidableEq K]{knd:Hl prog w K}
theorem SetH.moved{h h':Heap}{a:NS}{cs:List (K×NS)}(NP:SetH knd h a cs)(fv:∀o,h.get? a=Z o->h'.get? a=Z o)(hk:∀b∈cs,knd.is h' b.1 b.2):SetH knd h' a cs:=by obtain⟨o,es,ep,t,L,bs,ho,hex,hd,G,j,z,hb,_,U,B,F,J⟩:=NP;exact⟨o,es,ep,t,L,bs,fv _ ho,hex,hd,G,j,z,hb,λb O=>hk b (U.mem_iff.mp O),U,B,F,J⟩
def MonoK(knd:Hl prog w K):Prop:=∀{h h':Heap} {k:K} {x:NS},knd.is h k x->(∀o,h.get? x=Z o->h'.get? x=Z o)->knd.is h' k x
variable{A:ED}{R:Kr->q7->Prop}{I:NS}{fp wr:List NS}{G:Array Ko->Array Ko->Prop}{n:Nat}{P:Nat->gV->Prop}{St:Nat->q7->Prop}
theorem zc(hc:iq knd)(kS:jG knd)(bv:jH knd)(mk:MonoK knd)(W:WalksS prog w A.in1 I fp wr G n P St)(S:NS)(U:S∉fp)(xs:List (K×NS))(hn:xs.length=n)(BQ:n<70)(hval:∀i v,P i v->∀x,xs[i]?=Z x->v=.ref x.2)(hxw:∀x∈xs,x.2∉wr)(hu:knd.room A.in1):
 ∀(k i:Nat) (s:q7),n-i=k->i<=n->St i s->(∀x∈xs,knd.is s.heap x.1 x.2)->SetH knd s.heap S (gath (xs.take i))->
  (∀s',Moved (S::wr) G s s'->SetH knd s'.heap S (gath xs)->R (.ok (.ret .none)) s')->
  Gj (model prog w) A (.builtin "set.update.loop" ⟨[.ref S,.ref I],[]⟩) R s:=by
 have NP:S∉wr:=λh=>U (W.sub _ h);have B:∀b∈wr,b∈S::wr:=λb j=>Ee _ j;intro k
 induction k with
 |zero=>
  intro i s hk hi J hx hS hR;have BL:i=n:=∅
  subst BL;refine Fi HP ?_;rw[J0 Gh _];show DU _ A.in1 (GH (.ref I)>>=_) _ _ s;refine b3 (W.done s _ _ J λs' hm=>?_);show DU _ A.in1 (ret FU) _ _ s';rw[Gm ∅]at hS
  exact r4 (hR s' (hm.mono B) (hS.moved (λo e=>hm.heap S _ NP e) λb j=>mk (hx b (gath_mem xs b j)) λo e=>hm.heap _ _ (hxw b (gath_mem xs b j)) e))
 |succ k ih=>
  intro i s hk hi J hx hS hR;have fv:i<n:=∅
  obtain⟨x,L⟩:∃x,xs[i]?=Z x:=⟨_,z4 ∅⟩
  have BG:=Eh L;refine Fi HP ?_;rw[J0 Gh _];show DU _ A.in1 (GH (.ref I)>>=_) _ _ s;refine b3 (W.item i s _ _ fv J λv s' hP BH hm=>?_);obtain rfl:=hval i v hP x L;have z:∀x∈xs,knd.is s'.heap x.1 x.2:=λy hy=>mk (hx y hy) λo e=>hm.heap _ _ (hxw y hy) e;have BI:SetH knd s'.heap S (gath (xs.take i)):=hS.moved (λo e=>hm.heap S _ NP e) λb j=>z b (HB (gath_mem _ b j));show DU _ A.in1 (holding [Eb x.2] (setAdd S (.ref x.2))>>=_) _ _ s';refine b3 (ES ?_);unfold setAdd;refine ES ?_;refine b3 (knd.pyHash hu (z x BG) ?_);have hl:=gath_len (xs.take i);rw[Et]at hl;refine xN hc kS bv (s:={s' with toks:=s'.toks+knd.draws x.1}) BI ∅ hu (z x BG) λb h' O BM=>?_
  have BN:SetH knd h' S (gath (xs.take (i+1))):=by
   have e:xs.take (i+1)=xs.take i++[x]:=by rw[List.take_succ,L];rfl
   rw[e,gath_snoc];exact BM
  obtain⟨oS,_,_,_,_,_,BO,_,BP,_⟩:=BI;refine r4 ⟨HW Gh _,ih (i+1) _ ∅ fv (W.frame _ s' _ _ BH (IQ _ _) λb j o e=>?_) (λy hy=>kS (z y hy) BO BP O) BN λs'' BJ BK=>?_⟩
  ·rw[O.2 b (λh:b=S=>U (by rw[<-h];exact j))];exact e
  ·refine hR s'' (Moved.trans W.gtrans ((hm.mono B).then_heap (IQ _ _) λb o j e=>?_) BJ) BK;rw[O.2 b (λh:b=S=>j (by rw[h];exact Ey))];exact e
end
end ST
namespace ST
section
variable{prog:Eg}{w:Ez}{K:Type}[DecidableEq K]{knd:Hl prog w K}{A:ED}{E:gV->q7->Prop}{s:q7}
theorem fW(a:gV){Q₁:gV->q7->Prop}(h:Q₁ (.ref s.heap.objs.size) {s with heap:=s.heap.push {cls:=.type "set",dict:=Y,data:=.set #[] 0 (.fresh 0 0 (!w.params.followText "set-order"))}}):
 Gj (model prog w) A (.call (.builtin "set.__new__") ⟨[.type "set",a],[]⟩) (wants Q₁ E) s:=by
 refine J6 ?_;show DU _ A.in1 (do JM "set.__new__" ⟨[.type "set",a],[]⟩;again (.builtin "set.__new__" ⟨[.type "set",a],[]⟩)) _ _ s
 refine b3 (GG (F.newCall_set_1 a) (r4 ⟨HW MU _,Fi F.entry_set_new ?_⟩));rw[J0 MU _];unfold Fc.«set.__new__» Builtin.Frozenset.newClass;have j:=sub_set_self;obtain⟨z,g,d,tk,os⟩:=s;dsimp only
 wp_walk
 refine GW (r4 ?_);dsimp only;simp only[newObj];refine b3 (wpAny_alloc (r4 ?_));exact r4 h
theorem call_set_listT (hc:iq knd)(kS:jG knd)(bv:jH knd)(mk:MonoK knd){l:NS}{xs:List (K×NS)}{Q:gV->q7->Prop}(hh:A.handled=Y)(hl:s.heap.IsList l (xs.map fun x=>Eb x.2).toArray)(hx:∀x∈xs,knd.is s.heap x.1 x.2)(BK:∀x∈xs,x.2<s.heap.objs.size)(BL:xs.length<70)(hu:∀B:ED,B.units<=A.units+8->knd.room B)(h:∀(h':Heap) (tk:Nat),SetH knd h' s.heap.objs.size (gath xs)->
   (∀b o,b<s.heap.objs.size->s.heap.get? b=Z o->h'.get? b=Z o)->Q (.ref s.heap.objs.size) {s with heap:=h',toks:=tk}):
 DU (model prog w) A (call (.type "set") [.ref l]) Q E s:=by
 obtain⟨c,tl,BV⟩:=F.called_set.mro;have BM:=F.called_set.made;have BW:=F.called_set.sub;refine Ld (J6 ?_);show DU _ _ (callAny (.type "set") _) _ _ _;refine r4 ⟨Ie _ (by decide +kernel),Fi LB ?_⟩
 rw[Jl (Kl "set" [.ref l] []) rfl];have h1:=F.called_set.notType;have h2:=F.called_set.canCreate;have BZ:=F.typeCall_set_1 (.ref l)
 repeat (any_goals (first|assumption|wp_step))
 refine FY (fW (.ref l) (E:=E) (Q₁:=λobj s₁=>∃led:Bool,led=(!w.params.followText "set-order")/\obj=.ref s.heap.objs.size/\s₁={s with heap:=s.heap.push {cls:=.type "set",dict:=Y,data:=.set #[] 0 (.fresh 0 0 led)}}) ⟨_,rfl,rfl,rfl⟩) λr s₁ hr=>?_
 cases r with
 |error e=>exact hr
 |ok fl=>
  cases fl with
  |ret obj=>
   obtain⟨led,L,rfl,rfl⟩:=hr;have hS:(s.heap.push {cls:=.type "set",dict:=Y,data:=.set #[] 0 (.fresh 0 0 led)}).get? s.heap.objs.size=Z {cls:=.type "set",dict:=Y,data:=.set #[] 0 (.fresh 0 0 led)}:=DW _ rfl;have hT:JF {s with heap:=s.heap.push {cls:=.type "set",dict:=Y,data:=.set #[] 0 (.fresh 0 0 led)}} (.ref s.heap.objs.size) "set":=⟨_,hS,rfl⟩
   have C0:=F.called_set.init.lookup;have C1:=F.called_set.init.bind (.ref s.heap.objs.size)
   repeat (any_goals (first|assumption|wp_step))
   refine FY (Hz (R:=wants (λr s₂=>r=.none/\∃h' tk,s₂={s with heap:=h',toks:=tk} /\
    SetH knd h' s.heap.objs.size (gath xs) /\
    (∀b o,b<s.heap.objs.size->s.heap.get? b=Z o->h'.get? b=Z o)) E) F.called_set.init.plain F.entry_set_init (check_set_init_1 hT ?_)) λr₂ s₂ j=>?_
   ·obtain⟨ol,O,U,nl,NP⟩:=hl;obtain⟨ocls,odict,odata,oslots⟩:=ol;simp only at U NP;subst U;subst NP;have fv:(s.heap.push {cls:=.type "set",dict:=Y,data:=.set #[] 0 (.fresh 0 0 led)}).get? l=Z {cls:=.type "list",dict:=odict,data:=.seq (xs.map λx=>Eb x.2).toArray nl,slots:=oslots}:=i2 _ O;have BX:=F.sub_list_set;have BY:=F.sub_list_frozenset;have C2:(EG "list"==EG "dict")=NR:=by decide
    have BG:(s.heap.push {cls:=.type "set",dict:=Y,data:=.set #[] 0 (.fresh 0 0 led)}).IsList l (xs.map λx=>Eb x.2).toArray:=⟨_,fv,rfl,nl,rfl⟩;unfold Fc.«set.__init__» noKeywords Builtin.Frozenset.updateFrom;generalize BN:JC=PI
    wp_walk
    subst BN;refine Jz BG ?_;refine b3 (KI ?_);have BH:l<s.heap.objs.size:=D0 O;have BO:A.in1.in1.in1.handled=Y:=by simp[hh]
    have BI:l≠(s.heap.push {cls:=.type "set",dict:=Y,data:=.set #[] 0 (.fresh 0 0 led)}).objs.size:=by rw[Fp];exact Ep (Hu BH)
    have BP:s.heap.objs.size∉[(s.heap.push {cls:=.type "set",dict:=Y,data:=.set #[] 0 (.fresh 0 0 led)}).objs.size,l]:=by rw[Fp];simp only[DX,FA,EU,or_false,not_or];exact⟨Ep (JP _),F8 BH⟩
    have hsz:(xs.map λx=>Eb x.2).toArray.size=xs.length:=by simp
    refine zc hc kS bv mk ((Walks.list BO _ l BI (xs.map λx=>Eb x.2).toArray).toS) s.heap.objs.size
     BP xs hsz.symm (by rw[hsz];exact BL) ?hval ?hxw ?hu ((xs.map λx=>Eb x.2).toArray.size-0) 0 _ ∅ (ER _)
     ⟨⟨_,DW _ rfl,rfl,rfl⟩,(BG.push _)⟩ ?hx ?hS0 ?hR
    case hval=>intro i v hv x BQ;have hv:(xs.map λx=>Eb x.2).toArray[i]?=Z v:=hv;rw[List.getElem?_toArray,Em,BQ]at hv;exact(Fn.inj hv).symm
    case hxw=>intro x z;rw[FA,Fp];have:=BK x z;lia
    case hu=>exact hu _ (by simp[Around.in1];try lia)
    case hx=>exactλx z=>mk (hx x z) λo e=>i2 _ (i2 _ e)
    case hS0=>
     have BJ:((s.heap.push {cls:=.type "set",dict:=Y,data:=.set #[] 0 (.fresh 0 0 led)}).push {cls:=.type "list_iterator",data:=.fields #[.ref l,.int 0 0]}).get? s.heap.objs.size
      = Z {cls:=.type "set",dict:=Y,data:=.set #[] 0 (.fresh 0 0 led)}:=i2 _ hS
     exact oo L BJ
    case hR=>
     intro s' hm J;obtain⟨h',g',d',tk',os'⟩:=s';have eg:g'=s.gens:=hm.gens;have ed:d'=s.drawn:=hm.drawn;have eo:os'=s.os:=hm.os;subst eg;subst ed;subst eo;show DU _ _ _ _ _ _;refine r4 ?_;show DU _ _ (ret FU) _ _ _;refine r4 ⟨rfl,h',tk',rfl,J,λb o hb e=>?_⟩;have BR:b≠s.heap.objs.size:=Ep hb;have BS:b≠(s.heap.push {cls:=.type "set",dict:=Y,data:=.set #[] 0 (.fresh 0 0 led)}).objs.size:=by rw[Fp];exact Ep (Hu hb)
     exact hm.heap b o (by simp only[DX,FA,EU,or_false,not_or];exact⟨BR,BS⟩) (i2 _ (i2 _ e))
   ·cases r₂ with
    |error e=>exact j
    |ok fl₂=>
     cases fl₂ with
     |ret r=>
      obtain⟨rfl,h',tk,rfl,J,BU⟩:=j
      repeat (any_goals (first|assumption|wp_step))
      exact h _ _ J BU
     |_=>exact j.elim
  |_=>exact hr.elim
end
end ST
namespace ST
theorem mN{α:Type}{next:Nat->Nat}:∀(n k:Nat) (left:List α) (out:Array α),left.length=n->(pickOrder.go next n k left out).toList.Perm (out.toList++left)
 |0,k,left,out,h=>by rw[Eo.mp h,F5];exact HC _
 |n+1,k,left,out,h=>by
  have j:next k%left.length<left.length:=N5 _ ∅
  have e:left[next k%left.length]?=Z (left[next k%left.length]):=z4 j;show(match left[next k%left.length]? with|some x=>_|none=>_:Array α).toList.Perm _
  rw[e];dsimp only;refine(mN n (k+1) _ _ (by rw[List.length_eraseIdx_of_lt j];lia)).trans ?_
  rw[E4,Ea];refine EK _ ?_;show(left[next k%left.length]::left.eraseIdx _).Perm left;rw[List.eraseIdx_eq_take_drop_succ];refine JQ.symm.trans ?_;rw[<-F1 j,F7]
theorem pick_perm{α:Type}{next:Nat->Nat}{xs:Array α}:(pickOrder next xs).toList.Perm xs.toList:=by
 have:=mN (next:=next) xs.size 0 xs.toList #[] (by simp)
 rw[J3]at this;exact this
variable{S:NS}{es:Array (Int×gV)}{ep:Nat}{U:List gV}
section
variable{prog:Eg}{w:Ez}{A:ED}{E:gV->q7->Prop}{s:q7}
noncomputable def sO(S slot i n ep:Nat):Obj:={cls:=.type "set_iterator",data:=.fields #[.int slot 0,.int i 0,.ref S,.int n 0,.int ep 0]}
theorem sl_next:Slot "set_iterator" "__next__" "set_iterator.__next__":=.of (owner:="set_iterator") (n:="__next__") (by rw[Gb,F6];kernel_rfl) (by decide +kernel) (by decide +kernel) (by decide +kernel) (.inl (by decide +kernel)) (by rw[Fq];kernel_rfl)
theorem mP:JL table "set_iterator.__next__"=Z Fc.«set_iterator.__next__»:=IK (by kernel_rfl)
theorem mQ(a:gV):Ka "set_iterator.__next__" ⟨[a],[]⟩:=by unfold Ka;kernel_rfl
structure Wk(w:Ez)(S:NS)(es:Array (Int×gV))(ep:Nat)(t:Tb)(U:List gV):Prop where
 fits:t.fits es.size=NQ
 plain:t.plain=NQ
 led:t.led = !w.params.followText "set-order"
 srt:Srt t.place.toList
 text:w.params.followText "set-order"=NQ->U=(pickOrder (w.params.setOrder S ep) es).toList.map (·.2)
 tab:w.params.followText "set-order"=NR->U=es.toList.map (·.2)
noncomputable def aT(w:Ez)(t:Tb)(i:Nat):Nat:=if w.params.followText "set-order" then 0 else match i with|0=>0|i+1=>t.place.getD i 0+1
theorem Wk.len{t:Tb}(h:Wk w S es ep t U):U.length=es.size/\U.Perm (es.toList.map (·.2)):=by
 have j:U.Perm (es.toList.map (·.2)):=by
  cases e:w.params.followText "set-order" with
  |true=>rw[h.text e];exact pick_perm.map _
  |false=>rw[h.tab e]
 exact⟨by rw[j.length_eq];simp,j⟩
theorem Wk.below{t:Tb}(h:Wk w S es ep t U)(e:w.params.followText "set-order"=NR){i:Nat}(hi:i<=es.size):Ft t.place (aT w t i)=i:=by
 have hsz:t.place.size=es.size:=by have:=h.fits;simp only[L7,tv,beq_iff_eq]at this;exact this.1
 have F:=fV (xs:=t.place) (j:=aT w t i) h.srt;generalize Ft t.place (aT w t i)=r at F;have hle:=F.le;rw[Ei]at hle;unfold aT at F;rw[e]at F;simp only[Ec,if_false]at F
 rcases JB r i with z|z|z
 ·exfalso
  cases i with
  |zero=>exact absurd z (Fx _)
  |succ i=>
   have B:i<t.place.size:=∅
   have g1:t.place.toList[i]?=Z (t.place.getD i 0):=by rw[DS,Ew,DV B];rfl
   have:=F.hi i _ ∅ g1
   dsimp only at this;lia
 ·exact z
 ·exfalso
  cases i with
  |zero=>
   have B:0<t.place.size:=∅
   have g1:t.place.toList[0]?=Z (t.place[0]):=by rw[DS,DV B]
   have:=F.lo 0 _ z g1;exact absurd this (Fx _)
  |succ i=>
   have B:i+1<t.place.size:=∅
   have g1:t.place.toList[i+1]?=Z (t.place[i+1]):=by rw[DS,DV B]
   have g2:t.place.toList[i]?=Z (t.place.getD i 0):=by rw[DS,Ew,DV (show i<t.place.size by lia)];rfl
   have h1:=F.lo (i+1) _ z g1;have h2:=cI h.srt (JP i) g2 g1;dsimp only at h1;lia
theorem ja{o:Obj}{t:Tb}(ho:s.heap.get? S=Z o)(hd:o.data=.set es ep t)(h:Wk w S es ep t U){i:Nat}{Q:Option (gV×Nat)->q7->Prop}(q:Q (U[i]?.map λv=>(v,aT w t (i+1))) s)(hi:i<=es.size):DU (model prog w) A (setNext S (aT w t i) i ep) Q E s:=by
 unfold setNext;refine b3 (FL ho hd h.fits ?_);dsimp only;unfold N6;refine b3 (b3 (GW (r4 ?_)));show DU _ _ (if w.params.followText "set-order"=NQ then _ else _) _ _ _
 cases e:w.params.followText "set-order" with
 |true=>
  rw[if_pos rfl];simp only[bne_self_eq_false,Ec,if_false];unfold setWalk N6;refine b3 (b3 (FL ho hd h.fits ?_));dsimp only;refine b3 (b3 (GW (r4 ?_)));show DU _ _ (if w.params.followText "set-order"=NQ then _ else _) _ _ _
  rw[if_pos e];refine b3 (GW (r4 ?_));refine r4 ?_;have j:∀i,aT w t i=0:=λi=>by unfold aT;rw[if_pos e]
  rw[h.text e,Em,Option.map_map,j (i+1)]at q;rw[j i,<-DS];exact q
 |false=>
  rw[if_neg (by decide)]
  refine GC (decide_eq_false (show ¬((!t.plain&&decide (es.size > 1))=NQ) by rw[h.plain];simp)) ?_
  refine b3 (F2 (Q:=λ_ s'=>s'=s) ?_ (λ_ s' hs=>?_) λ_ _ z=>z)
  ·show DU _ _ (if(!t.led && !es.isEmpty)=NQ then _ else _) _ _ _
   rw[h.led,e];exact r4 rfl
  subst hs;refine r4 ?_;rw[h.below e hi];rw[h.tab e,Em,DS]at q;have hsz:t.place.size=es.size:=by have:=h.fits;simp only[L7,tv,beq_iff_eq]at this;exact this.1
  by_cases hlt:i<es.size
  ·rw[DV hlt]at q⊢;rw[DV (show i<t.place.size by lia)]
   have B:aT w t (i+1)=t.place[i]+1:=by
    unfold aT;rw[if_neg (by rw[e];decide)]
    show t.place.getD i 0+1=_;rw[Ew,DV (show i<t.place.size by lia)];rfl
   rw[B]at q;exact q
  ·rw[He (show es.size<=i by lia)]at q⊢
   exact q
end
end ST
namespace ST
variable{S:NS}{o:Obj}{es:Array (Int×gV)}{ep:Nat}{U:List gV}
section
variable{prog:Eg}{w:Ez}{A:ED}{E:gV->q7->Prop}{s:q7}
theorem vT:JL table "set.__iter__"=Z Fc.«frozenset.__iter__»:=Kx (id':="frozenset.__iter__") (by kernel_rfl) rfl (by decide +kernel) (by kernel_rfl)
theorem tq{it:NS}{i:Nat}{t:Tb}{v:gV}{Q:Option gV->q7->Prop}(hi:s.heap.get? it=Z (sO S (aT w t i) i es.size ep))(ho:s.heap.get? S=Z o)(hd:o.data=.set es ep t)(h:Wk w S es ep t U)(z:U[i]?=Z v)(q:∀h',h'.get? it=Z (sO S (aT w t (i+1)) (i+1) es.size ep)->Gi it s.heap h'->Q (Z v) {s with heap:=h'}):DU (model prog w) A (GH (.ref it)) Q E s:=by
 have ty:s.TypeIs (.ref it) "set_iterator":=⟨_,hi,rfl⟩;have j:i<es.size:=by have:=(DT.mp z).1;rw[h.len.1]at this;exact this
 unfold GH;refine b3 (Ho (EO (name:=F9 "__next__") ty sl_next (EH sl_next ty mP ?_ (mQ _))));show DU _ _ (N7 (.ref it)>>=_) _ _ s;unfold N7;refine b3 (b3 (K0 hi (r4 ?_)));dsimp only[sO];refine b3 (J9 ho hd h.fits ?_);rw[if_neg (by simp)]
 simp only[G6];refine b3 (ja ho hd h (i:=i) ?_ (H4 j));rw[z];dsimp only[Lj];refine b3 (EM hi (by simp) λh1 B s1=>?_)
 refine b3 (EM (s:={s with heap:=h1}) B (by simp) λh2 F s2=>?_)
 refine r4 ⟨_,rfl,r4 ?_⟩;exact q h2 F (s1.trans s2)
theorem vU{it:NS}{t:Tb}{Q:Option gV->q7->Prop}(j:A.handled=Y)(hi:s.heap.get? it=Z (sO S (aT w t es.size) es.size es.size ep))(ho:s.heap.get? S=Z o)(hd:o.data=.set es ep t)(h:Wk w S es ep t U)(q:∀h',(∀b o,b≠it->s.heap.get? b=Z o->h'.get? b=Z o)->Q Y {s with heap:=h'}):DU (model prog w) A (GH (.ref it)) Q E s:=by
 have ty:s.TypeIs (.ref it) "set_iterator":=⟨_,hi,rfl⟩;unfold GH;refine b3 (Ho (EO (name:=F9 "__next__") ty sl_next (EH sl_next ty mP ?_ (mQ _))));show DU _ _ (N7 (.ref it)>>=_) _ _ s;unfold N7;refine b3 (b3 (K0 hi (r4 ?_)));dsimp only[sO];refine b3 (J9 ho hd h.fits ?_);rw[if_neg (by simp)]
 simp only[G6];refine b3 (ja ho hd h (i:=es.size) ?_ (E2 _));rw[IF (by rw[h.len.1];exact E2 _)]
 dsimp only[Lj];refine b3 (EM hi (by simp) λh1 B s1=>?_)
 refine b3 (m:=N3 (.type "StopIteration") []) ?_;simp only[N3,newTuple];refine b3 (EX ?_ (by size_fits))
 refine b3 (m:=HA _ _) (GG (a:=FU) (by first|rfl|(simp only[HA];rfl)) (EX ?_ (by size_fits)))
 simp only[raiseNew];refine b3 (L5 ?_)
 first|rw[show A.in1.handled=Y from j]|rw[j]
 refine b3 (r4 (Mv ?_));exact b3 (GX (T:="StopIteration") (b:=NQ) ⟨_,DW _ rfl,rfl⟩ Kz (r4 (q _ λb o z e=>i2 _ (i2 _ (s1.extBut b o z e)))))
theorem xO{t:Tb}{Q:gV->q7->Prop}(ho:s.heap.get? S=Z o)(hex:o.ExactSet)(hd:o.data=.set es ep t)(h:Wk w S es ep t U)(q:Q (.ref s.heap.objs.size) {s with heap:=s.heap.push (sO S 0 0 es.size ep)}):DU (model prog w) A (JC (.ref S)) Q E s:=by
 have ty:s.TypeIs (.ref S) "set":=⟨_,ho,hex.1⟩;refine Iq ty MV (EH MV ty vT ?_ (F.args_set_iter_1 _));unfold Fc.«frozenset.__iter__» Builtin.Frozenset.slot0 slotArgs;simp only[List.isEmpty_nil,HZ,Ec,↓reduceIte,bind_assoc,Ga,bne_self_eq_false];unfold Builtin.Frozenset.addrOf Builtin.Frozenset.sizeOf;refine b3 (r4 ?_)
 try dsimp only
 refine b3 (r4 ?_);refine b3 (b3 (J9 ho hd h.fits (r4 ?_)));have j:DU (model prog w) A.in1 (setDrawn S) (λr s'=>r=NR/\s'=s) (λ_ _=>False) s:=by unfold setDrawn N6;refine b3 (FL ho hd h.fits ?_);dsimp only;refine b3 (b3 (GW (r4 ?_)));refine r4 ⟨?_,rfl⟩;show(!w.params.followText "set-order"&&(!t.plain&&decide (es.size > 1)))=NR;rw[h.plain];simp
 refine b3 (F2 j (λr s' hs=>?_) λ_ _ z=>z.elim);obtain⟨rfl,rfl⟩:=hs;simp only[Ec,if_false];refine b3 (r4 ?_);refine b3 (wpAny_setEpoch_of ho hd h.fits ?_);unfold newFields;refine b3 (EX ?_ (by size_fits))
 exact r4 ⟨_,rfl,"set_iterator",_,⟨_,DW _ rfl,rfl⟩,sl_next.lookup,q⟩
end
end ST
namespace ST
variable{es:Array (Int×gV)}{ep:Nat}{U:List gV}
section
variable{prog:Eg}{w:Ez}{A:ED}{E:gV->q7->Prop}{s:q7}
theorem mR:Slot "set_iterator" "__iter__" "set_iterator.__iter__":=.of (owner:="set_iterator") (n:="__iter__") (by rw[Gb,F6];kernel_rfl) (by decide +kernel) (by decide +kernel) (by decide +kernel) (.inl (by decide +kernel)) (by rw[Fq];kernel_rfl)
theorem vW:JL table "set_iterator.__iter__"=Z Fc.«dict_keyiterator.__iter__»:=Kx (id':="dict_keyiterator.__iter__") (by kernel_rfl) rfl (by decide +kernel) (by kernel_rfl)
theorem vX(a:gV):Ka "set_iterator.__iter__" ⟨[a],[]⟩:=by unfold Ka;kernel_rfl
theorem zd(L:A.handled=Y)(it S:NS)(F:S≠it){t:Tb}(h:Wk w S es ep t U):
 Walks prog w A it [it,S] [it] es.size (λi v=>U[i]?=Z v) (λi g=>g.get? it=Z (sO S (aT w t i) i es.size ep)/\∃o,g.get? S=Z o/\o.data=.set es ep t) where
 sub:=λb j=>by simp at j;simp[j]
 frame:=λ_ _ _ st k=>⟨k it (by simp) _ st.1,by obtain⟨o,h1,h2⟩:=st.2;exact⟨o,k S (by simp) _ h1,h2⟩⟩
 item:=λi s Q E hi st q=>by
  obtain⟨h1,o,h2,B⟩:=st;have J:U[i]?=Z (U[i]'(by rw[h.len.1];exact hi)):=z4 _
  refine tq h1 h2 B h J λh' e' s'=>?_;exact q _ h' s.toks J ⟨e',o,s'.extBut S _ F h2,B⟩ λb o j x=>s'.extBut b o (λz=>j (by simp[z])) x
 done:=λs Q E st q=>by obtain⟨h1,o,h2,B⟩:=st;exact vU L h1 h2 B h λh' k=>q h' s.toks λb o j x=>k b o (λz=>j (by simp[z])) x
 self:=λi s Q E st q=>Iq ⟨_,st.1,rfl⟩ mR (EH mR ⟨_,st.1,rfl⟩ vW (by obtain⟨h1,_⟩:=st;unfold Fc.«dict_keyiterator.__iter__»;show DU _ _ (ret (Eb it)) _ _ _;exact r4 ⟨_,rfl,"set_iterator",_,⟨_,h1,rfl⟩,sl_next.lookup,q⟩) (vX _))
theorem tt{S:NS}{Q:Bool->q7->Prop}(ty:s.TypeIs (.ref S) "set")(q:Q NR s):DU (model prog w) A (Gn (.ref S)) Q E s:=by
 unfold Gn;refine b3 (I8 ty F.slot_set_len.lookup ?_);generalize j:("set.__len__":String)=z
 (fail_if_success (clear j z));wp_delta
 rw[show splitId z=Z ("set","__len__")from by subst j;decide +kernel]
 subst j;refine b3 (GX (b:=NQ) ty (by rw[Fq];kernel_rfl) ?_)
 rw[if_neg (by decide)]
 refine Jr (by decide +kernel) ?_
 refine b3 (GF ty ?_);exact r4 q
open Builtin.List in
theorem vY(hn:A.handled=Y){S d:NS}{o:Obj}{c:Nat}{t:Tb}{R:Kr->q7->Prop}(res:gV)(ho:s.heap.get? d=Z o)(hex:o.ExactSet)(hd:o.data=.set es ep t)(h:Wk w d es ep t U)(hS:s.heap.get? S=Z {cls:=.type "list",data:=.seq #[] c})(hz:es.size<=D2)(q:∀(h':Heap) (tk:Nat) (acc':Array gV) (c':Nat),(∀b o,b≠S->s.heap.get? b=Z o->h'.get? b=Z o)->h'.get? S=Z {cls:=.type "list",data:=.seq acc' c'}->acc'.toList=U->s.toks<=tk->R (.ok (.ret res)) {s with heap:=h',toks:=tk}):
 DU (model prog w) A.in1 (listExtendWith (.ref S) (.ref d) res) (λfin s'=>match fin with|.done f=>R (.ok f) s'|.again c'=>c'.quiet=NQ/\Gj (model prog w) A c' R s') (λe s'=>R (.error e) s') s:=by
 have ty:s.TypeIs (.ref d) "set":=⟨_,ho,hex.1⟩;have J:S≠d:=λe=>by rw[e,ho]at hS;cases hS;cases hd
 have h1:listSameRef (.ref S) (.ref d)=NR:=by simp[listSameRef,J]
 unfold listExtendWith;refine b3 (GF ty ?_);rw[if_neg (by rw[h1];decide)]
 refine b3 (xO ho hex hd h ?_);refine b3 (ES (tt (s:={s with heap:=s.heap.push (sO d 0 0 es.size ep)}) ⟨_,i2 _ ho,hex.1⟩ ?_))
 have B:=D0 hS;have L:=D0 ho;have W:=(zd (prog:=prog) (w:=w) (A:=A.in1) hn s.heap.objs.size d (Ep L) h).toS;have BG:aT w t 0=0:=by unfold aT;split<;>rfl
 have BH:S∉[s.heap.objs.size,d]:=λhm=>by
  simp only[DX,EU,or_false]at hm
  rcases hm with e|e
  ·exact absurd (e▸B) (EB _)
  ·exact J e
 refine Jr (by decide +kernel) ?_
 refine b3 (Ha ?_);unfold listTouch;have O:(s.heap.push (sO d 0 0 es.size ep)).get? S=Z (Ll "list" #[] c):=i2 _ hS;refine b3 (b3 (GN O rfl ?_ (by simp) (by simp)))
 have NP:=Gf O (λx=>x.push FU);refine GN NP rfl ?_ (by simp;decide) (by simp)
 have BI:=Gf NP (λx=>x.pop);have oth:∀b o,b≠S->s.heap.get? b=Z o->(((s.heap.push (sO d 0 0 es.size ep)).update S (Fl λx=>x.push FU)).update S (Fl λx=>x.pop)).get? b=Z o:=λb o fv e=>by rw[EL _ _ _ _ fv,EL _ _ _ _ fv];exact i2 _ e
 have hit:(((s.heap.push (sO d 0 0 es.size ep)).update S (Fl λx=>x.push FU)).update S (Fl λx=>x.pop)).get? s.heap.objs.size=Z (sO d 0 0 es.size ep):=by rw[EL _ _ _ _ (F8 B),EL _ _ _ _ (F8 B)];exact DW _ rfl
 refine r4 ⟨HW HK _,KA W hz _ BH _ es.size 0 _ _ _ rfl (ER _) ⟨by rw[BG];exact hit,_,oth d _ J.symm ho,hd⟩ BI (ItemsOf.nil _) λs' acc c' hm BJ ha=>?_⟩
 rw[hm.eq_with];refine q _ _ acc c' (λb o fv e=>?_) BJ ?_ hm.toks
 ·exact hm.heap b o (fun z=>by
   simp only[DX,EU,or_false]at z
   rcases z with z|z
   ·exact fv z
   ·exact absurd (z▸D0 e) (EB _)) (oth b o fv e)
 ·obtain⟨g1,g2⟩:=ha;apply Iu;intro j;rw[DS]
  by_cases hj:j<es.size
  ·have hv:=g2 j (acc[j]'∅) (DV ∅)
   rw[hv,DV ∅]
  ·rw[He ∅,IF (by rw[h.len.1];lia)]
theorem collect_set(J:A.handled=Y){d:NS}{o:Obj}{t:Tb}{Q:List gV->q7->Prop}(ho:s.heap.get? d=Z o)(hex:o.ExactSet)(hd:o.data=.set es ep t)(h:Wk w d es ep t U)(L:es.size<=D2)(q:∀(h':Heap) (tk:Nat),(∀b o,s.heap.get? b=Z o->h'.get? b=Z o)->s.toks<=tk->Q U {s with heap:=h',toks:=tk}):DU (model prog w) A (collect (.ref d)) Q E s:=by
 unfold collect;refine b3 (KI (Fi Kn ?_));unfold Fc.«proto.collect»;dsimp only;refine b3 (IV ?_ (by simp))
 refine r4 ⟨Ie _ (by decide +kernel),?_⟩
 refine Fi Mh ?_;unfold Fc.«list.__iadd__»;refine b3 (GG (a:=(Eb s.heap.objs.size,[Eb d])) (by kernel_rfl) ?_)
 have hS0:(s.heap.push {cls:=EG "list",data:=GU [].toArray}).get? s.heap.objs.size=Z {cls:=EG "list",data:=GU #[] 0}:=DW _ rfl;rw[Jl (by rfl) (by rfl)]
 refine F2 (vY (s:={s with heap:=s.heap.push {cls:=EG "list",data:=GU [].toArray}}) (R:=λr s'=>r=.ok (.ret (.ref s.heap.objs.size))/\DU (model prog w) A (do
  let o <-load s.heap.objs.size
  match o.data with
  |.seq xs _=>pure xs.toList
  |_=>unsupported "internal:collect") Q E s') J (Eb s.heap.objs.size) (i2 _ ho) hex hd h hS0 L λh' tk acc c' kp j O z=>⟨rfl,?_⟩) (λfn s' h=>?_) (λe s' h=>?_)
 ·refine b3 (K0 j ?_);refine r4 ?_;rw[O];exact q h' tk (λb o e=>kp b o (Ep (D0 e)) (i2 _ e)) z
 ·cases fn with
  |done f=>
   obtain⟨e,h⟩:=h
   cases e
   exact h
  |again c'=>refine⟨h.1,FY h.2 λr s1 B=>?_⟩;obtain⟨rfl,B⟩:=B;exact B
 ·cases h.1
end
end ST
namespace Mi
open L2.Srt
noncomputable def b4(ks:List Int):D:=.tup (ks.map .int)
noncomputable def br(ks:List (List Int)):List (List Int):=ks.foldl (λcs k=>if k∈cs then cs else cs++[k]) []
theorem el{ks:List (List Int)}{k:List Int}:br (ks++[k])=if k∈br ks then br ks else br ks++[k]:=by unfold br;rw[LQ];rfl
theorem qw{xs:List (List Int×NS)}:(ST.gath xs).map (·.1)=br (xs.map (·.1)):=
 ST.snoc_rec (P:=λxs=>(ST.gath xs).map (·.1)=br (xs.map (·.1))) rfl (λl x ih=>by
  rw[ST.gath_snoc,GD,Lm,el,<-ih];unfold ST.addK
  by_cases h:x.1∈(ST.gath l).map (·.1)
  ·rw[if_pos h,if_pos h]
  ·rw[if_neg h,if_neg h,GD];rfl) xs
noncomputable def gP(ta:TEd):TEd:=λρ M Q=>ta ρ M λx M1=>∃a kss sh,x=.ref a/\M1 a=Z (.lst (kss.map b4))/\da sh=NQ/\(∀ks∈kss,hs sh (b4 ks)=NQ)/\kss.length<=63/\∀p ys,M1 p=Y->ys.Perm ((br kss).map b4)->db ys->Q (.ref p) (af M1 p (.lst ys))
theorem ot{ta:TEd}(h:ab ta):ab (gP ta):=λρ M Q Q' i q=>h _ _ _ _ (λx U j=>(by obtain⟨a,kss,sh,e,z,B,F,J,L⟩:=j;exact⟨a,kss,sh,e,z,B,F,J,λp ys n O hs=>i _ _ (L p ys n O hs)⟩)) q
section
variable{X:Cx}
noncomputable abbrev tkI(X:Cx):Hl X.prog X.w (List Int):=Hm (KO X.prog X.w)
theorem gQ:∀{ns:List Int} {us:List gV},Vals (ns.map V.int) us->ItemsAre (KO X.prog X.w) ns us
 |[],us,h=>by cases h;exact .nil
 |n::ns,us,h=>by
  rw[Eu]at h
  cases h with
  |cons h1 h2=>obtain⟨t,rfl⟩:=h1;exact .cons (intKind_is _ _ _ _) (gQ h2)
theorem A2{pins:List (NS×Obj)}{σ:St}{H:Hp}{s:q7}(I:Inv X pins σ H s){ns:List Int}{v:V}{u:gV}(r:RD X.K H (b4 ns) v)(rv:RelV v u):∃b,v=.ref b/\u=.ref b/\(tkI X).is s.heap ns b:=by obtain⟨b,us,rfl,j,ru⟩:=Nx r;have e:=ND ru;subst e;obtain⟨its,r',pl,_⟩:=I.tuple j;obtain⟨o,ho,z,n,hd⟩:=pl;have eu:u=.ref b:=rv;refine⟨b,rfl,eu,o,its.toArray,n,ho,z,hd,?_⟩;have:=gQ (X:=X) r';simpa using this
theorem um{pins:List (NS×Obj)}{σ:St}{H:Hp}{s:q7}(I:Inv X pins σ H s):∀{kss:List (List Int)} {vs:List V} {us:List gV},RDs X.K H (kss.map b4) vs->Vals vs us->
 ∃xs:List (List Int×NS),xs.map (·.1)=kss/\us=xs.map (λx=>Eb x.2)/\∀x∈xs,RD X.K H (b4 x.1) (.ref x.2)/\(tkI X).is s.heap x.1 x.2
 |[],vs,us,h,j=>by
  obtain rfl:=RDs.nil_iff.mp h
  cases j
  exact⟨[],rfl,rfl,λx hx=>absurd hx EU⟩
 |k::kss,vs,us,h,j=>by
  obtain⟨v,r,rfl,h1,h2⟩:=Nu.mp h
  cases j with
  |cons g1 g2=>
   obtain⟨b,rfl,rfl,z⟩:=A2 I h1 g1;obtain⟨xs,B,F,J⟩:=um I h2 g2;refine⟨(k,b)::xs,by rw[Eu,B],by rw[Eu,F],λx hx=>?_⟩
   rcases DX.mp hx with rfl|hx
   ·exact⟨h1,z⟩
   ·exact J x hx
theorem tu:ST.MonoK (tkI X):=λ{h h' k x} hx j=>by obtain⟨o,items,n,ho,rest⟩:=hx;exact⟨o,items,n,j o ho,rest⟩
theorem mU{H:Hp}:∀{bs:List (List Int×NS)},(∀x∈bs,RD X.K H (b4 x.1) (.ref x.2))->RDs X.K H (bs.map λb=>b4 b.1) (bs.map λb=>V.ref b.2)
 |[],_=>RDs.nil
 |b::bs,h=>RDs.cons (h b Ey) (mU λx hx=>h x (Ee _ hx))
theorem kN:∀{bs:List (List Int×NS)},Vals (bs.map λb=>V.ref b.2) (bs.map λb=>Eb b.2)
 |[]=>.nil
 |b::bs=>.cons rfl kN
theorem tw{e:Expr}{ta:TEd}{p p2 pos fv:Pos}(hu:X.A.units+16<GZ)(m:ab ta)(hc:X.calm=NQ)(he:PE X e (lE X.K ta))(hg:Gl X "sorted")(hm:X.mg "sorted"=Y)(BH:Gl X "set")(BI:X.mg "set"=Y)(BG:EA [e] X.env=[(NR,eval e X.env)]):
 PE X (.Call (.Name "sorted" p) [.Call (.Name "set" p2) [e] [] fv] [] pos) (lE X.K (gP ta)):=by
 intro pins s σ H Q I h;obtain⟨ρ,M,rs,rm,h⟩:=h;refine Fe (bR I hg hm (u:=.builtin "sorted") (by decide +kernel) ?_ (by decide) (by decide))
 refine GS ?_ rfl rfl;refine Fz ?_;refine Fe (bR I BH BI (u:=.type "set") (by decide +kernel) ?_ (by decide) (by decide))
 refine FF ?_ (by rw[BG];rfl) rfl
 rw[BG];refine Fz (thn (he pins s σ H (λv H1=>∃F a kss sh,Ext M H F H1/\RM X.K F H1/\v=.ref a/\F a=Z (.lst (kss.map b4))/\da sh=NQ/\(∀ks∈kss,hs sh (b4 ks)=NQ)/\kss.length<=63/\∀p ys,F p=Y->ys.Perm ((br kss).map b4)->db ys->KE' X.K M H Q (.ref p) (af F p (.lst ys))) I ⟨ρ,M,rs,rm,m _ _ _ _ (λx F ⟨a,kss,sh,e,e1,e2,e3,e4,q1⟩ v H1 x1 j BJ=>by subst e;exact⟨F,a,kss,sh,x1,j,Nt.mp BJ,e1,e2,e3,e4,q1⟩) h⟩) λu s1 ⟨x,H1,I1,r1,F,a,kss,sh,x1,j,ex,e1,hok,hsh,BV,q⟩=>?_)
 subst ex;obtain rfl:u=Eb a:=r1;refine G4 ?_;obtain⟨vs,sq,rvs⟩:=j _ _ e1;obtain⟨its,rv,pl,hz⟩:=I1.list (.inl (Rd.of sq));obtain⟨xs,J,BK,O⟩:=um I1 rvs rv;subst BK;have BW:xs.length=kss.length:=by rw[<-J,DY]
 refine ST.call_set_listT (s:=s1) (knd:=tkI X) ST.tuple_seen ST.tuple_keepS ST.tuple_byVal tu (by simpa using I1.ok.hd hc) pl.isList (λx hx=>(O x hx).2) (λx hx=>?_) ∅ (λB hB=>by show B.units<GZ;lia) λh' t' hS kp=>?_
 ·obtain⟨o,items,n,ho,_⟩:=(O x hx).2;exact D0 ho
 refine G4 ?_;have kp':∀b o,s1.heap.get? b=Z o->h'.get? b=Z o:=λb o e=>kp b o (D0 e) e;have I2:Inv X pins σ H1 {s1 with heap:=h',toks:=t'}:=I1.kept (t':=t') kp'
 obtain⟨o,es,ep,t,L,bs,ho,hex,hd,G,BX,BY,hb,_,hp,BZ,BL,BM⟩:=hS
 let U:List gV:=if X.w.params.followText "set-order" then(pickOrder (X.w.params.setOrder s1.heap.objs.size ep) es).toList.map (·.2)else es.toList.map (·.2)
 have W:ST.Wk X.w s1.heap.objs.size es ep t U:=⟨G.fits ∅,BL,BM,by rw[G.place];exact G.srt,λe=>if_pos e,λe=>if_neg (by rw[e];decide)⟩
 have hU:U.Perm (bs.map λb=>Eb b.2):=by have h1:=W.len.2;rw[hb,Gq]at h1;exact h1
 obtain⟨bs',eU,BN⟩:=ST.unlift hU;have z:bs'.Perm (ST.gath xs):=BN.trans hp;have BO:∀b∈bs',RD X.K H1 (b4 b.1) (.ref b.2):=λb NP=>(O b (ST.gath_mem xs b (z.mem_iff.mp NP))).1;have hlen:bs'.length<=63:=by have h1:=z.length_eq;have h2:=ST.gath_len xs;lia
 have BP:es.size<=D2:=by have h1:=W.len.1;rw[eU,DY]at h1;rw[Ek];lia
 rw[eU]at W;refine lJ lH hu I2 j (es:=bs'.map λb=>b4 b.1) (vs:=bs'.map λb=>V.ref b.2) (sh:=sh) (p:=s1.heap.objs.size) (mU BO) hok (λd BQ=>?_) (λp ys n BR BS=>(q p ys n ?_ BS).ext x1) kN (by rw[DY,Ek];lia) (by rw[DY];exact hlen) λE R hR=>?_
 ·obtain⟨b,NP,rfl⟩:=Ej.mp BQ;refine hsh _ ?_;rw[<-J];exact E6 (ST.gath_mem xs b (z.mem_iff.mp NP))
 ·refine BR.trans ?_;have h1:=(z.map λb=>b.1).map b4;rw[Gq,qw,J]at h1;exact h1
 ·exact ST.collect_set (A:=X.A.in1) (by simpa using I2.ok.hd hc) ho hex hd W BP λBU tk'' k2 ht=>hR BU tk'' k2 ht
end
end Mi
namespace Mi
end Mi
namespace Mi
end Mi
namespace Mi
end Mi
namespace It
end It
namespace Mi
end Mi
namespace Mi
end Mi
namespace Mi
open L2.Srt
end Mi
namespace Mi
end Mi
namespace Mi
end Mi
namespace Mi
section
mutual
noncomputable def GV(K:Frag):D->gV->Prop
 |.int i,v=>∃t,v=.int i t
 |.str x,v=>∃t,v=.str x t
 |.tup ds,v=>∃a o its n,v=.ref a/\K.lookup a=Z o/\o.cls=.type "tuple"/\o.data=.seq its n/\its.size<=D2/\fk ds=NR/\GVs K ds its.toList
 |_,_=>False
noncomputable def GVs(K:Frag):List D->List gV->Prop
 |[],us=>us=[]
 |d::ds,us=>∃u r,us=u::r/\GV K d u/\GVs K ds r
end
end
end Mi
namespace Mi
end Mi
namespace Mi
section
inductive BOp where|add|sub|mul|fdiv|mod|pow
inductive COp where|eq|ne|lt|gt|ge
inductive BF where|len|abs|min2|int|list|sum
inductive MF where|append
set_option genCtorIdx false
set_option genInjectivity false
mutual
inductive MG where
 |name (i:Nat)
 |tup (gs:MGs)
inductive MGs where
 |nil
 |cons (g:MG) (r:MGs)
end
mutual
inductive ME where
 |var (i:Nat)
 |int (i:Int)
 |bl (b:Bool)
 |non
 |bin (op:BOp) (a b:ME)
 |neg (a:ME)
 |cmp (op:COp) (a b:ME)
 |and (es:MEs)
 |or (es:MEs)
 |not (a:ME)
 |ite (c:MT) (a b:ME)
 |tup (es:MEs)
 |lst (es:MEs)
 |ix (a b:ME)
 |sl (a:ME) (lo hi:MO)
 |call (f:Nat) (es:MEs)
 |blt (f:BF) (es:MEs)
 |isin (a:ME) (T:String)
 |lrev (a:ME)
 |sortT (a:ME)
 |dnew (t:Bool)
 |sortI (a:ME)
 |dget (o k x:ME)
 |meth (m:MF) (o a:ME)
 |comp (fr:List (Option Nat)) (N:List Str) (c:MC)
inductive MEs where
 |nil
 |cons (e:ME) (r:MEs)
inductive MO where
 |none
 |some (e:ME)
inductive MT where
 |tru (e:ME)
 |cmp (op:COp) (a b:ME)
 |and (ts:MTs)
 |or (ts:MTs)
 |not (t:MT)
inductive MTs where
 |nil
 |cons (t:MT) (r:MTs)
inductive MI where
 |seq (e:ME)
 |rng1 (a:ME)
inductive MC where
 |last (src:MI) (g:MG) (ifs:MTs) (elt:ME)
 |more (src:MI) (g:MG) (ifs:MTs) (rest:MC)
end
mutual
inductive MS where
 |asg (g:MG) (e:ME)
 |put (o i e:ME)
 |drop (e:ME)
 |ret (e:ME)
 |ite (c:MT) (a b:MSs)
 |for (g:MG) (src:MI) (b:MSs)
 |while (c:MT) (b:MSs)
 |pass|brk|cnt
inductive MSs where
 |nil
 |cons (s:MS) (r:MSs)
end
set_option genCtorIdx true
set_option genInjectivity true
noncomputable def opB:BOp->R2d
 |.add=>dw|.sub=>jZ|.mul=>fK|.fdiv=>gz|.mod=>ka|.pow=>kb
noncomputable def opC:COp->R2d
 |.eq=>wEq|.ne=>wNe|.lt=>wLt| .gt=>wGt|.ge=>wGe
noncomputable def opF:BF->RAd
 |.len=>dy| .abs=>ie| .min2=>gA|.int=>ig|.list=>jn| .sum=>nM
noncomputable def opM:MF->D->List D->Mem->QD->Prop
 |.append=>eQ
theorem kO:∀o,aM (opB o)
 |.add=>rR|.sub=>rS|.mul=>rT|.fdiv=>pJ|.mod=>rV|.pow=>rW
theorem dF:∀o,aM (opC o)
 |.eq=>uY|.ne=>uZ|.lt=>v6| .gt=>v7|.ge=>v8
theorem tz:∀o,aX (opF o)
 |.len=>kh| .abs=>ki| .min2=>iQ|.int=>kj|.list=>iR| .sum=>kl
theorem tD:∀o,jw (opM o)
 |.append=>fD
noncomputable abbrev Phi:=Nat->RAd
mutual
noncomputable def bG:MG->BT
 |.name i=>jx i
 |.tup gs=>sr (bGs gs)
noncomputable def bGs:MGs->BTs
 |.nil=>so
 |.cons g r=>gB (bG g) (bGs r)
end
mutual
noncomputable def wE(Φ:Phi):ME->TEd
 |.var i=>i6 i
 |.int i=>wC (.int i)
 |.bl b=>wC (.bl b)
 |.non=>wC .non
 |.bin op a b=>wOp (opB op) (wE Φ a) (wE Φ b)
 |.neg a=>wUn kc (wE Φ a)
 |.cmp op a b=>wOp (opC op) (wE Φ a) (wE Φ b)
 |.and es=>wAnds Φ es
 |.or es=>wOrs Φ es
 |.not a=>jt (wE Φ a)
 |.ite c a b=>wIf (wT Φ c) (wE Φ a) (wE Φ b)
 |.tup es=>wAr nH (wA Φ es)
 |.lst es=>wAr nI (wA Φ es)
 |.ix a b=>wOp wIx (wE Φ a) (wE Φ b)
 |.sl a lo hi=>wSl (wE Φ a) (wO Φ lo) (wO Φ hi)
 |.call f es=>wAr (Φ f) (wA Φ es)
 |.blt f es=>wAr (opF f) (wA Φ es)
 |.isin a T=>jv T (wE Φ a)
 |.lrev a=>jm (wE Φ a)
 |.sortT a=>gP (wE Φ a)
 |.dnew t=>jB t
 |.sortI a=>gM (wE Φ a)
 |.dget o k x=>jF (wE Φ o) (wE Φ k) (wE Φ x)
 |.meth m o a=>wBM (opM m) (wE Φ o) (cg (wE Φ a) cY)
 |.comp fr _ c=>wCmp Φ fr c
noncomputable def wA(Φ:Phi):MEs->TAd
 |.nil=>cY
 |.cons e r=>cg (wE Φ e) (wA Φ r)
noncomputable def wAnds(Φ:Phi):MEs->TEd
 |.nil=>λ_ _ _=>False
 |.cons e .nil=>wE Φ e
 |.cons e (.cons f r)=>jr (wE Φ e) (wAnds Φ (.cons f r))
noncomputable def wOrs(Φ:Phi):MEs->TEd
 |.nil=>λ_ _ _=>False
 |.cons e .nil=>wE Φ e
 |.cons e (.cons f r)=>nQ (wE Φ e) (wOrs Φ (.cons f r))
noncomputable def wO(Φ:Phi):MO->TOd
 |.none=>eP
 |.some e=>ju (wE Φ e)
noncomputable def wT(Φ:Phi):MT->TTd
 |.tru e=>nO (wE Φ e)
 |.cmp op a b=>i7 (wOp (opC op) (wE Φ a) (wE Φ b))
 |.and ts=>wAndTs Φ ts
 |.or ts=>wOrTs Φ ts
 |.not t=>jo (wT Φ t)
noncomputable def wAndTs(Φ:Phi):MTs->TTd
 |.nil=>λ_ _ _=>False
 |.cons e .nil=>wT Φ e
 |.cons e (.cons f r)=>jq (wT Φ e) (wAndTs Φ (.cons f r))
noncomputable def wOrTs(Φ:Phi):MTs->TTd
 |.nil=>λ_ _ _=>False
 |.cons e .nil=>wT Φ e
 |.cons e (.cons f r)=>nP (wT Φ e) (wOrTs Φ (.cons f r))
noncomputable def wTl(Φ:Phi):MTs->List TTd
 |.nil=>[]
 |.cons t r=>wT Φ t::wTl Φ r
noncomputable def wI(Φ:Phi):MI->TId
 |.seq e=>nS (wE Φ e)
 |.rng1 a=>jy (cg (wE Φ a) cY)
noncomputable def wCl(Φ:Phi):MC->TCd
 |.last src g ifs elt=>cG (wI Φ src) (bG g) (aR (wTl Φ ifs) (cS (wE Φ elt)))
 |.more src g ifs rest=>cG (wI Φ src) (bG g) (aR (wTl Φ ifs) (wCl Φ rest))
noncomputable def wCmp(Φ:Phi)(fr:List (Option Nat)):MC->TEd
 |.last src g ifs elt=>eV fr (wI Φ src) (bG g) (aR (wTl Φ ifs) (cS (wE Φ elt)))
 |.more src g ifs rest=>eV fr (wI Φ src) (bG g) (aR (wTl Φ ifs) (wCl Φ rest))
end
mutual
noncomputable def wS(Φ:Phi):MS->TSd
 |.asg g e=>ii (wE Φ e) (bG g)
 |.put o i e=>nZ (wE Φ e) (wE Φ o) (wE Φ i)
 |.drop e=>jA (wE Φ e)
 |.ret e=>nT (wE Φ e)
 |.ite c a b=>sIf (wT Φ c) (wSs Φ a) (wSs Φ b)
 |.for g src b=>nU (wI Φ src) (bG g) (wSs Φ b)
 |.while c b=>gF (wT Φ c) (wSs Φ b)
 |.pass=>gD
 |.brk=>gE
 |.cnt=>jz
noncomputable def wSs(Φ:Phi):MSs->TSd
 |.nil=>gD
 |.cons s r=>sx (wS Φ s) (wSs Φ r)
end
section
variable{Φ:Phi}(hΦ:∀f,aX (Φ f))
include hΦ
mutual
theorem mE:∀m,ab (wE Φ m)
 |.var _=>rN
 |.int _=>jW
 |.bl _=>jW
 |.non=>jW
 |.bin op a b=>df (kO op) (mE a) (mE b)
 |.neg a=>uU ke (mE a)
 |.cmp op a b=>df (dF op) (mE a) (mE b)
 |.and es=>mAnds es
 |.or es=>mOrs es
 |.not a=>pR (mE a)
 |.ite c a b=>vf (mT c) (mE a) (mE b)
 |.tup es=>eM pF (mA es)
 |.lst es=>eM pG (mA es)
 |.ix a b=>df mj (mE a) (mE b)
 |.sl a lo hi=>vj (mE a) (mO lo) (mO hi)
 |.call f es=>eM (hΦ f) (mA es)
 |.blt f es=>eM (tz f) (mA es)
 |.isin a T=>pU (mE a)
 |.lrev a=>pI (mE a)
 |.sortT a=>ot (mE a)
 |.dnew _=>qb
 |.sortI a=>oj (mE a)
 |.dget o k x=>qt (mE o) (mE k) (mE x)
 |.meth m o a=>vt (tD m) (mE o) (cj (mE a) bH)
 |.comp fr _ c=>mCmp fr c
theorem mA:∀m,ba (wA Φ m)
 |.nil=>bH
 |.cons e r=>cj (mE e) (mA r)
theorem mAnds:∀m,ab (wAnds Φ m)
 |.nil=>λ_ _ _ _ _ q=>q.elim
 |.cons e .nil=>mE e
 |.cons e (.cons f r)=>pQ (mE e) (mAnds (.cons f r))
theorem mOrs:∀m,ab (wOrs Φ m)
 |.nil=>λ_ _ _ _ _ q=>q.elim
 |.cons e .nil=>mE e
 |.cons e (.cons f r)=>sj (mE e) (mOrs (.cons f r))
theorem mO:∀m,dA (wO Φ m)
 |.none=>lz
 |.some e=>pT (mE e)
theorem mT:∀m,av (wT Φ m)
 |.tru e=>sg (mE e)
 |.cmp op a b=>rP (df (dF op) (mE a) (mE b))
 |.and ts=>mAndTs ts
 |.or ts=>mOrTs ts
 |.not t=>pO (mT t)
theorem mAndTs:∀m,av (wAndTs Φ m)
 |.nil=>λ_ _ _ _ _ q=>q.elim
 |.cons e .nil=>mT e
 |.cons e (.cons f r)=>pP (mT e) (mAndTs (.cons f r))
theorem mOrTs:∀m,av (wOrTs Φ m)
 |.nil=>λ_ _ _ _ _ q=>q.elim
 |.cons e .nil=>mT e
 |.cons e (.cons f r)=>si (mT e) (mOrTs (.cons f r))
theorem mTl:∀m,∀t∈wTl Φ m,av t
 |.nil=>by rw[wTl];intro t j;simp at j
 |.cons t r=>by
  rw[wTl];intro t' j
  rcases DX.mp j with e|e
  ·rw[e];exact mT t
  ·exact mTl r t' e
theorem mI:∀m,cB (wI Φ m)
 |.seq e=>sv (mE e)
 |.rng1 a=>pX (cj (mE a) bH)
theorem mCl:∀m,bx (wCl Φ m)
 |.last src g ifs elt=>fE (mI src) (aB (bb (mE elt)) (mTl ifs))
 |.more src g ifs rest=>fE (mI src) (aB (mCl rest) (mTl ifs))
theorem mCmp(fr:List (Option Nat)):∀m,ab (wCmp Φ fr m)
 |.last src g ifs elt=>iS (mI src) (aB (bb (mE elt)) (mTl ifs))
 |.more src g ifs rest=>iS (mI src) (aB (mCl rest) (mTl ifs))
end
mutual
theorem mS:∀m,aA (wS Φ m)
 |.asg g e=>sC (mE hΦ e)
 |.put o i e=>sL (mE hΦ e) (mE hΦ o) (mE hΦ i)
 |.drop e=>q0 (mE hΦ e)
 |.ret e=>sy (mE hΦ e)
 |.ite c a b=>sB (mT hΦ c) (mSs a) (mSs b)
 |.for g src b=>sD (mI hΦ src) (mSs b)
 |.while c b=>nW (mT hΦ c) (mSs b)
 |.pass=>iU
 |.brk=>nV
 |.cnt=>pY
theorem mSs:∀m,aA (wSs Φ m)
 |.nil=>iU
 |.cons s r=>pZ (mS s) (mSs r)
end
end
end
variable{e:Expr}{es:List Expr}{env:Env}{l:Nat}
section
structure Ctx where
 Γ:List Str
 N:List Str
 sc:Scope
 fn:List Str
 cs:List (Str×D)
 lm:Nat
 nm:Str
noncomputable def glB(sc:Scope)(x:Str):Bool:=sc.names.lookup x==Z .globalImplicit
noncomputable def tE(sc:Scope)(x:Str):Bool:=sc.names.lookup x==Z .local || sc.names.lookup x==Z .cell || sc.names.lookup x==Z .free
noncomputable def tF(sc:Scope)(x:Str):Bool:=sc.names.lookup x==Z .local || sc.names.lookup x==Z .cell
noncomputable def aY:Expr->Bool
 |.Starred ..=>NR
 |_=>NQ
noncomputable def qx:Expr->Bool
 |.Name ..|.Call ..|.Subscript ..|.Constant ..|.BinOp ..|.Attribute ..=>NQ
 |_=>NR
noncomputable def iu:Expr->Bool
 |.Slice ..=>NR
 |_=>NQ
noncomputable def gR:Expr->Bool
 |.ListComp ..|.SetComp ..|.DictComp ..=>NR
 |_=>NQ
noncomputable def ou:Expr->Bool
 |.Set ..=>NR
 |_=>NQ
noncomputable def fj:Expr->Bool
 |.Call _ (_::_) _ _=>NQ
 |.Call ..=>NR
 |_=>NQ
noncomputable def opO:BOp->Lq
 |.add=>.Add|.sub=>.Sub|.mul=>.Mult|.fdiv=>.FloorDiv|.mod=>.Mod|.pow=>.Pow
noncomputable def tG:COp->CmpOp
 |.eq=>.Eq|.ne=>.NotEq|.lt=>.Lt| .gt=>.Gt|.ge=>.GtE
noncomputable def kP:BF->Str
 |.len=>"len"| .abs=>"abs"| .min2=>"min"|.int=>"int"|.list=>"list"| .sum=>"sum"
noncomputable def xP:MF->Str
 |.append=>"append"
noncomputable def bltNames:List Str:=["len","abs","max","min","int","list","tuple","sum","isinstance","range","bool","str","dict","zip","enumerate","reversed","sorted","all","any","set"]
noncomputable def fX(sc osc:Scope):Scope:={sc with names:=sc.names.map λ(n,k)=>if(k==.free&&osc.kind==.function&&osc.names.lookup n==Z .cell)then(n,.cell)else(n,k)}
theorem lL(sc:Scope)(env:Env):relabel sc env=fX sc env.scope:=rfl
noncomputable def tH(sc osc:Scope)(oN N':List Str)(fr:List (Option Nat)):Bool:=
 decide (sc.kind=.function)&&decide ((sc.names.map (·.1)).Nodup)&&decide (N'.Nodup)
  && sc.names.all (λx=>!(x.2==.free) || osc.names.lookup x.1==Z .cell || osc.names.lookup x.1==Z .free)
  && decide (fr.length=N'.length)
  && (FW N'.length).all λi=>match fr[i]?,N'[i]? with
   |some (Z j),Z x=>decide (oN[j]?=Z x)&&sc.names.any (λy=>decide (y=(x,EC)))
   |_,_=>NQ
theorem pk{p:Prop}[d:Decidable p]{t:p->Bool}(h:dite p t (λ_=>NR)=NQ):∃c,t c=NQ:=by
 cases d with
 |isTrue c=>exact⟨c,h⟩
 |isFalse c=>cases h
noncomputable def gT(e:Expr)(f:Str->Pos->Bool):Bool:=if h:e.ctorIdx=23 then @Nj.elim (λ_=>Bool) e h f else NR
@[elab_as_elim]
theorem jI{P:Expr->Prop}(e:Expr){f:Str->Pos->Bool}(h:gT e f=NQ)(k:∀a b,f a b=NQ->P (.Name a b)):P e:=(pk h).elim λc=>@Nj.elim (λe=>∀c,@Nj.elim (λ_=>Bool) e c f=NQ->P e) e c (λa b _=>k a b) c
noncomputable def cX(e:Expr)(f:Const->Nat->Pos->Bool):Bool:=if h:e.ctorIdx=19 then @L8.elim (λ_=>Bool) e h f else NR
@[elab_as_elim]
theorem et{P:Expr->Prop}(e:Expr){f:Const->Nat->Pos->Bool}(h:cX e f=NQ)(k:∀a b c,f a b c=NQ->P (.Constant a b c)):P e:=(pk h).elim λc=>@L8.elim (λe=>∀c,@L8.elim (λ_=>Bool) e c f=NQ->P e) e c (λa b c _=>k a b c) c
noncomputable def qy(e:Expr)(f:Expr->Lq->Expr->Pos->Bool):Bool:=if h:e.ctorIdx=2 then @N8.elim (λ_=>Bool) e h f else NR
@[elab_as_elim]
theorem xQ{P:Expr->Prop}(e:Expr){f:Expr->Lq->Expr->Pos->Bool}(h:qy e f=NQ)(k:∀a b c d,f a b c d=NQ->P (.BinOp a b c d)):P e:=(pk h).elim λc=>@N8.elim (λe=>∀c,@N8.elim (λ_=>Bool) e c f=NQ->P e) e c (λa b c d _=>k a b c d) c
noncomputable def dG(e:Expr)(f:UnaryOp->Expr->Pos->Bool):Bool:=if h:e.ctorIdx=3 then @LR.elim (λ_=>Bool) e h f else NR
@[elab_as_elim]
theorem fY{P:Expr->Prop}(e:Expr){f:UnaryOp->Expr->Pos->Bool}(h:dG e f=NQ)(k:∀a b c,f a b c=NQ->P (.UnaryOp a b c)):P e:=(pk h).elim λc=>@LR.elim (λe=>∀c,@LR.elim (λ_=>Bool) e c f=NQ->P e) e c (λa b c _=>k a b c) c
noncomputable def fZ(e:Expr)(f:Expr->List CmpOp->List Expr->Pos->Bool):Bool:=if h:e.ctorIdx=15 then @LS.elim (λ_=>Bool) e h f else NR
@[elab_as_elim]
theorem kQ{P:Expr->Prop}(e:Expr){f:Expr->List CmpOp->List Expr->Pos->Bool}(h:fZ e f=NQ)(k:∀a b c d,f a b c d=NQ->P (.Compare a b c d)):P e:=(pk h).elim λc=>@LS.elim (λe=>∀c,@LS.elim (λ_=>Bool) e c f=NQ->P e) e c (λa b c d _=>k a b c d) c
noncomputable def dk(e:Expr)(f:BoolOp->List Expr->Pos->Bool):Bool:=if h:e.ctorIdx=0 then @MD.elim (λ_=>Bool) e h f else NR
@[elab_as_elim]
theorem fo{P:Expr->Prop}(e:Expr){f:BoolOp->List Expr->Pos->Bool}(h:dk e f=NQ)(k:∀a b c,f a b c=NQ->P (.BoolOp a b c)):P e:=(pk h).elim λc=>@MD.elim (λe=>∀c,@MD.elim (λ_=>Bool) e c f=NQ->P e) e c (λa b c _=>k a b c) c
noncomputable def qz(e:Expr)(f:Expr->Expr->Expr->Pos->Bool):Bool:=if h:e.ctorIdx=5 then @N9.elim (λ_=>Bool) e h f else NR
@[elab_as_elim]
theorem xR{P:Expr->Prop}(e:Expr){f:Expr->Expr->Expr->Pos->Bool}(h:qz e f=NQ)(k:∀a b c d,f a b c d=NQ->P (.IfExp a b c d)):P e:=(pk h).elim λc=>@N9.elim (λe=>∀c,@N9.elim (λ_=>Bool) e c f=NQ->P e) e c (λa b c d _=>k a b c d) c
noncomputable def kR(e:Expr)(f:List Expr->Nat->Pos->Bool):Bool:=if h:e.ctorIdx=25 then @Na.elim (λ_=>Bool) e h f else NR
@[elab_as_elim]
theorem qA{P:Expr->Prop}(e:Expr){f:List Expr->Nat->Pos->Bool}(h:kR e f=NQ)(k:∀a b c,f a b c=NQ->P (.Tuple a b c)):P e:=(pk h).elim λc=>@Na.elim (λe=>∀c,@Na.elim (λ_=>Bool) e c f=NQ->P e) e c (λa b c _=>k a b c) c
noncomputable def uo(e:Expr)(f:List Expr->Pos->Bool):Bool:=if h:e.ctorIdx=24 then @Nk.elim (λ_=>Bool) e h f else NR
@[elab_as_elim]
theorem ze{P:Expr->Prop}(e:Expr){f:List Expr->Pos->Bool}(h:uo e f=NQ)(k:∀a b,f a b=NQ->P (.List a b)):P e:=(pk h).elim λc=>@Nk.elim (λe=>∀c,@Nk.elim (λ_=>Bool) e c f=NQ->P e) e c (λa b _=>k a b) c
noncomputable def cD(e:Expr)(f:Expr->Expr->Pos->Bool):Bool:=if h:e.ctorIdx=21 then @KL.elim (λ_=>Bool) e h f else NR
@[elab_as_elim]
theorem dH{P:Expr->Prop}(e:Expr){f:Expr->Expr->Pos->Bool}(h:cD e f=NQ)(k:∀a b c,f a b c=NQ->P (.Subscript a b c)):P e:=(pk h).elim λc=>@KL.elim (λe=>∀c,@KL.elim (λ_=>Bool) e c f=NQ->P e) e c (λa b c _=>k a b c) c
noncomputable def ox(e:Expr)(f:Expr->List Expr->List K6->Pos->Bool):Bool:=if h:e.ctorIdx=16 then @Nl.elim (λ_=>Bool) e h f else NR
@[elab_as_elim]
theorem uq{P:Expr->Prop}(e:Expr){f:Expr->List Expr->List K6->Pos->Bool}(h:ox e f=NQ)(k:∀a b c d,f a b c d=NQ->P (.Call a b c d)):P e:=(pk h).elim λc=>@Nl.elim (λe=>∀c,@Nl.elim (λ_=>Bool) e c f=NQ->P e) e c (λa b c d _=>k a b c d) c
noncomputable def gU(e:Expr)(f:Expr->Str->Pos->Bool):Bool:=if h:e.ctorIdx=20 then @KN.elim (λ_=>Bool) e h f else NR
@[elab_as_elim]
theorem oz{P:Expr->Prop}(e:Expr){f:Expr->Str->Pos->Bool}(h:gU e f=NQ)(k:∀a b c,f a b c=NQ->P (.Attribute a b c)):P e:=(pk h).elim λc=>@KN.elim (λe=>∀c,@KN.elim (λ_=>Bool) e c f=NQ->P e) e c (λa b c _=>k a b c) c
noncomputable def qB(e:Expr)(f:Option Expr->Option Expr->Option Expr->Pos->Bool):Bool:=if h:e.ctorIdx=26 then @Nb.elim (λ_=>Bool) e h f else NR
@[elab_as_elim]
theorem xS{P:Expr->Prop}(e:Expr){f:Option Expr->Option Expr->Option Expr->Pos->Bool}(h:qB e f=NQ)(k:∀a b c d,f a b c d=NQ->P (.Slice a b c d)):P e:=(pk h).elim λc=>@Nb.elim (λe=>∀c,@Nb.elim (λ_=>Bool) e c f=NQ->P e) e c (λa b c d _=>k a b c d) c
noncomputable def jb(e:Expr)(f:Expr->List ET->Scope->Pos->Bool):Bool:=if h:e.ctorIdx=8 then @L9.elim (λ_=>Bool) e h f else NR
@[elab_as_elim]
theorem qC{P:Expr->Prop}(e:Expr){f:Expr->List ET->Scope->Pos->Bool}(h:jb e f=NQ)(k:∀a b c d,f a b c d=NQ->P (.ListComp a b c d)):P e:=(pk h).elim λc=>@L9.elim (λe=>∀c,@L9.elim (λ_=>Bool) e c f=NQ->P e) e c (λa b c d _=>k a b c d) c
noncomputable def ur(e:Expr)(f:List (Option Expr)->List Expr->Pos->Bool):Bool:=if h:e.ctorIdx=6 then @Nm.elim (λ_=>Bool) e h f else NR
@[elab_as_elim]
theorem zf{P:Expr->Prop}(e:Expr){f:List (Option Expr)->List Expr->Pos->Bool}(h:ur e f=NQ)(k:∀a b c,f a b c=NQ->P (.Dict a b c)):P e:=(pk h).elim λc=>@Nm.elim (λe=>∀c,@Nm.elim (λ_=>Bool) e c f=NQ->P e) e c (λa b c _=>k a b c) c
noncomputable def g7(e:Stmt)(f:List Expr->Expr->Pos->Bool):Bool:=if h:e.ctorIdx=5 then @MJ.elim (λ_=>Bool) e h f else NR
@[elab_as_elim]
theorem kT{P:Stmt->Prop}(e:Stmt){f:List Expr->Expr->Pos->Bool}(h:g7 e f=NQ)(k:∀a b c,f a b c=NQ->P (.Assign a b c)):P e:=(pk h).elim λc=>@MJ.elim (λe=>∀c,@MJ.elim (λ_=>Bool) e c f=NQ->P e) e c (λa b c _=>k a b c) c
noncomputable def qD(e:Stmt)(f:Expr->Pos->Bool):Bool:=if h:e.ctorIdx=24 then @Np.elim (λ_=>Bool) e h f else NR
@[elab_as_elim]
theorem xT{P:Stmt->Prop}(e:Stmt){f:Expr->Pos->Bool}(h:qD e f=NQ)(k:∀a b,f a b=NQ->P (.Expr a b)):P e:=(pk h).elim λc=>@Np.elim (λe=>∀c,@Np.elim (λ_=>Bool) e c f=NQ->P e) e c (λa b _=>k a b) c
noncomputable def kU(e:Stmt)(f:Option Expr->Pos->Bool):Bool:=if h:e.ctorIdx=3 then @MK.elim (λ_=>Bool) e h f else NR
@[elab_as_elim]
theorem tI{P:Stmt->Prop}(e:Stmt){f:Option Expr->Pos->Bool}(h:kU e f=NQ)(k:∀a b,f a b=NQ->P (.Return a b)):P e:=(pk h).elim λc=>@MK.elim (λe=>∀c,@MK.elim (λ_=>Bool) e c f=NQ->P e) e c (λa b _=>k a b) c
noncomputable def xU(e:Stmt)(f:Expr->List Stmt->List Stmt->Pos->Bool):Bool:=if h:e.ctorIdx=12 then @Stmt.If.elim (λ_=>Bool) e h f else NR
@[elab_as_elim]
theorem A3{P:Stmt->Prop}(e:Stmt){f:Expr->List Stmt->List Stmt->Pos->Bool}(h:xU e f=NQ)(k:∀a b c d,f a b c d=NQ->P (.If a b c d)):P e:=(pk h).elim λc=>@Stmt.If.elim (λe=>∀c,@Stmt.If.elim (λ_=>Bool) e c f=NQ->P e) e c (λa b c d _=>k a b c d) c
noncomputable def ut(e:Stmt)(f:Expr->Expr->List Stmt->List Stmt->Pos->Bool):Bool:=if h:e.ctorIdx=9 then @Stmt.For.elim (λ_=>Bool) e h f else NR
@[elab_as_elim]
theorem zg{P:Stmt->Prop}(e:Stmt){f:Expr->Expr->List Stmt->List Stmt->Pos->Bool}(h:ut e f=NQ)(k:∀a b c d e,f a b c d e=NQ->P (.For a b c d e)):P e:=(pk h).elim λc=>@Stmt.For.elim (λe=>∀c,@Stmt.For.elim (λ_=>Bool) e c f=NQ->P e) e c (λa b c d e _=>k a b c d e) c
noncomputable def mV(e:Stmt)(f:Expr->List Stmt->List Stmt->Pos->Bool):Bool:=if h:e.ctorIdx=11 then @Nc.elim (λ_=>Bool) e h f else NR
@[elab_as_elim]
theorem vZ{P:Stmt->Prop}(e:Stmt){f:Expr->List Stmt->List Stmt->Pos->Bool}(h:mV e f=NQ)(k:∀a b c d,f a b c d=NQ->P (.While a b c d)):P e:=(pk h).elim λc=>@Nc.elim (λe=>∀c,@Nc.elim (λ_=>Bool) e c f=NQ->P e) e c (λa b c d _=>k a b c d) c
noncomputable def qE(e:Stmt)(f:Pos->Bool):Bool:=if h:e.ctorIdx=25 then @Nq.elim (λ_=>Bool) e h f else NR
@[elab_as_elim]
theorem xV{P:Stmt->Prop}(e:Stmt){f:Pos->Bool}(h:qE e f=NQ)(k:∀a,f a=NQ->P (.Pass a)):P e:=(pk h).elim λc=>@Nq.elim (λe=>∀c,@Nq.elim (λ_=>Bool) e c f=NQ->P e) e c (λa _=>k a) c
noncomputable def mW(e:Stmt)(f:Pos->Bool):Bool:=if h:e.ctorIdx=26 then @Nf.elim (λ_=>Bool) e h f else NR
@[elab_as_elim]
theorem w4{P:Stmt->Prop}(e:Stmt){f:Pos->Bool}(h:mW e f=NQ)(k:∀a,f a=NQ->P (.Break a)):P e:=(pk h).elim λc=>@Nf.elim (λe=>∀c,@Nf.elim (λ_=>Bool) e c f=NQ->P e) e c (λa _=>k a) c
noncomputable def gW(e:Stmt)(f:Pos->Bool):Bool:=if h:e.ctorIdx=27 then @La.elim (λ_=>Bool) e h f else NR
@[elab_as_elim]
theorem oA{P:Stmt->Prop}(e:Stmt){f:Pos->Bool}(h:gW e f=NQ)(k:∀a,f a=NQ->P (.Continue a)):P e:=(pk h).elim λc=>@La.elim (λe=>∀c,@La.elim (λ_=>Bool) e c f=NQ->P e) e c (λa _=>k a) c
noncomputable def lv0{α:Type}(xs:List α)(b:Bool):Bool:=xs.isEmpty&&b
noncomputable def lvc{α:Type}(xs:List α)(f:α->List α->Bool):Bool:=match xs with
 |y::r=>f y r
 |[]=>NR
noncomputable def lv1{α:Type}(xs:List α)(f:α->Bool):Bool:=lvc xs λy r=>lv0 r (f y)
noncomputable def lv2{α:Type}(xs:List α)(f:α->α->Bool):Bool:=lvc xs λy r=>lv1 r (f y)
noncomputable def os{α:Type}(o:Option α)(f:α->Bool):Bool:=match o with
 |some x=>f x
 |none=>NR
noncomputable def on{α:Type}(o:Option α)(b:Bool):Bool:=o.isNone&&b
@[elab_as_elim]
theorem eB{α:Type}{P:List α->Prop}(xs:List α){b:Bool}(h:lv0 xs b=NQ)(k:b=NQ->P []):P xs:=by
 cases xs with
 |nil=>exact k h
 |cons _ _=>cases h
@[elab_as_elim]
theorem xW{α:Type}{P:List α->Prop}(xs:List α){f:α->List α->Bool}(h:lvc xs f=NQ)(k:∀y r,f y r=NQ->P (y::r)):P xs:=by
 cases xs with
 |nil=>cases h
 |cons y r=>exact k y r h
@[elab_as_elim]
theorem bY{α:Type}{P:List α->Prop}(xs:List α){f:α->Bool}(h:lv1 xs f=NQ)(k:∀y,f y=NQ->P [y]):P xs:=xW xs h λy r h=>eB r h λh=>k y h
@[elab_as_elim]
theorem xX{α:Type}{P:List α->Prop}(xs:List α){f:α->α->Bool}(h:lv2 xs f=NQ)(k:∀y z,f y z=NQ->P [y,z]):P xs:=xW xs h λy r h=>bY r h λz h=>k y z h
@[elab_as_elim]
theorem jos{α:Type}{P:Option α->Prop}(o:Option α){f:α->Bool}(h:os o f=NQ)(k:∀x,f x=NQ->P (Z x)):P o:=by
 cases o with
 |none=>cases h
 |some x=>exact k x h
@[elab_as_elim]
theorem jon{α:Type}{P:Option α->Prop}(o:Option α){b:Bool}(h:on o b=NQ)(k:b=NQ->P Y):P o:=by
 cases o with
 |none=>exact k h
 |some x=>cases h
theorem bn{a b:Bool}(h:(a&&b)=NQ):a=NQ/\b=NQ:=by rwa[tv]at h
noncomputable def bC(e:Expr)(g:Str->List Expr->Bool):Bool:=ox e λf xs ks _=>lv0 ks (gT f λx _=>g x xs)
@[elab_as_elim]
theorem bZ{P:Expr->Prop}(e:Expr){g:Str->List Expr->Bool}(h:bC e g=NQ)(k:∀x xs p pos,g x xs=NQ->P (.Call (.Name x p) xs [] pos)):P e:=uq e h λf xs ks pos h=>eB ks h λh=>jI f h λx p h=>k x xs p pos h
noncomputable def jJ(e:Expr)(g:Expr->Str->List Expr->Pos->Pos->Bool):Bool:=ox e λf xs ks p=>lv0 ks (gU f λo n q=>g o n xs q p)
@[elab_as_elim]
theorem oB{P:Expr->Prop}(e:Expr){g:Expr->Str->List Expr->Pos->Pos->Bool}(h:jJ e g=NQ)(k:∀o n xs q p,g o n xs q p=NQ->P (.Call (.Attribute o n q) xs [] p)):P e:=uq e h λf xs ks pos h=>eB ks h λh=>oz f h λo n q h=>k o n xs q pos h
noncomputable def iSl(e:Expr)(g:Expr->Option Expr->Option Expr->Option Expr->Bool):Bool:=cD e λx y _=>qB y λl u s _=>g x l u s
@[elab_as_elim]
theorem jSl{P:Expr->Prop}(e:Expr){g:Expr->Option Expr->Option Expr->Option Expr->Bool}(h:iSl e g=NQ)(k:∀x l u s p pos,g x l u s=NQ->P (.Subscript x (.Slice l u s p) pos)):P e:=dH e h λx y pos h=>xS y h λl u s p h=>k x l u s p pos h
mutual
noncomputable def okG:MG->Ctx->Expr->Bool
 |.name i,C,e=>gT e λx _=>decide (C.N[i]?=Z x)&&tF C.sc x&&(C.sc.names.lookup x==Z .local || C.fn.contains x)
 |.tup gs,C,e=>kR e λes _ _=>okGs gs C es
noncomputable def okGs:MGs->Ctx->List Expr->Bool
 |.nil,_,es=>es.isEmpty
 |.cons g r,C,es=>match es with
  |e::es=>aY e&&okG g C e&&okGs r C es
  |[]=>NR
end
mutual
noncomputable def okE:ME->Ctx->Expr->Bool
 |.var i,C,e=>gT e λx _=>decide (C.N[i]?=Z x)&&tE C.sc x && !(x==("__debug__":Str)) && !(x==("__classdict__":Str))
 |.int i,_,e=>cX e λc _ _=>decide (c=.int i)
 |.bl i,_,e=>cX e λc _ _=>decide (c=.bool i)
 |.non,_,e=>cX e λc _ _=>decide (c=.none)
 |.bin op a b,C,e=>qy e λl o r _=>decide (o=opO op)&&okE a C l&&okE b C r
 |.neg a,C,e=>dG e λo x _=>decide (o=.USub)&&okE a C x
 |.cmp op a b,C,e=>fZ e λl os rs _=>lv1 os λo=>lv1 rs λr=>decide (o=tG op)&&okE a C l&&okE b C r && !(HS o r)
 |.and es,C,e=>dk e λo xs _=>decide (o=.And) && !xs.isEmpty&&okEs es C xs
 |.or es,C,e=>dk e λo xs _=>decide (o=.Or) && !xs.isEmpty&&okEs es C xs
 |.not a,C,e=>dG e λo x _=>decide (o=.Not)&&okE a C x
 |.ite c a b,C,e=>qz e λt x y _=>okT c C t&&okE a C x&&okE b C y
 |.tup es,C,e=>kR e λxs _ _=>okEs es C xs
 |.lst es,C,e=>uo e λxs _=>okEs es C xs
 |.ix a b,C,e=>cD e λx y _=>iu y&&okE a C x&&okE b C y
 |.sl a lo hi,C,e=>iSl e λx l u s=>on s (okE a C x&&okO lo C l&&okO hi C u)
 |.call f es,C,e=>bC e λx xs=>decide (C.Γ[f]?=Z x)&&glB C.sc x && !(x==("__debug__":Str))&&okEs es C xs
 |.blt f es,C,e=>bC e λx xs=>decide (x=kP f)&&glB C.sc x && !xs.isEmpty&&okEs es C xs
 |.isin a T,C,e=>bC e λx xs=>lv2 xs λy w=>gT w λz _=>decide (x="isinstance")&&glB C.sc x&&glB C.sc z&&decide (z=F9 T)&&decide (T∈["bool","int","str","tuple","list","dict"])&&aY y&&okE a C y
 |.dnew _,_,e=>ur e λks vs _=>lv0 ks (lv0 vs NQ)
 |.sortI a,C,e=>bC e λx xs=>lv1 xs λw=>jJ w λy n ys ap cp=>lv0 ys (decide (x="sorted")&&glB C.sc x&&decide (n="items")&&fj y&&(ap.endLine==cp.line)&&okE a C y)
 |.dget o k x,C,e=>jJ e λy n xs ap cp=>lv2 xs λe1 e2=>decide (n="get")&&fj y&&(ap.endLine==cp.line)&&aY e1&&aY e2&&okE o C y&&okE k C e1&&okE x C e2
 |.sortT a,C,e=>bC e λx xs=>lv1 xs λw=>bC w λz ys=>lv1 ys λy=>decide (x="sorted")&&glB C.sc x&&decide (z="set")&&glB C.sc z&&aY y&&okE a C y
 |.lrev a,C,e=>bC e λx xs=>lv1 xs λw=>bC w λz ys=>lv1 ys λy=>decide (x="list")&&glB C.sc x&&decide (z="reversed")&&glB C.sc z&&aY y&&okE a C y
 |.meth m o a,C,e=>jJ e λx n xs ap cp=>lv1 xs λy=>decide (n=xP m)&&fj x&&(ap.endLine==cp.line)&&aY y&&okE o C x&&okE a C y
 |.comp fr N' c,C,e=>jb e λelt gens sc _=>tH sc C.sc C.N N' fr&&okC c C ⟨C.Γ,N',fX sc C.sc,(sc.names.filter (·.2==.cell)).map (·.1),C.cs,0,C.nm⟩ gens elt
noncomputable def okEs:MEs->Ctx->List Expr->Bool
 |.nil,_,es=>es.isEmpty
 |.cons m r,C,es=>match es with
  |e::es=>aY e&&okE m C e&&okEs r C es
  |[]=>NR
noncomputable def okO:MO->Ctx->Option Expr->Bool
 |.none,_,e=>e.isNone
 |.some m,C,e=>match e with
  |some e=>okE m C e
  |none=>NR
noncomputable def okT:MT->Ctx->Expr->Bool
 |.tru m,C,e=>qx e&&okE m C e
 |.cmp op a b,C,e=>fZ e λl os rs _=>lv1 os λo=>lv1 rs λr=>decide (o=tG op)&&okE a C l&&okE b C r && !(HS o r)
 |.and ts,C,e=>dk e λo xs _=>decide (o=.And) && !xs.isEmpty&&okTs ts C xs
 |.or ts,C,e=>dk e λo xs _=>decide (o=.Or) && !xs.isEmpty&&okTs ts C xs
 |.not t,C,e=>dG e λo x _=>decide (o=.Not)&&okT t C x
noncomputable def okTs:MTs->Ctx->List Expr->Bool
 |.nil,_,es=>es.isEmpty
 |.cons m r,C,es=>match es with
  |e::es=>okT m C e&&okTs r C es
  |[]=>NR
noncomputable def okI:MI->Ctx->Expr->Expr->Bool
 |.seq m,C,_,e=>ou e&&okE m C e
 |.rng1 a,C,_,e=>bC e λx xs=>lv1 xs λy=>decide (x="range")&&glB C.sc x&&aY y&&okE a C y
noncomputable def okC:MC->Ctx->Ctx->List ET->Expr->Bool
 |.last src g ifs m,Cs,C,gens,elt=>match gens with
  |[⟨t,it,fs,a⟩]=>decide (a=0)&&okI src Cs t it&&okG g C t&&okTs ifs C fs&&okE m C elt
  |_=>NR
 |.more src g ifs rest,Cs,C,gens,elt=>match gens with
  |⟨t,it,fs,a⟩::g2::gs=>decide (a=0)&&okI src Cs t it&&okG g C t&&okTs ifs C fs&&okC rest C C (g2::gs) elt
  |_=>NR
end
noncomputable def bQ(sc:Scope)(ts:List Expr):List Str:=ts.filterMap fun
 |.Name id pos=>if sc.names.lookup id==Z .local&&pos.line==(ts.head?.map (·.pos.line)).getD 0 then Z id else Y
 |_=>Y
noncomputable def oC(sc:Scope)(ts vs:List Expr):Bool:=!(ts.length==2 || ts.length==3) || vs.length != ts.length || (bQ sc ts).length != ts.length || (bQ sc ts).eraseDups.length != (bQ sc ts).length || vs.all (foldedForSure 8)
noncomputable def uu(sc:Scope)(tg e:Expr):Bool:=match tg,e with
 |.Tuple ts _ _,.Tuple vs _ _=>oC sc ts vs
 |.Tuple ..,_=>NQ
 |.Name ..,_=>NQ
 |_,_=>NR
noncomputable def xY(sc:Scope)(x:Str)(px:Pos)(e:Expr):Bool:=match e with
 |.DictComp _ _ _ s _=>!(sc.names.lookup x==Z .local&&px.line==e.pos.line && !(s.names.any λ(n,k)=>n==x&&(k==.local || k==.cell)))
 |_=>NQ
noncomputable def oD(sc:Scope)(x:Str)(px:Pos)(e:Expr):Bool:=match e with
 |.ListComp _ _ s _=>sc.names.lookup x==Z .local&&px.line==e.pos.line && !(s.names.any λ(n,k)=>n==x&&(k==.local || k==.cell))
 |_=>NR
mutual
noncomputable def okS:MS->Ctx->Stmt->Bool
 |.asg g m,C,s=>g7 s λts e _=>lv1 ts λtg=>okG g C tg&&okE m C e&&uu C.sc tg e&&(match tg with|.Name x px=>xY C.sc x px e|_=>gR e)
 |.put o i m,C,s=>g7 s λts e _=>lv1 ts λtg=>cD tg λx y _=>iu y&&gR e&&okE o C x&&okE i C y&&okE m C e
 |.drop m,C,s=>qD s λe _=>gR e&&okE m C e
 |.ret m,C,s=>kU s λo _=>os o λe=>okE m C e
 |.ite c a b,C,s=>xU s λt x y _=>okT c C t&&okSs a C x&&okSs b C y
 |.for g src b,C,s=>ut s λtg it body els _=>lv0 els (ou it&&okG g C tg&&okI src C tg it&&okSs b C body)
 |.while c b,C,s=>mV s λt body els _=>lv0 els (okT c C t&&okSs b C body)
 |.pass,_,s=>qE s λ_=>NQ
 |.brk,_,s=>mW s λ_=>NQ
 |.cnt,_,s=>gW s λ_=>NQ
noncomputable def okSs:MSs->Ctx->List Stmt->Bool
 |.nil,_,ss=>ss.isEmpty
 |.cons m r,C,ss=>match ss with
  |s::ss=>okS m C s&&okSs r C ss
  |[]=>NR
end
theorem ar(h:aY e=NQ):EA (e::es) env=(NR,eval e env)::EA es env:=by cases e<;>first|rfl|(cases h;done)
theorem jc(h:aY e=NQ):FX (e::es) env=(NR,assign e env)::FX es env:=by cases e<;>first|rfl|(cases h;done)
theorem oE(h:qx e=NQ):∀whole,isTrue e env whole=(do let v <-whole;Jy e.pos;holding [v] (truthy v)):=by
 intro w
 cases e<;>first|rfl|(cases h;done)
theorem tJ(h:iu e=NQ):i4 e:=by
 intro o i
 cases e<;>first|rfl|(cases h;done)
theorem qF(h:ou e=NQ):∀x,G3 e env x=pure x:=by
 intro x
 cases e<;>first|rfl|(cases h;done)
theorem ga{n:Str}(h:fj e=NQ):JD e n env (eval e env)=eval e env:=by
 cases e<;>first
  |rfl
  | (rename_i f xs _ _;cases xs with
     |nil=>cases h
     |cons _ _=>cases f<;>rfl)
theorem iw{t:Option Expr}(h:gR e=NQ):Ig e t l env=pure NR:=by cases e<;>first|rfl|(cases h;done)
end
variable{f:Nat}{x:Str}{p pos:Pos}{sc:Scope}{fr:List (Option Nat)}
section
noncomputable def lSp(K:Frag)(r:RAd):Sp:=λvs H Q _=>lR K r vs H Q
noncomputable def zh(Φ:Phi)(j:Nat)(gs:List D)(js:List Nat):RAd:=λargs M Q=>args.length=2/\Φ (4000+j) (js.map λi=>(gs++args).getD i .non) M Q
noncomputable def spC(P:Eg)(w:Ez)(K:Frag)(mg:Str->Option gV)(base:Heap)(k:Nat)(Φ:Phi)(i:Nat):List Env->q7->Sp:=λouter s vs H Q _=>∃(ds:List D) (a:NS) (j:Nat) (gs:List D) (js:List Nat) (M:Mem),RM K M H/\RDs K H (ds++[.ref a]) vs/\yK P w K mg base (k-1) (frs outer) a (lSp K (zh Φ j gs js)) H s.heap/\Φ (1000+i) (ds++[.ref a,.int j,.tup gs,.tup (js.map λi:Nat=>.int i)]) M (KE' K M H Q)
def xZ(X:Cx)(a:NS)(r:RAd):Prop:=∀(pins:List (NS×Obj)) (s:q7) (σ:St) (H:Hp) (vs:List V) (us:List gV) (Q:VK),Inv X pins σ H s->Vals vs us->lR X.K r vs H Q->
 PySem.W.FnAt a s.heap/\DU (model X.prog X.w) X.A (call (.ref a) us) (EP X pins σ Q) X.xe s
structure y3(C:Ctx)(Φ:Phi)(k:Nat)(X:Cx)(P:NS):Prop where
 cd:∃c,X.env.code=.ref c/\PySem.W.CodeHd X.base c P
 bm:zW X.mg X.base
 qu:X.env.qual=C.nm++(".<locals>.":Str)
 spc:∀(i:Nat) (x:Str),C.Γ[i]?=Z x->∃f fd ps,X.mg x=Z (.ref f)/\Gw X.K (.ref f)=NQ/\Binds X.K fd ps []/\yL X.prog X.w X.K X.mg X.base k f fd ps (spC X.prog X.w X.K X.mg X.base k Φ i)
 low:∀(j:Nat) (x:Str),C.Γ[j]?=Z x->∃f fd ps,X.mg x=Z (.ref f)/\Gw X.K (.ref f)=NQ/\Binds X.K fd ps []/\cq X.prog X.w X.K X.mg X.base CX0 (k-2) f fd ps (lSp X.K (Φ (4000+j)))
 big:(∃k0,k=k0+2)∨∀(j:Nat) (x:Str),C.Γ[j]?=Z x->∀ds M Q,¬Φ (4000+j) ds M Q
structure Good(C:Ctx)(Φ:Phi)(k:Nat)(X:Cx):Prop where
 hx:∀e s,X.xe e s->False
 calm:X.calm=NQ
 N:X.N=C.N
 sc:X.env.scope=C.sc
 nd:X.N.Nodup
 fn:∀x∈C.fn,X.fn x=NQ
 room:Room k X.A
 mgB:∀x∈bltNames,X.mg x=Y
 fns:∀(i:Nat) (x:Str),C.Γ[i]?=Z x->∃f fd ps,X.mg x=Z (.ref f)/\Jb X.K Fd x=Z (Z (.ref f))/\Gw X.K (.ref f)=NQ/\Binds X.K fd ps []/\cq X.prog X.w X.K X.mg X.base CX0 k f fd ps (lSp X.K (Φ i))
 mono:∀f,aX (Φ f)
 cs:∀x d,(x,d)∈C.cs->∃u,X.mg x=Z u/\GV X.K d u
 clo:C.lm=1->∀a,xZ X a (Φ (5000+a))
 lam:∀P,C.lm=P+2->y3 C Φ k X P
section
variable{C:Ctx}{Φ:Phi}{k:Nat}{X:Cx}
theorem Good.units(G:Good C Φ k X):X.A.units+64<GZ:=G.room.units
theorem Good.gl(G:Good C Φ k X)(h:glB C.sc x=NQ):Gl X x:=by show X.env.scope.names.lookup x=_;rw[G.sc];simpa[glB]using h
theorem Good.vis(G:Good C Φ k X)(h:tE C.sc x=NQ):Vis X.env.scope x:=by
 unfold Vis;rw[G.sc];simp[tE]at h
 rcases h with(h|h)|h
 ·exact .inl h
 ·exact .inr (.inl h)
 ·exact .inr (.inr h)
theorem Good.loc(G:Good C Φ k X)(h:tF C.sc x=NQ):Loc X.env.scope x:=by unfold Loc;rw[G.sc];simpa[tF]using h
theorem Good.own(G:Good C Φ k X)(h:(C.sc.names.lookup x==Z .local || C.fn.contains x)=NQ):X.fn x=NQ∨X.env.scope.names.lookup x=Z .local:=by
 rw[G.sc];simp at h
 rcases h with h|h
 ·exact .inr h
 ·exact .inl (G.fn x h)
theorem y4(G:Good C Φ k X):∀o:BOp,OpR X (Fo (opO o)) (l2 X.K (opB o))
 |.add=>rX|.sub=>rY|.mul=>rZ|.fdiv=>pK|.mod=>s9|.pow=>sd
theorem mX(G:Good C Φ k X):∀o:COp,OpR X (GA (tG o)) (l2 X.K (opC o))
 |.eq=>v4 (by have:=G.units;lia)|.ne=>v5 (by have:=G.units;lia)|.lt=>v9| .gt=>va|.ge=>vc
theorem y7(G:Good C Φ k X){f:BF}{t:TAd}(mt:ba t)(z:Gl X (kP f))(B:PA X (e::es) (lA X.K t))(he:EA (e::es) X.env=(NR,eval e X.env)::EA es X.env)(j:(Ic pos (EA es X.env)).any (·.1)=NR):PE X (.Call (.Name (kP f) p) (e::es) [] pos) (lE X.K (wAr (opF f) t)):=by
 cases f with
 |len=>exact PE.imp (cK nJ z (G.mgB _ (by decide)) PySem.boot_len B (by decide) (by decide) he j) (cb kh mt)
 |abs=>exact PE.imp (cK nK z (G.mgB _ (by decide)) (by decide +kernel) B (by decide) (by decide) he j) (cb ki mt)
 |min2=>exact PE.imp (cK (lu G.calm) z (G.mgB _ (by decide)) (by decide +kernel) B (by decide) (by decide) he j) (cb iQ mt)
 |int=>exact PE.imp (iG nL z (G.mgB _ (by decide)) (by decide +kernel) B (by decide) (by decide) he j) (cb kj mt)
 |list=>exact PE.imp (iG lw z (G.mgB _ (by decide)) (by decide +kernel) B (by decide) (by decide) he j) (cb iR mt)
 |sum=>exact PE.imp (cK (nN G.calm) z (G.mgB _ (by decide)) (by decide +kernel) B (by decide) (by decide) he j) (cb kl mt)
theorem w5(G:Good C Φ k X){t:TAd}(mt:ba t)(hf:C.Γ[f]?=Z x)(B:Gl X x)(j:(x==("__debug__":Str))=NR)(J:PA X (e::es) (lA X.K t))(he:EA (e::es) X.env=(NR,eval e X.env)::EA es X.env)(z:(Ic pos (EA es X.env)).any (·.1)=NR):PE X (.Call (.Name x p) (e::es) [] pos) (lE X.K (wAr (Φ f) t)):=by
 obtain⟨a,fd,ps,hm,_,L,O,F⟩:=G.fns f x hf;refine PE.imp (uJ F G.room B hm L O .nil u8 J j he z) λσ H Q h=>?_;have h2:=cb (G.mono f) mt σ H Q h;have:(λvs H1=>lSp X.K (Φ f) (vs++[]) H1 Q E0)=λvs H1=>lR X.K (Φ f) vs H1 Q:=by funext vs H1;rw[F5];rfl
 show(lA X.K t) σ H _;rw[this];exact h2
theorem tK(G:Good C Φ k X)(hf:C.Γ[f]?=Z x)(z:Gl X x)(j:(x==("__debug__":Str))=NR):PE X (.Call (.Name x p) [] [] pos) (lE X.K (wAr (Φ f) cY)):=by obtain⟨a,fd,ps,hm,_,B,J,F⟩:=G.fns f x hf;refine PE.imp (rl F G.room z hm B J .nil u8 j) λσ H Q h=>?_;obtain⟨ρ,M,rs,rm,q⟩:=h;exact⟨[],M,rm,RDs.nil,q⟩
theorem gb{env:Env}{pos:Pos}:∀{es:List Expr},es.all aY=NQ->(Ic pos (EA es env)).any (·.1)=NR
 |[],_=>rfl
 |e::es,h=>by
  simp only[IW,tv]at h;rw[ar h.1];show(NR || (Ic pos (EA es env)).any (·.1))=NR
  rw[gb h.2];rfl
theorem eC:∀{ms:MEs} {es:List Expr},okEs ms C es=NQ->es.all aY=NQ
 |.nil,[],_=>rfl
 |.nil,_::_,h=>by simp[okEs]at h
 |.cons m r,[],h=>by simp[okEs]at h
 |.cons m r,e::es,h=>by simp only[okEs,tv]at h;simp only[IW,tv];exact⟨h.1.1,eC h.2⟩
theorem mY:∀{gs:MGs} {es:List Expr},okGs gs C es=NQ->∀ds ρ ρ',bGs gs ds ρ=Z ρ'->ds.length=es.length
 |.nil,es,h,ds,ρ,ρ',e=>by
  simp[okGs]at h;subst h;rw[bGs]at e
  cases ds with
  |nil=>rfl
  |cons _ _=>cases e
 |.cons g r,[],h,_,_,_,_=>by simp[okGs]at h
 |.cons g r,x::es,h,ds,ρ,ρ',e=>by
  simp only[okGs,tv]at h;rw[bGs]at e
  cases ds with
  |nil=>cases e
  |cons d ds=>
   simp only[gB]at e
   cases e1:bG g d ρ with
   |none=>rw[e1]at e;cases e
   |some ρ1=>rw[e1]at e;simp[mY h.2 ds ρ1 ρ' e]
theorem kW{env:Env}:∀{gs:MGs} {es:List Expr},okGs gs C es=NQ->(FX es env).length=es.length/\(FX es env).findIdx? (·.1)=Y
 |.nil,es,h=>by simp[okGs]at h;subst h;exact⟨rfl,rfl⟩
 |.cons g r,[],h=>by simp[okGs]at h
 |.cons g r,x::es,h=>by
  simp only[okGs,tv]at h;obtain⟨a,b⟩:=kW (env:=env) h.2;rw[jc h.1.1];refine⟨by simp[a],?_⟩
  rw[List.findIdx?_cons];simp[b]
mutual
theorem sG(G:Good C Φ k X):∀(m:MG) (e:Expr),okG m C e=NQ->PG X e (lG X.K (bG m))
 |.name i,e,h=>by refine jI e h λx _ h=>?_;simp only[tv]at h;exact vy G.nd (by rw[G.N];exact of_decide_eq_true h.1.1) (G.loc h.1.2) (G.own h.2)
 |.tup gs,e,h=>by refine qA e h λes _ _ h=>?_;rw[bG];obtain⟨a,b⟩:=kW (env:=X.env) h;exact xz G.calm (mY h) (sGs G gs _ h) a b
theorem sGs(G:Good C Φ k X):∀(m:MGs) (es:List Expr),okGs m C es=NQ->PGs X es (lGs X.K (bGs m))
 |.nil,es,h=>by simp[okGs]at h;subst h;exact vz
 |.cons g r,[],h=>by simp[okGs]at h
 |.cons g r,e::es,h=>by simp only[okGs,tv]at h;exact su (sG G g e h.1.2) (sGs G r es h.2) (by rw[jc h.1.1];rfl)
end
theorem PB.imp{F:Sem Fin->Sem Fin}{t t':TC}(h:PB X F t)(i:∀σ H N,t' σ H N->t σ H N):PB X F t':=λpins s σ H N k Q E I q hk=>h pins s σ H N k Q E I (i _ _ _ q) hk
theorem gX{osc:Scope}{oN N':List Str}(h:tH sc osc oN N' fr=NQ):aO sc osc oN N' fr:=by
 simp only[tH,tv,decide_eq_true_eq]at h;obtain⟨⟨⟨⟨⟨h1,h2⟩,J⟩,L⟩,O⟩,U⟩:=h;refine⟨h1,h2,J,λx hx e=>?_,O,λi j x hi hf=>?_⟩
 ·have B:=HH.mp L x hx;rw[e]at B;simpa using B
 ·have F:i<N'.length:=(DT.mp hi).1;have z:=HH.mp U i (FH.mpr F);rw[hf,hi]at z;simp only[tv,decide_eq_true_eq,IS]at z;obtain⟨a,y,NP,e⟩:=z;exact⟨a,by rw[<-e];exact NP⟩
theorem Good.blk(G:Good C Φ k X){N':List Str}(B:aO sc C.sc C.N N' fr)(s:q7)(H:Hp)(fp:List NS):
 Good ⟨C.Γ,N',fX sc C.sc,(sc.names.filter (·.2==.cell)).map (·.1),C.cs,0,C.nm⟩ Φ k (aw X sc N' s H fp):=by
 refine⟨λ_ _ h=>h,G.calm,rfl,?_,B.ndN,λx hx=>?_,G.room,G.mgB,G.fns,G.mono,G.cs,λz=>(by cases z),λ_ z=>(by cases z)⟩
 ·show relabel sc X.env=_;rw[lL,G.sc]
 ·obtain⟨y,F,e⟩:=Ej.mp hx;obtain⟨h1,h2⟩:=G9.mp F;obtain⟨n,kd⟩:=y;have j:kd=.cell:=by simpa using h2
  subst j;have e':n=x:=e;subst e';show(sc.names.lookup n==Z .cell)=NQ;rw[aF B.nd h1];rfl
end
end
variable{C:Ctx}{tb:TCd}
section
section
variable{Φ:Phi}{k:Nat}
theorem cJ{X:Cx}(G:Good C Φ k X){F:Sem Fin->Sem Fin}{p:NS}{ifs:List Expr}{ts:List TTd}(mb:bx tb)(mt:∀t∈ts,av t)(j:PB X F (lC X.K p tb))(z:EZ (λc t=>PT X c t) ifs (ts.map (lT X.K))):
 PB X (λk=>aV ifs X.env>>=λok=>if ok=NQ then F k else k) (lC X.K p (aR ts tb)):=
 PB.imp (rJ G.hx j z) (gC mb mt)
theorem eE{m:MC}{Cs:Ctx}{g2:ET}{gs:List ET}{elt:Expr}(h:okC m Cs C (g2::gs) elt=NQ):g2.is_async=0:=by
 obtain⟨t,i,f,a⟩:=g2
 cases m with
 |last src g ifs m=>
  cases gs with
  |nil=>simp only[okC,tv,decide_eq_true_eq]at h;exact h.1.1.1.1
  |cons _ _=>simp[okC]at h
 |more src g ifs rest=>
  cases gs with
  |nil=>simp[okC]at h
  |cons _ _=>simp only[okC,tv,decide_eq_true_eq]at h;exact h.1.1.1.1
theorem tL{X:Cx}(G:Good C Φ k X):∀T∈["bool","int","str","tuple","list","dict"],X.mg (F9 T)=Y/\H0 (F9 T)=Z (.type T)/\F9 T≠"__name__"/\(F9 T==("__debug__":Str))=NR:=by
 intro T j;simp only[DX,EU,or_false]at j
 rcases j with rfl|rfl|rfl|rfl|rfl|rfl
 all_goals exact⟨G.mgB _ (by decide),by decide +kernel,by decide,by decide⟩
mutual
theorem sE:∀(m:ME) {C:Ctx} {X:Cx} (G:Good C Φ k X) (e:Expr),okE m C e=NQ->PE X e (lE X.K (wE Φ m))
 |.var i,C,X,G,e,h=>by refine jI e h λx _ h=>?_;simp only[tv,G8,decide_eq_true_eq]at h;exact xf (by rw[G.N];exact h.1.1.1) (G.vis h.1.1.2) h.1.2 h.2
 |.int i,C,X,G,e,h=>by refine et e h λc _ _ h=>?_;rw[of_decide_eq_true h];exact xg
 |.bl i,C,X,G,e,h=>by refine et e h λc _ _ h=>?_;rw[of_decide_eq_true h];exact yS
 |.non,C,X,G,e,h=>by refine et e h λc _ _ h=>?_;rw[of_decide_eq_true h];exact xh
 |.bin op a b,C,X,G,e,h=>by refine xQ e h λl o r _ h=>?_;simp only[tv,decide_eq_true_eq]at h;rw[h.1.1];exact yT (y4 G op) (kO op) (mE G.mono a) (mE G.mono b) (sE a G _ h.1.2) (sE b G _ h.2)
 |.neg a,C,X,G,e,h=>by
  refine fY e h λo x _ h=>?_;replace h:=bn h;obtain⟨ho,h⟩:=h
  cases of_decide_eq_true ho
  exact yU se ke (mE G.mono a) (sE a G _ h)
 |.cmp op a b,C,X,G,e,h=>by refine kQ e h λl os rs pos h=>?_;refine bY os h λo h=>?_;refine bY rs h λr h=>?_;simp only[tv,decide_eq_true_eq]at h;obtain⟨⟨⟨ho,O⟩,hb⟩,hm⟩:=h;rw[G8]at hm;subst ho;exact xi (mX G op) (dF op) (mE G.mono a) (mE G.mono b) (sE a G _ O) (sE b G _ hb) hm
 |.and es,C,X,G,e,h=>by
  refine fo e h λo xs _ h=>?_;replace h:=bn h;obtain⟨ho,h⟩:=h;obtain⟨ho,j⟩:=bn ho
  cases of_decide_eq_true ho
  exact sAnds es G _ _ h (by intro z;rw[z]at j;cases j)
 |.or es,C,X,G,e,h=>by
  refine fo e h λo xs _ h=>?_;replace h:=bn h;obtain⟨ho,h⟩:=h;obtain⟨ho,j⟩:=bn ho
  cases of_decide_eq_true ho
  exact sOrs es G _ _ h (by intro z;rw[z]at j;cases j)
 |.not a,C,X,G,e,h=>by
  refine fY e h λo x _ h=>?_;replace h:=bn h;obtain⟨ho,h⟩:=h
  cases of_decide_eq_true ho
  exact xx (mE G.mono a) (sE a G _ h)
 |.ite c a b,C,X,G,e,h=>by refine xR e h λt x y _ h=>?_;simp only[tv]at h;exact z0 (mT G.mono c) (mE G.mono a) (mE G.mono b) (sT c G _ h.1.1) (sE a G _ h.1.2) (sE b G _ h.2)
 |.tup es,C,X,G,e,h=>by refine qA e h λxs _ _ h=>?_;exact xk (mA G.mono es) (sA es G _ h)
 |.lst es,C,X,G,e,h=>by refine ze e h λxs _ h=>?_;exact xm (mA G.mono es) (sA es G _ h)
 |.ix a b,C,X,G,e,h=>by refine dH e h λx y _ h=>?_;simp only[tv]at h;exact yV (zX (by have:=G.units;lia)) mj (mE G.mono a) (mE G.mono b) (sE a G _ h.1.2) (sE b G _ h.2) (tJ h.1.1)
 |.sl a lo hi,C,X,G,e,h=>by refine jSl e h λx l u s p pos h=>?_;refine jon s h fun  h=>?_;simp only[tv]at h;exact z5 (mE G.mono a) (mO G.mono lo) (mO G.mono hi) (sE a G _ h.1.1) (sO lo G _ h.1.2) (sO hi G _ h.2)
 |.call f es,C,X,G,e,h=>by
  refine bZ e h λx xs p pos h=>?_;simp only[tv,decide_eq_true_eq,G8]at h;have hA:=sA es G _ h.2;have J:=eC h.2
  cases xs with
  |nil=>
   cases es with
   |nil=>exact tK G h.1.1.1 (G.gl h.1.1.2) h.1.2
   |cons _ _=>simp[okEs]at h
  |cons y ys=>simp only[IW,tv]at J;exact w5 G (mA G.mono es) h.1.1.1 (G.gl h.1.1.2) h.1.2 hA (ar J.1) (gb J.2)
 |.blt f es,C,X,G,e,h=>by
  refine bZ e h λx xs p pos h=>?_;simp only[tv,decide_eq_true_eq,G8]at h;have hA:=sA es G _ h.2;have J:=eC h.2;obtain⟨⟨⟨rfl,L⟩,j⟩,_⟩:=h
  cases xs with
  |nil=>simp at j
  |cons y ys=>simp only[IW,tv]at J;exact y7 G (mA G.mono es) (G.gl L) hA (ar J.1) (gb J.2)
 |.dnew t,C,X,G,e,h=>by refine zf e h λks vs _ h=>?_;refine eB ks h fun  h=>?_;refine eB vs h fun  h=>?_;exact vC
 |.sortI a,C,X,G,e,h=>by refine bZ e h λx xs p pos h=>?_;refine bY xs h λw h=>?_;refine oB w h λy n ys ap cp h=>?_;refine eB ys h fun  h=>?_;simp only[tv,decide_eq_true_eq]at h;obtain⟨⟨⟨⟨⟨rfl,L⟩,rfl⟩,U⟩,fv⟩,O⟩:=h;exact sX (by have:=G.units;lia) (mE G.mono a) G.calm (sE a G _ O) (G.gl L) (G.mgB _ (by decide)) (ga U) fv
 |.dget o k' x,C,X,G,e,h=>by
  refine oB e h λy n xs ap cp h=>?_;refine xX xs h λe1 e2 h=>?_;simp only[tv,decide_eq_true_eq]at h;obtain⟨⟨⟨⟨⟨⟨⟨rfl,U⟩,fv⟩,BH⟩,BI⟩,ho⟩,hk⟩,hx⟩:=h;have st:EA [e1,e2] X.env=[(NR,eval e1 X.env),(NR,eval e2 X.env)]:=by rw[ar BH,ar BI];rfl
  refine vO (by have:=G.units;lia) (mE G.mono o) (mE G.mono k') (mE G.mono x) (sE o G _ ho) (sE k' G _ hk) (sE x G _ hx) ⟨ga U,?_,fv,?_⟩
  ·rw[st];rfl
  ·rw[st];rfl
 |.sortT a,C,X,G,e,h=>by refine bZ e h λx xs p pos h=>?_;refine bY xs h λw h=>?_;refine bZ w h λz ys p2 BG h=>?_;refine bY ys h λy h=>?_;simp only[tv,decide_eq_true_eq]at h;obtain⟨⟨⟨⟨⟨rfl,L⟩,rfl⟩,NP⟩,hs⟩,O⟩:=h;exact tw (by have:=G.units;lia) (mE G.mono a) G.calm (sE a G _ O) (G.gl L) (G.mgB _ (by decide)) (G.gl NP) (G.mgB _ (by decide)) (ar hs)
 |.lrev a,C,X,G,e,h=>by refine bZ e h λx xs p pos h=>?_;refine bY xs h λw h=>?_;refine bZ w h λz ys p2 BG h=>?_;refine bY ys h λy h=>?_;simp only[tv,decide_eq_true_eq]at h;obtain⟨⟨⟨⟨⟨rfl,L⟩,rfl⟩,NP⟩,hs⟩,O⟩:=h;exact uX (mE G.mono a) G.calm (sE a G _ O) (G.gl L) (G.mgB _ (by decide)) (G.gl NP) (G.mgB _ (by decide)) (ar hs)
 |.isin a T,C,X,G,e,h=>by refine bZ e h λx xs p pos h=>?_;refine xX xs h λy w h=>?_;refine jI w h λz p2 h=>?_;simp only[tv,decide_eq_true_eq]at h;obtain⟨⟨⟨⟨⟨⟨rfl,L⟩,NP⟩,hz⟩,hT⟩,hs⟩,O⟩:=h;obtain⟨n1,n2,n3,n4⟩:=tL G T hT;subst hz;exact vq hT (mE G.mono a) (sE a G _ O) (G.gl L) (G.mgB _ (by decide)) (G.gl NP) n1 n2 n3 n4 (ar hs) rfl
 |.meth m o a,C,X,G,e,h=>by
  refine oB e h λx n xs ap cp h=>?_;refine bY xs h λy h=>?_;simp only[tv,decide_eq_true_eq]at h;obtain⟨⟨⟨⟨⟨hn,U⟩,fv⟩,hs⟩,ho⟩,O⟩:=h;subst hn;have pa:PA X [y] (lA X.K (cg (wE Φ a) cY)):=i8 (mE G.mono a) bH (sE a G _ O) jX (ar hs);have few:((Ic cp (EA [y] X.env)).all (λx=>!x.1)&&(backToKw cp (Mt [] X.env)).all (λx=>x.1.isSome)&&decide (([y]:List Expr).length+([]:List K6).length+(if([]:List K6).isEmpty then 0 else 1)<30))=NQ:=by rw[ar hs];rfl
  cases m with
  |append=>exact PE.imp (yH PySem.F.plainAttrs_list PySem.F.slot_list_append PySem.F.type_list_append iH (sE o G _ ho) pa (ga U) few fv (ar hs) rfl) (vw fD (mE G.mono o) (cj (mE G.mono a) bH) sn)
 |.comp fr N' c,C,X,G,e,h=>by
  refine qC e h λelt gens sc pos h=>?_;simp only[tv]at h;have B:aO sc X.env.scope X.N N' fr:=by rw[G.sc,G.N];exact gX h.1
  have B':aO sc C.sc C.N N' fr:=gX h.1
  cases c with
  |last src g ifs m=>
   have h2:=h.2;simp only[okC]at h2
   split at h2
   ·rename_i t it fs a;simp only[tv,decide_eq_true_eq]at h2;obtain⟨⟨⟨⟨rfl,hi⟩,L⟩,ht⟩,he⟩:=h2;refine PE.imp (fC G.calm G.hx B (λg' z=>by simp at z) (sI src G _ t hi).1 (λs H fp=>sG (G.blk B' s H fp) g t L) (tb:=λp=>lC X.K p (aR (wTl Φ ifs) (cS (wE Φ m)))) (λs H fp p=>?_) (sI src G _ t hi).2) (cT (mI G.mono src) (aB (bb (mE G.mono m)) (mTl G.mono ifs)))
    have G':=G.blk B' s H fp;exact cJ (p:=p) G' (bb (mE G.mono m)) (mTl G.mono ifs) (PB.imp (i5 G'.hx (sE m G' elt he) rfl) (dW (mE G.mono m))) (sTl ifs G' fs ht)
   ·cases h2
  |more src g ifs rest=>
   have h2:=h.2;simp only[okC]at h2
   split at h2
   ·rename_i t it fs a g2 gs;simp only[tv,decide_eq_true_eq]at h2;obtain⟨⟨⟨⟨rfl,hi⟩,L⟩,ht⟩,he⟩:=h2;have BJ:∀g',(g2::gs)[0]?=Z g'->g'.is_async=0:=fun g' z=>by
     have z':g2=g':=by simpa using z
     subst z';exact eE he
    refine PE.imp (fC G.calm G.hx B BJ (sI src G _ t hi).1 (λs H fp=>sG (G.blk B' s H fp) g t L) (tb:=λp=>lC X.K p (aR (wTl Φ ifs) (wCl Φ rest))) (λs H fp p=>?_) (sI src G _ t hi).2) (cT (mI G.mono src) (aB (mCl G.mono rest) (mTl G.mono ifs)));have G':=G.blk B' s H fp;exact cJ (p:=p) G' (mCl G.mono rest) (mTl G.mono ifs) (sCl rest G' elt (⟨t,it,fs,0⟩::g2::gs) sc pos 0 (.inl rfl) p he) (sTl ifs G' fs ht)
   ·cases h2
theorem sA:∀(m:MEs) {C:Ctx} {X:Cx} (G:Good C Φ k X) (es:List Expr),okEs m C es=NQ->PA X es (lA X.K (wA Φ m))
 |.nil,C,X,G,es,h=>by simp[okEs]at h;subst h;exact jX
 |.cons m r,C,X,G,[],h=>by simp[okEs]at h
 |.cons m r,C,X,G,e::es,h=>by simp only[okEs,tv]at h;exact i8 (mE G.mono m) (mA G.mono r) (sE m G e h.1.2) (sA r G es h.2) (ar h.1.1)
theorem sAnds:∀(m:MEs) {C:Ctx} {X:Cx} (G:Good C Φ k X) (es:List Expr) (pos:Pos),okEs m C es=NQ->es≠[]->PE X (.BoolOp .And es pos) (lE X.K (wAnds Φ m))
 |.nil,C,X,G,es,pos,h,j=>by simp[okEs]at h;exact absurd h j
 |.cons m r,C,X,G,[],pos,h,j=>absurd rfl j
 |.cons m .nil,C,X,G,e::es,pos,h,_=>by simp only[okEs,tv]at h;obtain⟨h1,h2⟩:=h;simp at h2;subst h2;exact pS (sE m G e h1.2)
 |.cons m (.cons m2 r),C,X,G,e::es,pos,h,_=>by
  simp only[okEs,tv]at h;obtain⟨h1,h2⟩:=h
  cases es with
  |nil=>simp at h2
  |cons f fs=>exact xv (mE G.mono m) (mAnds G.mono _) (sE m G e h1.2) (sAnds (.cons m2 r) G (f::fs) pos (by simpa only[okEs,tv]using h2) (by simp))
theorem sOrs:∀(m:MEs) {C:Ctx} {X:Cx} (G:Good C Φ k X) (es:List Expr) (pos:Pos),okEs m C es=NQ->es≠[]->PE X (.BoolOp .Or es pos) (lE X.K (wOrs Φ m))
 |.nil,C,X,G,es,pos,h,j=>by simp[okEs]at h;exact absurd h j
 |.cons m r,C,X,G,[],pos,h,j=>absurd rfl j
 |.cons m .nil,C,X,G,e::es,pos,h,_=>by simp only[okEs,tv]at h;obtain⟨h1,h2⟩:=h;simp at h2;subst h2;exact pS (sE m G e h1.2)
 |.cons m (.cons m2 r),C,X,G,e::es,pos,h,_=>by
  simp only[okEs,tv]at h;obtain⟨h1,h2⟩:=h
  cases es with
  |nil=>simp at h2
  |cons f fs=>exact yZ (mE G.mono m) (mOrs G.mono _) (sE m G e h1.2) (sOrs (.cons m2 r) G (f::fs) pos (by simpa only[okEs,tv]using h2) (by simp))
theorem sO:∀(m:MO) {C:Ctx} {X:Cx} (G:Good C Φ k X) (e:Option Expr),okO m C e=NQ->PO X e (lO X.K (wO Φ m))
 |.none,C,X,G,e,h=>by simp[okO]at h;subst h;exact vg
 |.some m,C,X,G,Y,h=>by simp[okO]at h
 |.some m,C,X,G,Z e,h=>by simp only[okO]at h;exact vh (mE G.mono m) (sE m G e h)
theorem sT:∀(m:MT) {C:Ctx} {X:Cx} (G:Good C Φ k X) (e:Expr),okT m C e=NQ->PT X e (lT X.K (wT Φ m))
 |.tru m,C,X,G,e,h=>by simp only[okT,tv]at h;exact xp (mE G.mono m) (sE m G e h.2) (oE h.1)
 |.cmp op a b,C,X,G,e,h=>by refine kQ e h λl os rs pos h=>?_;refine bY os h λo h=>?_;refine bY rs h λr h=>?_;simp only[tv,decide_eq_true_eq]at h;obtain⟨⟨⟨ho,B⟩,F⟩,hm⟩:=h;rw[G8]at hm;subst ho;exact xj (mX G op) (dF op) (mE G.mono a) (mE G.mono b) (sE a G _ B) (sE b G _ F) hm
 |.and ts,C,X,G,e,h=>by
  refine fo e h λo xs _ h=>?_;replace h:=bn h;obtain⟨ho,h⟩:=h;obtain⟨ho,j⟩:=bn ho
  cases of_decide_eq_true ho
  exact(sAndTs ts G _ _ h (by intro z;rw[z]at j;cases j)).pt
 |.or ts,C,X,G,e,h=>by
  refine fo e h λo xs _ h=>?_;replace h:=bn h;obtain⟨ho,h⟩:=h;obtain⟨ho,j⟩:=bn ho
  cases of_decide_eq_true ho
  exact(sOrTs ts G _ _ h (by intro z;rw[z]at j;cases j)).pt
 |.not t,C,X,G,e,h=>by
  refine fY e h λo x _ h=>?_;replace h:=bn h;obtain⟨ho,h⟩:=h
  cases of_decide_eq_true ho
  exact xq (mT G.mono t) (sT t G _ h)
theorem sAndTs:∀(m:MTs) {C:Ctx} {X:Cx} (G:Good C Φ k X) (es:List Expr) (pos:Pos),okTs m C es=NQ->es≠[]->PW X (.BoolOp .And es pos) (lT X.K (wAndTs Φ m))
 |.nil,C,X,G,es,pos,h,j=>by simp[okTs]at h;exact absurd h j
 |.cons m r,C,X,G,[],pos,h,j=>absurd rfl j
 |.cons m .nil,C,X,G,e::es,pos,h,_=>by simp only[okTs,tv]at h;obtain⟨h1,h2⟩:=h;simp at h2;subst h2;exact ve (sT m G e h1)
 |.cons m (.cons m2 r),C,X,G,e::es,pos,h,_=>by
  simp only[okTs,tv]at h;obtain⟨h1,h2⟩:=h
  cases es with
  |nil=>simp at h2
  |cons f fs=>exact xu (mT G.mono m) (mAndTs G.mono _) (sT m G e h1) (sAndTs (.cons m2 r) G (f::fs) pos (by simpa only[okTs,tv]using h2) (by simp))
theorem sOrTs:∀(m:MTs) {C:Ctx} {X:Cx} (G:Good C Φ k X) (es:List Expr) (pos:Pos),okTs m C es=NQ->es≠[]->PW X (.BoolOp .Or es pos) (lT X.K (wOrTs Φ m))
 |.nil,C,X,G,es,pos,h,j=>by simp[okTs]at h;exact absurd h j
 |.cons m r,C,X,G,[],pos,h,j=>absurd rfl j
 |.cons m .nil,C,X,G,e::es,pos,h,_=>by simp only[okTs,tv]at h;obtain⟨h1,h2⟩:=h;simp at h2;subst h2;exact xt (sT m G e h1)
 |.cons m (.cons m2 r),C,X,G,e::es,pos,h,_=>by
  simp only[okTs,tv]at h;obtain⟨h1,h2⟩:=h
  cases es with
  |nil=>simp at h2
  |cons f fs=>exact yY (mT G.mono m) (mOrTs G.mono _) (sT m G e h1) (sOrTs (.cons m2 r) G (f::fs) pos (by simpa only[okTs,tv]using h2) (by simp))
theorem sTl:∀(m:MTs) {C:Ctx} {X:Cx} (G:Good C Φ k X) (es:List Expr),okTs m C es=NQ->EZ (λc t=>PT X c t) es ((wTl Φ m).map (lT X.K))
 |.nil,C,X,G,es,h=>by simp[okTs]at h;subst h;exact .nil
 |.cons m r,C,X,G,[],h=>by simp[okTs]at h
 |.cons m r,C,X,G,e::es,h=>by simp only[okTs,tv]at h;exact .cons (sT m G e h.1) (sTl r G es h.2)
theorem sI:∀(m:MI) {C:Ctx} {X:Cx} (G:Good C Φ k X) (e tg:Expr),okI m C tg e=NQ->PI X tg e (lI X.K (wI Φ m))/\∀x,G3 e X.env x=pure x
 |.seq m,C,X,G,e,tg,h=>by simp only[okI,tv]at h;exact⟨xC (mE G.mono m) (sE m G e h.2),qF h.1⟩
 |.rng1 a,C,X,G,e,tg,h=>by refine bZ e h λx xs p pos h=>?_;refine bY xs h λy h=>?_;simp only[tv,decide_eq_true_eq]at h;obtain⟨⟨⟨rfl,j⟩,hs⟩,z⟩:=h;exact⟨vA (cj (mE G.mono a) bH) (G.gl j) (G.mgB _ (by decide)) (i8 (mE G.mono a) bH (sE a G _ z) jX (ar hs)) (ar hs),λx=>rfl⟩
theorem sCl:∀(m:MC) {C:Ctx} {X:Cx} (G:Good C Φ k X) (elt:Expr) (gens:List ET) (sc:Scope) (pos:Pos) (d:Nat) (_:d=0∨d=d) (p:NS),okC m C C (gens.drop (d+1)) elt=NQ->
 PB X (aN elt gens sc pos d (.ref p) X.env) (lC X.K p (wCl Φ m))
 |.last src g ifs m,C,X,G,elt,gens,sc,pos,d,_,p,h=>by
  simp only[okC]at h
  split at h
  ·rename_i t it fs a hd;simp only[tv,decide_eq_true_eq]at h;obtain⟨⟨⟨⟨rfl,hi⟩,B⟩,F⟩,he⟩:=h;have J:gens[d+1]?=Z ⟨t,it,fs,0⟩:=by
    have z:(gens.drop (d+1))[0]?=Z ⟨t,it,fs,0⟩:=by rw[hd];rfl
    rw[Gx]at z;simpa using z
   have j:gens[d+1+1]?=Y:=by
    have z:(gens.drop (d+1))[1]?=Y:=by rw[hd];rfl
    rw[Gx]at z;simpa using z
   refine PB.imp (iL G.hx G.calm J (λg' z=>by rw[j]at z;cases z) (sI src G _ t hi).1 (sG G g t B) (cJ (p:=p) G (bb (mE G.mono m)) (mTl G.mono ifs) (PB.imp (i5 G.hx (sE m G elt he) j) (dW (mE G.mono m))) (sTl ifs G fs F)) (sI src G _ t hi).2) (fF (mI G.mono src) (aB (bb (mE G.mono m)) (mTl G.mono ifs)))
  ·cases h
 |.more src g ifs rest,C,X,G,elt,gens,sc,pos,d,_,p,h=>by
  simp only[okC]at h
  split at h
  ·rename_i t it fs a g2 gs hd;simp only[tv,decide_eq_true_eq]at h;obtain⟨⟨⟨⟨rfl,hi⟩,B⟩,F⟩,he⟩:=h;have J:gens[d+1]?=Z ⟨t,it,fs,0⟩:=by
    have z:(gens.drop (d+1))[0]?=Z ⟨t,it,fs,0⟩:=by rw[hd];rfl
    rw[Gx]at z;simpa using z
   have j:gens[d+1+1]?=Z g2:=by
    have z:(gens.drop (d+1))[1]?=Z g2:=by rw[hd];rfl
    rw[Gx]at z;simpa using z
   have O:gens.drop (d+1+1)=g2::gs:=by
    have z:(gens.drop (d+1)).drop 1=g2::gs:=by rw[hd];rfl
    rw[Jo]at z;simpa using z
   have L:∀g',gens[d+1+1]?=Z g'->g'.is_async=0:=λg' z=>by rw[j]at z;cases z;exact eE he
   refine PB.imp (iL G.hx G.calm J L (sI src G _ t hi).1 (sG G g t B) (cJ (p:=p) G (mCl G.mono rest) (mTl G.mono ifs) (sCl rest G elt gens sc pos (d+1) (.inr rfl) p (by rw[O];exact he)) (sTl ifs G fs F)) (sI src G _ t hi).2) (fF (mI G.mono src) (aB (mCl G.mono rest) (mTl G.mono ifs)))
  ·cases h
end
end
end
section
section
variable{Φ:Phi}{k:Nat}{C:Ctx}{X:Cx}
theorem tM{ts vs:List Expr}{kk j:Nat}{pp p2:Pos}(hs:env.scope=sc)(z:sc.kind=.function)(h:oC sc ts vs=NQ):IU [.Tuple ts kk pp] (.Tuple vs j p2) env=pure Y:=by
 have B:env.blockKind=.function:=by unfold Lb;rw[hs,z];rfl
 have h':oC sc ts vs=NQ:=h;unfold IU;dsimp only;rw[B]
 by_cases c1:(!(ts.length==2 || ts.length==3) || vs.length != ts.length)=NQ
 ·simp only[c1,Bool.true_or,if_true]
 ·simp only[JK]at c1;rw[c1];simp only[L4,bne_self_eq_false,Ec,if_false]
  split
  ·rfl
  ·
    generalize F:List.filterMap _ ts=L;obtain rfl:L=bQ sc ts:=by
     rw[<-F];unfold bQ;congr 1
     funext x
     cases x<;>first|rfl|(unfold Ng;rw[hs])
    unfold oC at h';rw[c1]at h';simp only[L4,Kk]at h'
    by_cases c3:((bQ sc ts).length != ts.length || (bQ sc ts).eraseDups.length != (bQ sc ts).length)=NQ
    ·rw[if_pos c3]
    ·rw[if_neg c3];have J:vs.all (foldedForSure 8)=NQ:=by
      rcases h' with h'|h'
      ·exact absurd (Kk _ _ |>.mpr h') c3
      ·exact h'
     rw[if_pos J]
theorem dl{tg:Expr}{b:Bool}(h:Ig e (Z tg) l env=pure b):IT [tg] e l env=pure b:=by unfold IT;exact h
theorem w6{tg:Expr}(hs:env.scope=sc)(j:sc.kind=.function)(h:uu sc tg e=NQ):IU [tg] e env=pure Y:=by
 cases tg with
 |Tuple ts kk pp=>
  cases e with
  |Tuple vs z p2=>exact tM hs j h
  |_=>rfl
 |_=>first|rfl|(cases h;done)
theorem kX{elt:Expr}{gens:List ET}{s:Scope}{px:Pos}(hs:env.scope=sc)(j:sc.kind=.function):
 Ig (.ListComp elt gens s pos) (Z (.Name x px)) l env=pure (oD sc x px (.ListComp elt gens s pos)):=by
 have z:env.blockKind=.function:=by unfold Lb;rw[hs,j];rfl
 unfold Ig;dsimp only;rw[z];unfold oD Ng;rw[hs];rfl
theorem qG{ek ev:Expr}{gens:List ET}{s:Scope}{px:Pos}(hs:env.scope=sc)(j:sc.kind=.function):
 Ig (.DictComp ek ev gens s pos) (Z (.Name x px)) l env=pure (sc.names.lookup x==Z .local&&px.line==(Expr.DictComp ek ev gens s pos).pos.line && !(s.names.any λ(n,k)=>n==x&&(k==.local || k==.cell))):=by
 have z:env.blockKind=.function:=by unfold Lb;rw[hs,j];rfl
 unfold Ig;dsimp only;rw[z];unfold Ng;rw[hs];rfl
mutual
theorem sS:∀(m:MS) (G:Good C Φ k X) (j:C.sc.kind=.function) (s:Stmt),okS m C s=NQ->PS X s (lS X.K (wS Φ m))
 |.asg g m,G,j,s,h=>by
  refine kT s h λts e pos h1=>?_;clear h;refine bY ts h1 λtg h=>?_;clear h1;simp only[tv]at h;obtain⟨⟨⟨F,he⟩,fv⟩,O⟩:=h;have hw:=w6 G.sc j fv;have pg:=sG G g tg F;have plain:IT [tg] e pos.line X.env=pure NR->PS X (.Assign [tg] e pos) (lS X.K (ii (wE Φ m) (bG g))):=λhs=>PS.imp (oQ (sE m G e he) pg hs hw (by cases tg<;>first|rfl|(cases fv;done))) (sJ (mE G.mono m))
  cases tg with
  |Tuple ts a b=>exact plain (dl (iw O))
  |Name x px=>
   cases e with
   |ListComp elt gens sc cpos=>
    by_cases sw:oD C.sc x px (.ListComp elt gens sc cpos)=NQ
    ·cases g with
     |tup gs=>exact absurd F E5
     |name i=>
      cases m with
      |comp fr N' c=>
       replace he:=bn he;have B:aO sc X.env.scope X.N N' fr:=by rw[G.sc,G.N];exact gX he.1
       have B':aO sc C.sc C.N N' fr:=gX he.1;have U:PG X (.Name x px) (gh i):=by have F:=bn F;have F:=IJ (bn F.1) F.2;exact lN G.nd (by rw[G.N];exact of_decide_eq_true F.1.1) (G.loc F.1.2) (G.own F.2)
       have NP:∀l,Ig (.ListComp elt gens sc cpos) (Z (.Name x px)) l X.env=pure NQ:=λl=>by rw[kX G.sc j,sw]
       have mc:=mCmp G.mono fr c
       cases c with
       |last src g ifs m=>
        have h2:=he.2;simp only[okC]at h2
        split at h2
        ·rename_i t it fs a;simp only[tv,decide_eq_true_eq]at h2;obtain⟨⟨⟨⟨rfl,hi⟩,L⟩,ht⟩,J⟩:=h2;refine PS.imp (gx (i:=i) (g:=lG X.K (bG g)) (wi:=lI X.K (wI Φ src)) G.calm G.hx B (λg' z=>by simp at z) (sI src G _ t hi).1 (λs H fp=>sG (G.blk B' s H fp) g t L) (tb:=λp=>lC X.K p (aR (wTl Φ ifs) (cS (wE Φ m)))) (λs H fp p=>?_) (sI src G _ t hi).2 U (NP _)) λD σ H h=>?_
         ·have G':=G.blk B' s H fp;exact cJ (p:=p) G' (bb (mE G.mono m)) (mTl G.mono ifs) (PB.imp (i5 G'.hx (sE m G' elt J) rfl) (dW (mE G.mono m))) (sTl ifs G' fs ht)
         ·exact cT (mI G.mono src) (aB (bb (mE G.mono m)) (mTl G.mono ifs)) σ H _ (iW mc D σ H h)
        ·cases h2
       |more src g ifs rest=>
        have h2:=he.2;simp only[okC]at h2
        split at h2
        ·rename_i t it fs a g2 gs;simp only[tv,decide_eq_true_eq]at h2;obtain⟨⟨⟨⟨rfl,hi⟩,L⟩,ht⟩,J⟩:=h2;have BG:∀g',(g2::gs)[0]?=Z g'->g'.is_async=0:=fun g' z=>by
          have z':g2=g':=by simpa using z
          subst z';exact eE J
         refine PS.imp (gx (i:=i) (g:=lG X.K (bG g)) (wi:=lI X.K (wI Φ src)) G.calm G.hx B BG (sI src G _ t hi).1 (λs H fp=>sG (G.blk B' s H fp) g t L) (tb:=λp=>lC X.K p (aR (wTl Φ ifs) (wCl Φ rest))) (λs H fp p=>?_) (sI src G _ t hi).2 U (NP _)) λD σ H h=>?_
         ·have G':=G.blk B' s H fp;exact cJ (p:=p) G' (mCl G.mono rest) (mTl G.mono ifs) (sCl rest G' elt (⟨t,it,fs,0⟩::g2::gs) sc cpos 0 (.inl rfl) p J) (sTl ifs G' fs ht)
         ·exact cT (mI G.mono src) (aB (mCl G.mono rest) (mTl G.mono ifs)) σ H _ (iW mc D σ H h)
        ·cases h2
      |_=>exact absurd he E5
    ·refine plain ?_;simp only[JK]at sw;refine dl ?_;rw[kX G.sc j,sw]
   |SetComp _ _ _ _=>cases m<;>exact absurd he E5
   |DictComp _ _ _ _ _=>refine plain (dl ?_);rw[qG G.sc j];unfold xY at O;simp only[G8]at O;rw[O]
   |_=>exact plain (dl rfl)
  |_=>cases fv
 |.put o i m,G,j,s,h=>by refine kT s h λts e pos h=>?_;refine bY ts h λtg h=>?_;refine dH tg h λx y tp h=>?_;simp only[tv]at h;obtain⟨⟨⟨⟨BH,O⟩,ho⟩,hi⟩,he⟩:=h;exact xE (by have:=G.units;lia) (mE G.mono m) (mE G.mono o) (mE G.mono i) (sE m G e he) (sE o G x ho) (sE i G y hi) (dl (iw O)) rfl (λv=>by cases y<;>first|rfl|(cases BH;done))
 |.drop m,G,j,s,h=>by refine xT s h λe _ h=>?_;simp only[tv]at h;exact PS.imp (uE (sE m G _ h.2) (iw h.1)) (q9 (mE G.mono m))
 |.ret m,G,j,s,h=>by refine tI s h λo _ h=>?_;refine jos o h λe h=>?_;exact PS.imp (wB (sE m G _ h)) (sH (mE G.mono m))
 |.ite c a b,G,j,s,h=>by refine A3 s h λt x y _ h=>?_;simp only[tv]at h;exact PS.imp (yv (sT c G _ h.1.1) (sSs a G j _ h.1.2) (sSs b G j _ h.2)) (vB (mT G.mono c))
 |.for g src b,G,j,s,h=>by refine zg s h λtg it body els _ h=>?_;refine eB els h fun  h=>?_;simp only[tv]at h;obtain⟨⟨⟨hs,F⟩,hi⟩,hb⟩:=h;exact PS.imp (wJ (λe s z=>(G.hx e s z).elim) G.calm (sI src G _ _ hi).1 (sG G g _ F) (sSs b G j _ hb) (qF hs)) (sK (mI G.mono src) (mSs G.mono b))
 |.while c b,G,j,s,h=>by refine vZ s h λt body els _ h=>?_;refine eB els h fun  h=>?_;simp only[tv]at h;exact PS.imp (qZ (λe s z=>(G.hx e s z).elim) (sT c G _ h.1) (sSs b G j _ h.2)) (nY (mT G.mono c) (mSs G.mono b))
 |.pass,G,j,s,h=>by refine xV s h λ_ h=>?_;exact PS.imp uD iV
 |.brk,G,j,s,h=>by refine w4 s h λ_ h=>?_;exact PS.imp qX nX
 |.cnt,G,j,s,h=>by refine oA s h λ_ h=>?_;exact PS.imp ls q8
theorem sSs:∀(m:MSs) (G:Good C Φ k X) (j:C.sc.kind=.function) (s:List Stmt),okSs m C s=NQ->PSs X s (lS X.K (wSs Φ m))
 |.nil,G,j,s,h=>by simp[okSs]at h;subst h;exact PSs.imp uC iV
 |.cons m r,G,j,[],h=>by simp[okSs]at h
 |.cons m r,G,j,s::ss,h=>by simp only[okSs,tv]at h;exact PSs.imp (qW (sS m G j s h.1) (sSs r G j ss h.2)) (sF (mS G.mono m) (mSs G.mono r))
end
end
end
variable{a:NS}{ns:List Int}
section
structure FD where
 name:Str
 st:Stmt
 N:List Str
 np:Nat
 body:MSs
noncomputable def dq(N:List Str)(ds:List D):ak:=ds.map Z++El (N.length-ds.length) Y
noncomputable def phi(T:List FD):Nat->Phi
 |0=>λ_ _ _ _=>False
 |k+1=>λf ds M Q=>∃d,T[f]?=Z d/\ds.length=d.np/\wSs (phi T k) d.body {nx:=λ_ M'=>Q .non M',rt:=Q} (dq d.N ds) M
theorem gc(T:List FD):∀k f,aX (phi T k f)
 |0,f=>λ_ _ _ _ _ q=>q.elim
 |k+1,f=>λds M Q Q' h j=>(by obtain⟨d,e,l,q⟩:=j;exact⟨d,e,l,mSs (gc T k) d.body {nx:=λ_ M'=>Q .non M',rt:=Q} {nx:=λ_ M'=>Q' .non M',rt:=Q'} _ _ ⟨λ_ M' q'=>h _ _ q',h,λ_ _ z=>z,λ_ _ z=>z⟩ q⟩)
noncomputable def oF(Γ:List Str)(cs:List (Str×D))(d:FD):Bool:=
 decide ((am d.st).kind=.function) && !(am d.st).isCoroutine && !(am d.st).isGenerator&&decide (d.N.Nodup)&&decide (d.np<=d.N.length)
  && (d.N.take d.np).all (λx=>(am d.st).names.lookup x==Z .local || (am d.st).names.lookup x==Z .cell)
  && (am d.st).names.all (λy=>!(y.2==.free))&&okSs d.body ⟨Γ,d.N,am d.st,d.N,cs,0,d.name⟩ (bu d.st)
theorem tN{Γ:List Str}{cs:List (Str×D)}{d:FD}(h:oF Γ cs d=NQ):eK d.N (d.N.take d.np) (am d.st)/\(d.N.take d.np).length=d.np/\okSs d.body ⟨Γ,d.N,am d.st,d.N,cs,0,d.name⟩ (bu d.st)=NQ:=by
 simp only[oF,tv,decide_eq_true_eq,G8]at h;obtain⟨⟨⟨⟨⟨⟨⟨h1,h2⟩,B⟩,F⟩,NP⟩,J⟩,L⟩,O⟩:=h;have j:(d.N.take d.np).length=d.np:=by rw[Et];lia
 refine⟨⟨h1,h2,B,F,by rw[j],λx hx=>?_,λy U e=>?_⟩,j,O⟩
 ·have z:=HH.mp J x hx;simpa using z
 ·have z:=HH.mp L y U;rw[e]at z;simp at z
section
variable{P:Eg}{w:Ez}{K:Frag}{mg:Str->Option gV}{base:Heap}
structure uv(K:Frag)(mg:Str->Option gV)(T:List FD)(cs:List (Str×D)):Prop where
 blt:∀x∈bltNames,mg x=Y
 fns:∀(i:Nat) (d:FD),T[i]?=Z d->∃f fd,Fun K d.name d.name d.st f fd/\mg d.name=Z (.ref f)/\Jb K Fd d.name=Z (Z (.ref f))/\Binds K fd (d.N.take d.np) []
 ok:∀d∈T,oF (T.map (·.name)) cs d=NQ
 cst:∀x d,(x,d)∈cs->∃u,mg x=Z u/\GV K d u
theorem qH{T:List FD}{cs:List (Str×D)}(O:uv K mg T cs):∀(k i:Nat) (d:FD) (f:NS) (fd:Hi),T[i]?=Z d->Fun K d.name d.name d.st f fd->cq P w K mg base CX0 k f fd (d.N.take d.np) (lSp K (phi T k i))
 |0,i,d,f,fd,e,F=>⟨λvs H Q E h=>by obtain⟨ds,M,_,_,q⟩:=h;exact q.elim,λA outer s H args us vs Q E _ _ _ _ h=>by obtain⟨ds,M,_,_,q⟩:=h;exact q.elim⟩
 |k+1,i,d,f,fd,e,F=>by
  obtain⟨S,hl,hb⟩:=tN (O.ok d (Eh e));refine F.ok S (λvs H Q E h=>?_) λcdv A outer s H vs Q E hr h=>?_
  ·obtain⟨ds,M,rm,rs,d',e',l,q⟩:=h;rw[e]at e';cases e';rw[rs.length,l,hl]
  ·obtain⟨ds,M,rm,rs,d',e',l,q⟩:=h;rw[e]at e';cases e';have G:Good ⟨T.map (·.name),d.N,am d.st,d.N,cs,0,d.name⟩ (phi T k) k ((fI CX0 P w K mg base d.N d.name (am d.st) f cdv A outer s H E).nox):=by
    refine⟨λ_ _ z=>z,rfl,rfl,rfl,S.nd,λ_ _=>rfl,hr,O.blt,λj x hx=>?_,gc T k,O.cst,λz=>(by cases z),λ_ z=>(by cases z)⟩
    have B:(T.map (·.name))[j]?=Z x:=hx;rw[Em]at B
    cases NP:T[j]? with
    |none=>rw[NP]at B;cases B
    |some d2=>rw[NP]at B;cases B;obtain⟨f2,U,fv,m2,n2,b2⟩:=O.fns j d2 NP;exact⟨f2,U,_,m2,n2,fv.kp,b2,qH O k j d2 f2 U NP fv⟩
   refine⟨_,sSs d.body G S.kind _ hb,dq d.N ds,M,{nx:=λ_ M'=>KE' K M H Q .non M',rt:=KE' K M H Q},?_,rm,⟨λρ M' σ H' x rs' rm' q'=>?_,λd M' v H' x rm' rd' q'=>q' v H' x rm' rd',λ_ _ _ _ _ _ _ z=>z,λ_ _ _ _ _ _ _ z=>z⟩,q⟩
   ·refine⟨by simp[ce,dq,rs.length],λj dd J=>?_⟩
    unfold dq at J;unfold ce
    by_cases L:j<ds.length
    ·rw[E7 (by simpa using L),Em]at J
     cases e3:ds[j]? with
     |none=>rw[e3]at J;cases J
     |some z=>rw[e3]at J;cases J;obtain⟨v,hv,rv⟩:=rs.get e3;refine⟨v,?_,rv⟩;rw[E7 (by rw[DY,rs.length];exact L),Em,hv];rfl
    ·rw[y1 (by simpa using L),JH]at J
     split at J<;>cases J
   ·exact q' .non H' x rm' (NA.mpr rfl)
theorem y8{T:List FD}{k i:Nat}{H:Hp}(B:nC H)(F:SqL K H a (ns.map V.int))(h:phi T k i [.con (ns.map D.int)] (λ_=>Y) λd _=>d=.bl NQ):
 lSp K (phi T k i) [.ref a] H (λv _=>v=.bl NQ) λ_ _ _=>False:=by
 have j:RM K (λ_=>Y) H:=λ_ _ z=>by cases z
 refine⟨[.con (ns.map D.int)],λ_=>Y,j,RDs.cons (Ny.mpr ⟨a,ns.map V.int,rfl,?_,NM ns⟩) RDs.nil,gc T k i [.con (ns.map D.int)] (λ_=>Y) (λd _=>d=.bl NQ) (KE' K (λ_=>Y) H λv _=>v=.bl NQ) (λd M' e=>λv H' x rm rd=>?_) h⟩
 ·rcases F with(z|⟨o,z⟩)|z
  ·rcases B a with q|⟨o,xs,q⟩
   ·rw[z]at q;cases q
   ·rw[z]at q;cases q
  ·exact .inl ⟨o,z⟩
  ·exact .inr z
 ·subst e;exact Nv.mp rd
end
theorem gY(us:List gV)(h:us.length=1):∃a,us=[a]:=List.length_eq_one_iff.mp h
theorem fq(us:List gV)(h:us.length=2):∃a b,us=[a,b]:=by
 cases us with
 |nil=>cases h
 |cons a us=>obtain⟨b,rfl⟩:=gY us (Nat.succ.inj h);exact⟨a,b,rfl⟩
theorem zi(us:List gV)(h:us.length=3):∃a b c,us=[a,b,c]:=by
 cases us with
 |nil=>cases h
 |cons a us=>obtain⟨b,c,rfl⟩:=fq us (Nat.succ.inj h);exact⟨a,b,c,rfl⟩
theorem zj(us:List gV)(h:us.length=4):∃a b c d,us=[a,b,c,d]:=by
 cases us with
 |nil=>cases h
 |cons a us=>obtain⟨b,c,d,rfl⟩:=zi us (Nat.succ.inj h);exact⟨a,b,c,d,rfl⟩
end
variable{b:NS}{n:Nat}{j i c:Int}{s:Stmt}{d:FD}{T:List FD}{ds xs:List D}{M M' M'':Mem}{Q:QD}{ρ:ak}{Φ:Phi}
section
theorem y9{k:Nat}(e:T[f]?=Z d)(l:ds.length=d.np)(r:dq d.N ds=ρ)(h:wSs (phi T k) d.body {nx:=λ_ M'=>Q .non M',rt:=Q} ρ M):phi T (k+1) f ds M Q:=by
 rw[<-r]at h
 first|exact⟨d,e,l,h⟩|exact .inl ⟨d,e,l,h⟩
theorem bh(j:1<=n)(e:T[f]?=Z d)(l:ds.length=d.np)(r:dq d.N ds=ρ)(h:wSs (phi T (n-1)) d.body {nx:=λ_ M'=>Q .non M',rt:=Q} ρ M):phi T n f ds M Q:=by
 obtain⟨k,rfl⟩:∃k,n=k+1:=⟨n-1,∅⟩
 exact y9 e l r h
theorem Ai{D:bD}:wSs Φ .nil D ρ M=D.nx ρ M:=by rw[wSs];rfl
theorem dI{s:MS}{r:MSs}{D:bD}:wSs Φ (.cons s r) D ρ M=wS Φ s {D with nx:=wSs Φ r D} ρ M:=by rw[wSs];rfl
theorem Aj{y:D}:wIx (.tup ds) y M Q=∃i d,y=.int i/\atI ds i=Z d/\Q d M:=rfl
theorem Ak{y:D}:wIx (.con ds) y M Q=∃i d,y=.int i/\atI ds i=Z d/\Q d M:=rfl
theorem aq{d:D}(h:M a=Z (.lst ds))(e:atI ds i=Z d)(q:Q d M):wIx (.ref a) (.int i) M Q:=.inl ⟨ds,i,d,h,rfl,e,q⟩
theorem kY{v:D}{j:Nat}{Q:Mem->Prop}(h:M a=Z (.lst ds))(e:ixN ds.length i=Z j)(q:Q (af M a (.lst (ds.set j v)))):eW (.ref a) (.int i) v M Q:=⟨a,rfl,.inl ⟨ds,i,j,rfl,h,e,q⟩⟩
theorem mZ(h:M a=Z (.lst ds))(q:Q (.int ds.length) M):dy [.ref a] M Q:=⟨_,_,rfl,by simp only[kg,h],q⟩
theorem aE(h:M a=Z (.lst ds)):bj M (.ref a)=Z ds:=by simp only[bj,h]
theorem AK:ig [.int i] M Q=Q (.int i) M:=by
 apply propext;constructor
 ·rintro(⟨j,e,q⟩|⟨k,e,q⟩)
  ·cases e;exact q
  ·cases e
 ·exactλq=>.inl ⟨i,rfl,q⟩
theorem AL{b:Bool}:ig [.bl b] M Q=Q (.int (if b then 1 else 0)) M:=by
 apply propext;constructor
 ·rintro(⟨j,e,q⟩|⟨k,e,q⟩)
  ·cases e
  ·cases e;exact q
 ·exactλq=>.inr ⟨b,rfl,q⟩
theorem Bt:wEq (.int i) (.int j) M Q=Q (.bl (i==j)) M:=by simp[wEq,rb,F4]
theorem Bu:wNe (.int i) (.int j) M Q=Q (.bl (!(i==j))) M:=by simp[wNe,rb,F4]
theorem AM:dw (.int i) (.int j) M Q=Q (.int (i+j)) M:=rfl
theorem kZ{a b:List D}:dw (.tup a) (.tup b) M Q=((a≠[]∨True)/\a.length+b.length<=D2/\Q (.tup (a++b)) M):=rfl
theorem AN:jZ (.int i) (.int j) M Q=Q (.int (i-j)) M:=rfl
theorem AO:fK (.int i) (.int j) M Q=(MulOk i j/\Q (.int (i*j)) M):=rfl
theorem AQ{k:Int}:fK (.tup ds) (.int k) M Q=(-(2^63)<=k/\k<2^63/\ds.length*k.toNat<=D2/\Q (.tup (El k.toNat ds).flatten) M):=rfl
theorem Al:gz (.int i) (.int j) M Q=(0<j/\j<2^256/\Q (.int (i / j)) M):=rfl
theorem AR:ka (.int i) (.int j) M Q=(0<j/\Q (.int (i%j)) M):=rfl
theorem AS:kb (.int i) (.int j) M Q=(0<=j/\j<=1000000/\i.natAbs<2^64/\Q (.int (i^j.toNat)) M):=rfl
theorem Bv:wLt (.int i) (.int j) M Q=Q (.bl (decide (i<j))) M:=rfl
theorem zk:wGt (.int i) (.int j) M Q=Q (.bl (decide (j<i))) M:=rfl
theorem Bw:wGe (.int i) (.int j) M Q=Q (.bl (decide (j<=i))) M:=rfl
theorem AT:kc (.int i) M Q=Q (.int (-i)) M:=rfl
theorem AU:ie [.int i] M Q=Q (.int (if i<0 then -i else i)) M:=by simp[ie]
theorem Am:gA [.int i,.int j] M Q=Q (.int (if j<i then j else i)) M:=by
 apply propext;constructor
 ·rintro⟨a,b,e,q⟩;cases e;exact q
 ·exactλq=>⟨i,j,rfl,q⟩
theorem AV:dy [.con ds] M Q=Q (.int ds.length) M:=by simp[dy,kg]
theorem AW:dy [.tup ds] M Q=Q (.int ds.length) M:=by simp[dy,kg]
theorem AX:bj M (.tup ds)=Z ds:=rfl
theorem AY:bj M (.con ds)=Z ds:=rfl
theorem By{α:Sort _}{a b:α}:(if NQ=NQ then a else b)=a:=rfl
theorem Bz{α:Sort _}{a b:α}:(if NR=NQ then a else b)=b:=rfl
theorem AZ{y:Str}:dw (.str x) (.str y) M Q=(x.length+y.length<=D2/\Q (.str (x++y)) M):=rfl
theorem B0{i}:wE Φ (.var i)=i6 i:=rfl
theorem B1{i}:wE Φ (.int i)=wC (.int i):=rfl
theorem BA{b}:wE Φ (.bl b)=wC (.bl b):=rfl
theorem B2:wE Φ (.non)=wC .non:=rfl
theorem B3{op}{a}{b}:wE Φ (.bin op a b)=wOp (opB op) (wE Φ a) (wE Φ b):=rfl
theorem B4{a}:wE Φ (.neg a)=wUn kc (wE Φ a):=rfl
theorem B5{op}{a}{b}:wE Φ (.cmp op a b)=wOp (opC op) (wE Φ a) (wE Φ b):=rfl
theorem B6{es}:wE Φ (.and es)=wAnds Φ es:=rfl
theorem BB{es}:wE Φ (.or es)=wOrs Φ es:=rfl
theorem B7{a}:wE Φ (.not a)=jt (wE Φ a):=rfl
theorem B8{c}{a}{b}:wE Φ (.ite c a b)=wIf (wT Φ c) (wE Φ a) (wE Φ b):=rfl
theorem B9{es}:wE Φ (.tup es)=wAr nH (wA Φ es):=rfl
theorem Ba{es}:wE Φ (.lst es)=wAr nI (wA Φ es):=rfl
theorem BC{a}{b}:wE Φ (.ix a b)=wOp wIx (wE Φ a) (wE Φ b):=rfl
theorem BD{a}{lo}{hi}:wE Φ (.sl a lo hi)=wSl (wE Φ a) (wO Φ lo) (wO Φ hi):=rfl
theorem An{f}{es}:wE Φ (.call f es)=wAr (Φ f) (wA Φ es):=rfl
theorem Bb{f}{es}:wE Φ (.blt f es)=wAr (opF f) (wA Φ es):=rfl
theorem Ao{a}{T}:wE Φ (.isin a T)=jv T (wE Φ a):=rfl
theorem Ap{a}:wE Φ (.lrev a)=jm (wE Φ a):=rfl
theorem A4{a}:wE Φ (.sortT a)=gP (wE Φ a):=rfl
theorem Aq{t}:wE Φ (.dnew t)=jB t:=rfl
theorem A5{a}:wE Φ (.sortI a)=gM (wE Φ a):=rfl
theorem Ar{o}{k}{x}:wE Φ (.dget o k x)=jF (wE Φ o) (wE Φ k) (wE Φ x):=rfl
theorem As{m}{o}{a}:wE Φ (.meth m o a)=wBM (opM m) (wE Φ o) (cg (wE Φ a) cY):=rfl
theorem Au{fr}{u1}{c}:wE Φ (.comp fr u1 c)=wCmp Φ fr c:=rfl
theorem Av:wA Φ (.nil)=cY:=rfl
theorem A6{e}{r}:wA Φ (.cons e r)=cg (wE Φ e) (wA Φ r):=rfl
theorem A7:wTl Φ (.nil)=[]:=rfl
theorem zu{t}{r}:wTl Φ (.cons t r)=wT Φ t::wTl Φ r:=rfl
theorem Bc{e}:wI Φ (.seq e)=nS (wE Φ e):=rfl
theorem Aw{a}:wI Φ (.rng1 a)=jy (cg (wE Φ a) cY):=rfl
theorem zv{src}{g}{ifs}{elt}:wCl Φ (.last src g ifs elt)=cG (wI Φ src) (bG g) (aR (wTl Φ ifs) (cS (wE Φ elt))):=rfl
theorem zw{src}{g}{ifs}{rest}:wCl Φ (.more src g ifs rest)=cG (wI Φ src) (bG g) (aR (wTl Φ ifs) (wCl Φ rest)):=rfl
theorem zl{src}{g}{ifs}{elt}:wCmp Φ fr (.last src g ifs elt)=eV fr (wI Φ src) (bG g) (aR (wTl Φ ifs) (cS (wE Φ elt))):=rfl
theorem zm{src}{g}{ifs}{rest}:wCmp Φ fr (.more src g ifs rest)=eV fr (wI Φ src) (bG g) (aR (wTl Φ ifs) (wCl Φ rest)):=rfl
theorem Bd{g}{e}:wS Φ (.asg g e)=ii (wE Φ e) (bG g):=rfl
theorem Be{o}{i}{e}:wS Φ (.put o i e)=nZ (wE Φ e) (wE Φ o) (wE Φ i):=rfl
theorem Ax{e}:wS Φ (.drop e)=jA (wE Φ e):=rfl
theorem Bf{e}:wS Φ (.ret e)=nT (wE Φ e):=rfl
theorem Bg{c}{a}{b}:wS Φ (.ite c a b)=sIf (wT Φ c) (wSs Φ a) (wSs Φ b):=rfl
theorem Bh{g}{src}{b}:wS Φ (.for g src b)=nU (wI Φ src) (bG g) (wSs Φ b):=rfl
theorem A8{c}{b}:wS Φ (.while c b)=gF (wT Φ c) (wSs Φ b):=rfl
theorem Ay:wS Φ (.pass)=gD:=rfl
theorem Bi:wS Φ (.brk)=gE:=rfl
theorem Bj:wS Φ (.cnt)=jz:=rfl
theorem Bk{e}:wT Φ (.tru e)=nO (wE Φ e):=rfl
theorem Bl{op}{a}{b}:wT Φ (.cmp op a b)=i7 (wOp (opC op) (wE Φ a) (wE Φ b)):=rfl
theorem Bm{ts}:wT Φ (.and ts)=wAndTs Φ ts:=rfl
theorem BE{ts}:wT Φ (.or ts)=wOrTs Φ ts:=rfl
theorem Bn{t}:wT Φ (.not t)=jo (wT Φ t):=rfl
theorem yi:wAndTs Φ (.nil)=λ_ _ _=>False:=rfl
theorem ya{e}:wAndTs Φ (.cons e .nil)=wT Φ e:=rfl
theorem yb{e}{f}{r}:wAndTs Φ (.cons e (.cons f r))=jq (wT Φ e) (wAndTs Φ (.cons f r)):=rfl
theorem zn:wOrTs Φ (.nil)=λ_ _ _=>False:=rfl
theorem yj{e}:wOrTs Φ (.cons e .nil)=wT Φ e:=rfl
theorem yk{e}{f}{r}:wOrTs Φ (.cons e (.cons f r))=nP (wT Φ e) (wOrTs Φ (.cons f r)):=rfl
theorem zo:wAnds Φ (.nil)=λ_ _ _=>False:=rfl
theorem ym{e}:wAnds Φ (.cons e .nil)=wE Φ e:=rfl
theorem yn{e}{f}{r}:wAnds Φ (.cons e (.cons f r))=jr (wE Φ e) (wAnds Φ (.cons f r)):=rfl
theorem zx:wOrs Φ (.nil)=λ_ _ _=>False:=rfl
theorem zp{e}:wOrs Φ (.cons e .nil)=wE Φ e:=rfl
theorem zq{e}{f}{r}:wOrs Φ (.cons e (.cons f r))=nQ (wE Φ e) (wOrs Φ (.cons f r)):=rfl
theorem A9{i}:bG (.name i)=jx i:=rfl
theorem Az{gs}:bG (.tup gs)=sr (bGs gs):=rfl
theorem Aa:bGs (.nil)=so:=rfl
theorem zy{g}{r}:bGs (.cons g r)=gB (bG g) (bGs r):=rfl
theorem Ab:wO Φ (.none)=eP:=rfl
theorem Ac{e}:wO Φ (.some e)=ju (wE Φ e):=rfl
theorem AA:opB (.add)=dw:=rfl
theorem AB:opB (.sub)=jZ:=rfl
theorem AC:opB (.mul)=fK:=rfl
theorem Ad:opB (.fdiv)=gz:=rfl
theorem AD:opB (.mod)=ka:=rfl
theorem AE:opB (.pow)=kb:=rfl
theorem Bo:opC (.eq)=wEq:=rfl
theorem Bp:opC (.ne)=wNe:=rfl
theorem Bq:opC (.lt)=wLt:=rfl
theorem Br:opC (.gt)=wGt:=rfl
theorem Bs:opC (.ge)=wGe:=rfl
theorem AF:opF (.len)=dy:=rfl
theorem AG:opF (.abs)=ie:=rfl
theorem Ae:opF (.min2)=gA:=rfl
theorem AH:opF (.int)=ig:=rfl
theorem Af:opF (.list)=jn:=rfl
theorem AI:opF (.sum)=nM:=rfl
theorem zr:opM (.append)=eQ:=rfl
local macro_rules|`(tactic| ac_nf)=>do
 let f:=fun(n:Lean.Name)(s:String)=>(s.splitOn " ").toArray.map fun x=>(⟨(Lean.mkIdent (n++x.toName)).raw⟩:Lean.Term)
 let a:=f `_root_.L2.Mi "nF i6 wC wOp wUn cY cg wAr i7 nH nI jm nO jo jq nP jr nQ jt wIf eP ju wSl jv wBM jx so gB sr nS jy cS aR cG eV gD sx gE jz jA nT sIf ii nU gF nZ jB gM jF gP Ai Aj Ak AK AL Bt Bu AM kZ AN AO AQ Al AR AS Bv zk Bw AT AU Am AV AW AX AY By Bz AZ B0 B1 BA B2 B3 B4 B5 B6 BB B7 B8 B9 Ba BC BD An Bb Ao Ap A4 Aq A5 Ar As Au Av A6 A7 zu Bc Aw zv zw zl zm Bd Be Ax Bf Bg Bh A8 Ay Bi Bj Bk Bl Bm BE Bn yi ya yb zn yj yk zo ym yn zx zp zq A9 Az Aa zy Ab Ac AA AB AC Ad AD AE Bo Bp Bq Br Bs AF AG Ae AH Af AI zr"
 let b1:=a++f .anonymous "JT GY Lo Lp JR I0 Mn Mo Mp Eu K8 II Ga"
 let b2:=a++f .anonymous "Ec if_false if_true JT GY Lo Lp Option.some.injEq exists_eq_left' exists_eq_left exists_eq_right exists_and_left exists_and_right D.bl.injEq D.int.injEq D.ref.injEq D.tup.injEq JR I0 Mn Mo Mp Eu K8 decide_eq_true_eq MN and_true true_and II Ga"
 `(tactic| ((try dsimp only[$[$b1:term],*]);(try simp only[$[$b2:term],*])))
local macro_rules|`(tactic| nofun)=>`(tactic| ((first|rw[dI]|(dsimp only;rw[dI]));ac_nf))
theorem tO{t:Bool}{kvs:List (D×D)}{k v:D}{Q:Mem->Prop}(h:M a=Z (.dct t kvs))(ok:gy t k=NQ)(j:kvs.length<D2)(q:Q (af M a (.dct t (dS kvs k v)))):eW (.ref a) k v M Q:=⟨a,rfl,.inr ⟨t,kvs,h,ok,j,q⟩⟩
def Ge(M M':Mem):Prop:=∀a o,M a=Z o->M' a=Z o
theorem Ge.trans(h:Ge M M')(g:Ge M' M''):Ge M M'':=λ_ _ e=>g _ _ (h _ _ e)
theorem Ge.new{p:NS}{o:O}(h:M p=Y):Ge M (af M p o):=λa o' e=>by rw[ah (λz=>by rw[z,h]at e;cases e)];exact e
def Box(b:NS)(M:Mem):Prop:=∃x y z:Int,M b=Z (.lst [.int x,.int y,.int z])
structure Bx(b:NS)(M M':Mem):Prop where
 box:Box b M'
 keep:∀a o,a≠b->M a=Z o->M' a=Z o
theorem Bx.refl(h:Box b M):Bx b M M:=⟨h,λ_ _ _ e=>e⟩
theorem Bx.trans(h:Bx b M M')(g:Bx b M' M''):Bx b M M'':=⟨g.box,λa o n e=>g.keep a o n (h.keep a o n e)⟩
theorem Bx.ge(h:Bx b M M')(g:Ge M' M''):Bx b M M'':=⟨by obtain⟨x,y,z,e⟩:=h.box;exact⟨x,y,z,g _ _ e⟩,λa o n e=>g _ _ (h.keep a o n e)⟩
theorem Bx.put{x y z:Int}:Bx b M (af M b (.lst [.int x,.int y,.int z])):=⟨⟨x,y,z,ag⟩,λa o n e=>by rw[ah n];exact e⟩
theorem Bx.of(h:Box b M)(g:Ge M M'):Bx b M M':=(Bx.refl h).ge g
theorem qI{b:BT}{chk:Mem->Prop}{N:NC}(I:List D->ak->Mem->List D->Prop){acc:List D}(h0:I [] ρ M acc)(z:∀l ρ M acc,I l ρ M acc->chk M)(hs:∀l x r ρ M acc,xs=l++x::r->I l ρ M acc->∃ρ',b x ρ=Z ρ'/\∀N':NC,(∀ρ2 M2 j,I (l++[x]) ρ2 M2 j->N' ρ2 M2 j)->tb ρ' M acc N')(B:∀ρ M acc,I xs ρ M acc->N ρ M acc):bE b tb chk N xs ρ M acc:=by
 have g:∀(r l:List D) (ρ:ak) (M:Mem) (acc:List D),xs=l++r->I l ρ M acc->bE b tb chk N r ρ M acc:=by
  intro r
  induction r with
  |nil=>intro l ρ M acc e i;rw[F5]at e;subst e;exact⟨z _ _ _ _ i,B _ _ _ i⟩
  |cons x r ih=>intro l ρ M acc e i;obtain⟨ρ',F,h⟩:=hs l x r ρ M acc e i;exact⟨z _ _ _ _ i,ρ',F,h _ λρ2 M2 j J=>ih (l++[x]) ρ2 M2 j (by rw[e];simp) J⟩
 exact g xs [] ρ M acc rfl h0
section
variable{T:List FD}
noncomputable def gZ(s:Stmt):FD:=⟨"_law_cell_at",s,["_law_script","_law_k"],2,
 (.cons (.ite (.cmp .lt (.var 1) (.blt .len (.cons (.var 0) .nil))) (.cons (.ret (.ix (.var 0) (.var 1)))
 .nil) .nil)
 (.cons (.ret (.int 0))
 .nil))⟩
theorem gd{α:Type}{xs:List α}(h0:0<=i)(h1:i<xs.length):∃x,atI xs i=Z x/\xs[i.toNat]?=Z x:=by
 have:i.toNat<xs.length:=∅
 refine⟨xs[i.toNat],?_,z4 this⟩;unfold atI ixN;simp[h0,h1,z4 this]
theorem w8(hf:T[f]?=Z (gZ s))(z:1<=n){k:Int}(h0:0<=k)(q:∀i,Q (.int i) M):phi T n f [.con (ns.map D.int),.int k] M Q:=by
 refine bh z hf rfl (ρ:=[Z _,Z _]) rfl ?_;unfold gZ;nofun
 split
 ·next h=>
  nofun;obtain⟨x,e,j⟩:=gd (xs:=ns.map D.int) h0 h;rw[Em]at j
  cases e3:ns[k.toNat]? with
  |none=>rw[e3]at j;cases j
  |some y=>rw[e3]at j;cases j;exact⟨_,e,q y⟩
 ·nofun;exact q 0
theorem yc(h:-(2^64)<i/\i<2^64):MulOk i j:=.inl h
theorem lc(h:-(2^64)<j/\j<2^64):MulOk i j:=.inr (.inl h)
noncomputable def iy(s:Stmt):FD:=⟨"_law_mixed",s,["_law_number_here","_law_k","_law_once","_law_twice"],2,
 (.cons (.asg (.name 2) (.bin .mod (.bin .mul (.bin .add (.bin .add (.bin .mod (.var 0) (.int 1000000007)) (.bin .mul (.int 7) (.var 1))) (.int 1)) (.int 48271)) (.int 2147483647)))
 (.cons (.asg (.name 3) (.bin .mod (.bin .mul (.var 2) (.bin .add (.bin .add (.bin .mod (.var 2) (.int 1009)) (.var 1)) (.int 3))) (.int 998244353)))
 (.cons (.ret (.bin .fdiv (.bin .mod (.bin .add (.bin .mul (.var 3) (.int 39373)) (.var 2)) (.int 2147483629)) (.int 64)))
 .nil)))⟩
theorem tP(hf:T[f]?=Z (iy s))(j:1<=n){x k:Int}(q:∀i,Q (.int i) M):phi T n f [.int x,.int k] M Q:=by
 refine bh j hf rfl (ρ:=[Z _,Z _,Y,Y]) rfl ?_;unfold iy;nofun;refine⟨by decide,yc (by decide),lc (by decide),by decide,?_⟩
 nofun;refine⟨by decide,yc ?_,by decide,?_⟩
 ·have h1:=Ia ((x%1000000007+7*k+1)*48271) (b:=2147483647) (by decide)
  have h2:=Hg ((x%1000000007+7*k+1)*48271) (b:=2147483647) (by decide)
  lia
 nofun;refine⟨lc (by decide),by decide,by decide,by decide,?_⟩
 exact q _
noncomputable def oG(s:Stmt)(fc fm:Nat):FD:=⟨"_law_box",s,["_law_script","_law_k","_law_cell"],2,
 (.cons (.asg (.name 2) (.call fc (.cons (.var 0) (.cons (.var 1) .nil))))
 (.cons (.ret (.lst (.cons (.bin .mul (.blt .abs (.cons (.var 2) .nil)) (.blt .int (.cons (.cmp .ge (.blt .abs (.cons (.var 2) .nil)) (.bin .pow (.int 10) (.int 18))) .nil))) (.cons (.call fm (.cons (.var 2) (.cons (.bin .add (.int 900) (.var 1)) .nil))) (.cons (.int 0) .nil)))))
 .nil))⟩
theorem yd{fc fm:Nat}{sc:Stmt}(hf:T[f]?=Z (oG s fc fm))(z:T[fc]?=Z (gZ sc))(B:∀{x k:Int} {M:Mem} {Q:QD},(∀i,Q (.int i) M)->phi T (n-1) fm [.int x,.int k] M Q)(J:2<=n){k:Int}(h0:0<=k)(q:∀p x y,M p=Y->Q (.ref p) (af M p (.lst [.int x,.int y,.int 0]))):phi T n f [.con (ns.map D.int),.int k] M Q:=by
 refine bh ∅ hf rfl (ρ:=[Z _,Z _,Y]) rfl ?_
 unfold oG;nofun;refine w8 z ∅ h0 λi=>?_
 nofun;refine⟨by decide,by decide,by decide,lc ?_,?_⟩
 ·split<;>lia
 refine B λj=>?_;exact⟨by rw[Ek];lia,λp F=>q p _ _ F⟩
noncomputable def lf(s:Stmt)(fm:Nat):FD:=⟨"_law_take",s,["_law_box_here","_law_many","_law_found","_law_reach"],2,
 (.cons (.ite (.cmp .gt (.ix (.var 0) (.int 0)) (.int 0)) (.cons (.asg (.name 2) (.bin .mod (.ix (.var 0) (.int 0)) (.var 1)))
 (.cons (.put (.var 0) (.int 0) (.bin .fdiv (.ix (.var 0) (.int 0)) (.var 1)))
 (.cons (.ret (.var 2))
 .nil))) .nil)
 (.cons (.asg (.tup (.cons (.name 2) (.cons (.name 3) .nil))) (.tup (.cons (.int 0) (.cons (.int 1) .nil))))
 (.cons (.while (.cmp .lt (.var 3) (.var 1)) (.cons (.put (.var 0) (.int 2) (.bin .add (.ix (.var 0) (.int 2)) (.int 1)))
 (.cons (.asg (.name 2) (.bin .add (.bin .mul (.var 2) (.int 33554432)) (.call fm (.cons (.ix (.var 0) (.int 1)) (.cons (.ix (.var 0) (.int 2)) .nil)))))
 (.cons (.asg (.name 3) (.bin .mul (.var 3) (.int 33554432)))
 .nil))))
 (.cons (.ret (.bin .mod (.var 2) (.var 1)))
 .nil))))⟩
def uw(T:List FD)(n fm:Nat):Prop:=∀{x k:Int} {M:Mem} {Q:QD},(∀i,Q (.int i) M)->phi T n fm [.int x,.int k] M Q
theorem w9{fm:Nat}(hf:T[f]?=Z (lf s fm))(L:uw T (n-1) fm)(U:2<=n){m:Int}(O:Box b M)(h1:0<m)(h2:m<=2^140)(q:∀r M',0<=r->r<m->Bx b M M'->Q (.int r) M'):phi T n f [.ref b,.int m] M Q:=by
 refine bh ∅ hf rfl (ρ:=[Z _,Z _,Y,Y]) rfl ?_
 unfold lf;obtain⟨x,y,z,J⟩:=O;nofun;refine aq J (d:=.int x) rfl ?_;simp only[zk];ac_nf
 split
 ·next hx=>
  nofun;refine aq J (d:=.int x) rfl ?_;ac_nf;refine⟨h1,?_⟩;nofun;refine aq J (d:=.int x) rfl ?_;ac_nf;refine⟨h1,∅,?_⟩
  refine kY J (j:=0) rfl ?_;nofun;exact q _ _ (Ia _ ∅) (Hg _ h1) Bx.put
 ·next hx=>
  nofun;refine⟨by rw[Ek];lia,?_⟩
  nofun;refine⟨7,?_⟩;have go:∀(f:Nat) (found reach z:Int) (M':Mem),m<=reach*33554432^f->M' b=Z (.lst [.int x,.int y,.int z])->Bx b M M'->
   aS (i7 (wOp wLt (i6 3) (i6 1))) (wSs (phi T (n-1)) (MSs.cons (MS.put (ME.var 0) (ME.int 2) (ME.bin BOp.add ((ME.var 0).ix (ME.int 2)) (ME.int 1)))
    (MSs.cons (MS.asg (MG.name 2) (ME.bin BOp.add (ME.bin BOp.mul (ME.var 2) (ME.int 33554432)) (ME.call fm (MEs.cons ((ME.var 0).ix (ME.int 1)) (MEs.cons ((ME.var 0).ix (ME.int 2)) MEs.nil)))))
      (MSs.cons (MS.asg (MG.name 3) (ME.bin BOp.mul (ME.var 3) (ME.int 33554432))) MSs.nil))))
    {nx:=wSs (phi T (n-1)) (MSs.cons (MS.ret (ME.bin BOp.mod (ME.var 2) (ME.var 1))) MSs.nil) {nx:=λx M'=>Q D.non M',rt:=Q},rt:=Q} (f+1) [Z (.ref b),Z (.int m),Z (.int found),Z (.int reach)] M':=by
   intro f
   induction f with
   |zero=>
    intro found reach z M' hm F B;simp only[aS];ac_nf;rw[if_neg ∅]
    nofun;exact⟨h1,q _ _ (Ia _ ∅) (Hg _ h1) B⟩
   |succ f ih=>
    intro found reach z M' hm F B;rw[aS];ac_nf
    split
    ·next NP=>
     nofun;refine aq F (d:=.int z) rfl ?_;ac_nf;refine kY F (j:=2) rfl ?_;nofun;refine⟨lc (by decide),?_⟩
     refine aq ag (d:=.int y) rfl ?_;refine aq ag (d:=.int (z+1)) rfl ?_;refine L λi=>?_;ac_nf;nofun;refine⟨lc (by decide),?_⟩
     exact ih _ _ (z+1) _ (by rw[Int.mul_assoc,<-Int.pow_succ'];exact hm) ag (B.trans Bx.put)
    ·nofun;exact⟨h1,q _ _ (Ia _ ∅) (Hg _ h1) B⟩
  exact go 6 0 1 z M ∅ J (Bx.refl ⟨x,y,z,J⟩)
def qJ(T:List FD)(n f:Nat):Prop:=∀{b:NS} {m:Int} {M:Mem} {Q:QD},Box b M->0<m->m<=2^140->(∀r M',0<=r->r<m->Bx b M M'->Q (.int r) M')->phi T n f [.ref b,.int m] M Q
noncomputable def gf(s:Stmt)(ft:Nat):FD:=⟨"_law_number",s,["_law_box_here","_law_way"],1,
 (.cons (.asg (.name 1) (.call ft (.cons (.var 0) (.cons (.int 9) .nil))))
 (.cons (.ite (.cmp .eq (.var 1) (.int 0)) (.cons (.ret (.bin .sub (.call ft (.cons (.var 0) (.cons (.int 2001) .nil))) (.int 1000)))
 .nil) .nil)
 (.cons (.ret (.ix (.lst (.cons (.int 0) (.cons (.int 0) (.cons (.int 0) (.cons (.int 1) (.cons (.int 1) (.cons (.int 1) (.cons (.neg (.int 1)) (.cons (.neg (.int 1)) (.cons (.int 2) .nil)))))))))) (.var 1)))
 .nil)))⟩
theorem qK{ft:Nat}(hf:T[f]?=Z (gf s ft))(j:qJ T (n-1) ft)(NP:1<=n)(J:Box b M)(q:∀r M',-1000<=r->r<=1000->Bx b M M'->Q (.int r) M'):phi T n f [.ref b] M Q:=by
 refine bh ∅ hf rfl (ρ:=[Z _,Y]) rfl ?_
 unfold gf;nofun;refine j J (by decide) (by decide) λr fv h0 h1 B=>?_
 nofun
 split
 ·nofun;refine j B.box (by decide) (by decide) λr2 M2 h0 h1 L=>?_
  ac_nf;exact q _ _ ∅ ∅ (B.trans L)
 ·next F=>
  nofun;refine⟨by rw[Ek];lia,λp O=>?_⟩
  have F:r=1∨r=2∨r=3∨r=4∨r=5∨r=6∨r=7∨r=8:=by
   have:r≠0:=λz=>F (by rw[z];rfl)
   lia
  have U:=B.ge (Ge.new (o:=.lst [.int 0,.int 0,.int 0,.int 1,.int 1,.int 1,.int (-1),.int (-1),.int 2]) O)
  rcases F with rfl|rfl|rfl|rfl|rfl|rfl|rfl|rfl<;>exact aq ag rfl (q _ _ (by decide) (by decide) U)
end
section
variable{T:List FD}
def tQ(T:List FD)(n f:Nat):Prop:=∀{b:NS} {M:Mem} {Q:QD},Box b M->(∀r M',-1000<=r->r<=1000->Bx b M M'->Q (.int r) M')->phi T n f [.ref b] M Q
theorem hJ{lo:Int}:(bV lo n).length=n:=by simp[bV]
theorem bM{α:Type}{xs l r:List α}{x:α}(e:xs=l++x::r):l.length<xs.length:=by rw[e];simp
theorem cQ{k:Nat}(h:M a=Z (.lst ds)):rb (k+1) M (.ref a)=(aI (rb k M) ds).map Mw:=by simp only[rb,h]
theorem gg{s:MS}{r:MSs}{E:bD}(I:ak->Mem->Prop)(h1:∀R:ak->Mem->Prop,(∀ρ M,I ρ M->R ρ M)->wS Φ s {E with nx:=R} ρ M)(h2:∀ρ M,I ρ M->wSs Φ r E ρ M):wSs Φ (.cons s r) E ρ M:=by rw[dI];exact h1 _ h2
end
section
theorem eF{α:Type}{f:α->D}{b:BT}{chk:Mem->Prop}{N:NC}(I:List α->ak->Mem->List D->Prop){ys:List α}(hx:xs=ys.map f){acc:List D}(h0:I [] ρ M acc)(z:∀l ρ M acc,I l ρ M acc->chk M)(hs:∀l x r ρ M acc,ys=l++x::r->I l ρ M acc->∃ρ',b (f x) ρ=Z ρ'/\∀N':NC,(∀ρ2 M2 j,I (l++[x]) ρ2 M2 j->N' ρ2 M2 j)->tb ρ' M acc N')(B:∀ρ M acc,I ys ρ M acc->N ρ M acc):bE b tb chk N xs ρ M acc:=by
 subst hx;have g:∀(r l:List α) (ρ:ak) (M:Mem) (acc:List D),ys=l++r->I l ρ M acc->bE b tb chk N (r.map f) ρ M acc:=by
  intro r
  induction r with
  |nil=>intro l ρ M acc e i;rw[F5]at e;subst e;exact⟨z _ _ _ _ i,B _ _ _ i⟩
  |cons x r ih=>intro l ρ M acc e i;obtain⟨ρ',F,h⟩:=hs l x r ρ M acc e i;exact⟨z _ _ _ _ i,ρ',F,h _ λρ2 M2 j J=>ih (l++[x]) ρ2 M2 j (by rw[e];simp) J⟩
 exact g ys [] ρ M acc rfl h0
theorem dJ{α:Type}{f:α->D}{b:BT}{tb:TSd}{chk:Mem->Prop}{E:bD}(I:List α->ak->Mem->Prop){ys:List α}(hx:xs=ys.map f)(h0:I [] ρ M)(j:∀l ρ M,I l ρ M->chk M)(hs:∀l x r ρ M,ys=l++x::r->I l ρ M->∃ρ',b (f x) ρ=Z ρ'/\∀F:ak->Mem->Prop,(∀ρ2 M2,I (l++[x]) ρ2 M2->F ρ2 M2)->tb {E with nx:=F,ct:=F,bk:=E.nx} ρ' M)(z:∀ρ M,I ys ρ M->E.nx ρ M):bp b tb chk E xs ρ M:=by
 subst hx;have g:∀(r l:List α) (ρ:ak) (M:Mem),ys=l++r->I l ρ M->bp b tb chk E (r.map f) ρ M:=by
  intro r
  induction r with
  |nil=>intro l ρ M e i;rw[F5]at e;subst e;exact⟨j _ _ _ i,z _ _ i⟩
  |cons x r ih=>intro l ρ M e i;obtain⟨ρ',B,h⟩:=hs l x r ρ M e i;exact⟨j _ _ _ i,ρ',B,h _ λρ2 M2 J=>ih (l++[x]) ρ2 M2 (by rw[e];simp) J⟩
 exact g ys [] ρ M rfl h0
theorem n0{x:D}(h:bj M x=Z ds)(g:Ge M M'):bj M' x=Z ds:=by
 cases x with
 |ref a=>
  simp only[bj]at h⊢
  split at h
  ·next e=>rw[g _ _ e];exact h
  ·cases h
 |_=>exact h
theorem hW:bV 0 n=(FW n).map λi=>D.int (i:Nat):=by simp[bV]
end
section
open L2.Srt
variable{T:List FD}
noncomputable abbrev K3:=Int×Int×Int
noncomputable abbrev Tm:=K3×Int
noncomputable def k3D(k:K3):D:=.tup [.int k.1,.int k.2.1,.int k.2.2]
noncomputable def tmD(t:Tm):D:=.tup [.int t.1.1,.int t.1.2.1,.int t.1.2.2,.int t.2]
noncomputable def kcD(t:Tm):D×D:=(k3D t.1,.int t.2)
noncomputable def k3K(k:K3):Ky:=.tup [.int k.1,.int k.2.1,.int k.2.2]
def klt(a b:K3):Prop:=ltK (k3K a) (k3K b)=NQ
theorem iz{a b:K3}(h:k3D a=k3D b):a=b:=by obtain⟨a1,a2,j⟩:=a;obtain⟨b1,z,B⟩:=b;simp[k3D]at h;simp[h]
theorem n6{a b:K3}(h:k3K a=k3K b):a=b:=by obtain⟨a1,a2,j⟩:=a;obtain⟨b1,z,B⟩:=b;simp[k3K]at h;simp[h]
noncomputable def cf(ts:List Tm)(k:K3):Int:=((ts.filter λt=>decide (t.1=k)).map (·.2)).sum
theorem lg{k:K3}:cf [] k=0:=rfl
theorem aU{t:Tm}{ts:List Tm}{k:K3}:cf (t::ts) k=(if t.1=k then t.2 else 0)+cf ts k:=by
 unfold cf
 by_cases h:t.1=k
 ·rw[JU (by simpa using h),if_pos h];simp
 ·rw[JV (by simpa using h),if_neg h];simp
theorem jd{a b:List Tm}{k:K3}:cf (a++b) k=cf a k+cf b k:=by
 induction a with
 |nil=>simp[lg]
 |cons t a ih=>rw[Me,aU,aU,ih];lia
theorem n8{a b:List Tm}(h:a.Perm b){k:K3}:cf a k=cf b k:=by
 induction h with
 |nil=>rfl
 |cons x h ih=>rw[aU,aU,ih]
 |swap x y l=>simp only[aU];lia
 |trans _ _ j z=>rw[j,z]
theorem fu{ts:List Tm}{k:K3}(h:∀t∈ts,t.1≠k):cf ts k=0:=by
 induction ts with
 |nil=>rfl
 |cons t ts ih=>rw[aU,if_neg (h t (by simp)),ih λu hu=>h u (by simp[hu])];rfl
theorem qL{ts:List Tm}(j:(ts.map (·.1)).Nodup){t:Tm}(B:t∈ts):cf ts t.1=t.2:=by
 induction ts with
 |nil=>simp at B
 |cons u ts ih=>
  simp only[Eu,FN]at j;rw[aU]
  rcases DX.mp B with z|z
  ·subst z;rw[if_pos rfl,fu λv F e=>j.1 (by rw[<-e];exact E6 F)]
   lia
  ·rw[if_neg λe=>j.1 (by rw[e];exact E6 z),ih j.2 z];lia
noncomputable def cv(L:List Tm)(k:K3)(c:Int):List Tm:=if(L.any λp=>decide (p.1=k))=NQ then L.map λp=>if p.1=k then(p.1,p.2+c)else p else L++[(k,c)]
theorem wa{L:List Tm}{k:K3}:dget (L.map kcD) (k3D k)=(L.find? λp=>decide (p.1=k)).map λp=>.int p.2:=by
 unfold dget
 induction L with
 |nil=>rfl
 |cons t L ih=>
  by_cases h:t.1=k
  ·rw[Eu,IA (by simp[kcD,h]),IA (by simpa using h)];rfl
  ·rw[Eu,Hf (by simp only[decide_eq_true_eq];exactλe=>h (iz e)),Hf (by simpa using h),ih]
theorem ye{L:List Tm}{k:K3}:((L.map kcD).any λp=>decide (p.1=k3D k))=L.any λp=>decide (p.1=k):=by
 induction L with
 |nil=>rfl
 |cons t L ih=>
  rw[Eu,Hn,Hn,ih];congr 1
  by_cases h:t.1=k
  ·simp[kcD,h]
  ·rw[decide_eq_false h];exact decide_eq_false (λe=>h (iz e))
theorem wb{L:List Tm}(j:(L.map (·.1)).Nodup){k:K3}:dS (L.map kcD) (k3D k) (.int ((((L.find? λp=>decide (p.1=k)).map (·.2)).getD 0)+c))=(cv L k c).map kcD:=by
 unfold dS cv;rw[ye]
 split
 ·next h=>
  rw[Gq,Gq];apply Ja;intro t B;simp only[Function.comp]
  by_cases e:t.1=k
  ·rw[if_pos (by rw[<-e];rfl),if_pos e]
   have:L.find? (λp=>decide (p.1=k))=Z t:=by
    clear h
    induction L with
    |nil=>simp at B
    |cons u L ih=>
     simp only[Eu,FN]at j
     rcases DX.mp B with z|z
     ·subst z;rw[IA (by simpa using e)]
     ·rw[Hf (by simp;intro F;exact j.1 (by rw[F,<-e];exact E6 z))]
      exact ih j.2 z
   rw[this];rfl
  ·rw[if_neg (c:=(kcD t).1=k3D k) (λz=>e (iz z)),if_neg e]
 ·next h=>
  have:L.find? (λp=>decide (p.1=k))=Y:=by rw[List.find?_eq_none];intro x hx;simp only[decide_eq_true_eq];intro e;exact h (IS.mpr ⟨x,hx,by simpa using e⟩)
  rw[this];simp[kcD]
theorem jf{L:List Tm}{k:K3}:(cv L k c).map (·.1)=if(L.any λp=>decide (p.1=k))=NQ then L.map (·.1)else L.map (·.1)++[k]:=by
 unfold cv
 split
 ·rw[Gq];apply Ja;intro t _;simp only[Function.comp]
  split<;>rfl
 ·simp
theorem oH{L:List Tm}(j:(L.map (·.1)).Nodup){k:K3}:((cv L k c).map (·.1)).Nodup:=by
 rw[jf]
 split
 ·exact j
 ·next h=>
  refine Iw.mpr ⟨j,by simp,λa B b z e=>?_⟩
  simp at z;subst z;subst e;obtain⟨t,F,e⟩:=Ej.mp B;exact h (IS.mpr ⟨t,F,by simpa using e⟩)
theorem tR{L:List Tm}{k a:K3}(h:a∈(cv L k c).map (·.1)):a∈L.map (·.1)∨a=k:=by
 rw[jf]at h
 split at h
 ·exact .inl h
 ·rcases Ef.mp h with z|z
  ·exact .inl z
  ·exact .inr (by simpa using z)
theorem tS{L:List Tm}{k:K3}:(cv L k c).length<=L.length+1:=by unfold cv;split<;>simp
theorem wc{L:List Tm}(j:(L.map (·.1)).Nodup){k a:K3}:cf (cv L k c) a=cf L a+if k=a then c else 0:=by
 unfold cv
 split
 ·next h=>
  obtain⟨t,B,e⟩:=IS.mp h;have e:t.1=k:=by simpa using e
  clear h
  induction L with
  |nil=>simp at B
  |cons u L ih=>
   simp only[Eu,FN]at j;rw[Eu,aU,aU]
   by_cases eu:u.1=k
   ·have rest:(L.map fun p=>if p.1=k then(p.1,p.2+c)else p)=L:=by
     conv=>rhs;rw[<-My L]
     apply Ja;intro p F;rw[if_neg λz=>j.1 (by rw[eu,<-z];exact E6 F)];rfl
    rw[rest,if_pos eu];dsimp only
    by_cases ea:u.1=a
    ·rw[if_pos ea,if_pos ea,if_pos (by rw[<-eu];exact ea)];lia
    ·rw[if_neg ea,if_neg ea,if_neg (by rw[<-eu];exact ea)];lia
   ·rcases DX.mp B with z|z
    ·exact absurd (by rw[<-z];exact e) eu
    ·rw[ih j.2 z,if_neg eu];lia
 ·rw[jd,aU,lg];simp
noncomputable def be(ts:List Tm):List Tm:=ts.foldl (λL t=>cv L t.1 t.2) []
theorem cn{ts:List Tm}{t:Tm}:be (ts++[t])=cv (be ts) t.1 t.2:=by simp[be]
theorem dL{α:Type}{P:List α->Prop}(h0:P [])(h1:∀l x,P l->P (l++[x]))(l:List α):P l:=by
 have:∀r:List α,P r.reverse:=by
  intro r
  induction r with
  |nil=>exact h0
  |cons x r ih=>rw[Ht];exact h1 _ _ ih
 have:=this l.reverse;rw[KG]at this;exact this
theorem dM(ts:List Tm):((be ts).map (·.1)).Nodup:=dL (P:=λts=>((be ts).map (·.1)).Nodup) (by simp[be]) (λl x ih=>by rw[cn];exact oH ih) ts
theorem wd(ts:List Tm)(k:K3):cf (be ts) k=cf ts k:=dL (P:=λts=>cf (be ts) k=cf ts k) rfl (λl x ih=>by rw[cn,wc (dM l),ih,jd,aU,lg];lia) ts
theorem lh(ts:List Tm):(be ts).length<=ts.length:=dL (P:=λts=>(be ts).length<=ts.length) (by simp[be]) (λl x ih=>by rw[cn];have:=tS (L:=be l) (k:=x.1) (c:=x.2);simp;lia) ts
theorem tT(ts:List Tm):∀a∈(be ts).map (·.1),a∈ts.map (·.1):=dL (P:=λts=>∀a∈(be ts).map (·.1),a∈ts.map (·.1)) (by simp[be]) (λl x ih a j=>by
 rw[cn]at j;rw[GD]
 rcases tR j with z|z
 ·exact EV _ (ih a z)
 ·exact Ed _ (by simp[z])) ts
structure IsTask(ts rs:List Tm):Prop where
 srt:rs.Pairwise λa b=>klt a.1 b.1
 nz:∀r∈rs,r.2≠0
 cf:∀k,cf rs k=cf ts k
 mem:∀r∈rs,r.1∈ts.map (·.1)
 len:rs.length<=ts.length
theorem we{a:K3}(h:klt a a):False:=by have:=fO _ _ h;unfold klt at h;rw[h]at this;cases this
theorem IsTask.nodup{ts rs:List Tm}(h:IsTask ts rs):(rs.map (·.1)).Nodup:=by rw[Fg,EF];refine h.srt.imp ?_;intro a b j e;rw[e]at j;exact we j
theorem IsTask.val{ts rs:List Tm}(h:IsTask ts rs){r:Tm}(j:r∈rs):r.2=Mi.cf ts r.1:=by rw[<-h.cf,qL h.nodup j]
theorem ux{ts:List Tm}{k:K3}:Mi.cf (ts.filter λt=>!(t.2==0)) k=Mi.cf ts k:=by
 induction ts with
 |nil=>rfl
 |cons t ts ih=>
  rw[aU]
  by_cases h:t.2=0
  ·rw[JV (by simp[h]),ih,h];split<;>lia
  ·rw[JU (by simp[h]),aU,ih]
theorem Ge.upd{j:Mem}{d:NS}{o:O}(g:Ge M j)(hd:M d=Y):Ge M (af j d o):=λa o' e=>by rw[ah (λz=>by rw[z,hd]at e;cases e)];exact g _ _ e
noncomputable def li(s:Stmt):FD:=⟨"task_of",s,["left","right","many","terms","sums","k","i","j","c"],4,
 (.cons (.asg (.name 4) (.dnew NQ))
 (.cons (.for (.tup (.cons (.name 5) (.cons (.name 6) (.cons (.name 7) (.cons (.name 8) .nil))))) (.seq (.var 3)) (.cons (.put (.var 4) (.tup (.cons (.var 5) (.cons (.var 6) (.cons (.var 7) .nil)))) (.bin .add (.dget (.var 4) (.tup (.cons (.var 5) (.cons (.var 6) (.cons (.var 7) .nil)))) (.int 0)) (.var 8)))
 .nil))
 (.cons (.ret (.tup (.cons (.var 0) (.cons (.var 1) (.cons (.var 2) (.cons (.comp [Y,Y,Y,Y] ["k","i","j","c"] (.last (.seq (.sortI (.var 4))) (.tup (.cons (.tup (.cons (.name 0) (.cons (.name 1) (.cons (.name 2) .nil)))) (.cons (.name 3) .nil))) (.cons (.cmp .ne (.var 3) (.int 0)) .nil) (.tup (.cons (.var 0) (.cons (.var 1) (.cons (.var 2) (.cons (.var 3) .nil))))))) .nil))))))
 .nil)))⟩
theorem iA(hf:T[f]?=Z (li s))(hn:1<=n){L R N x:D}{ts:List Tm}(hx:bj M x=Z (ts.map tmD))(hl:ts.length<=100000)(q:∀(rs:List Tm) p M',IsTask ts rs->Ge M M'->M p=Y->M' p=Z (.lst (rs.map tmD))->Q (.tup [L,R,N,.ref p]) M'):phi T n f [L,R,N,x] M Q:=by
 refine bh ∅ hf rfl (ρ:=[Z _,Z _,Z _,Z _,Y,Y,Y,Y,Y]) rfl ?_
 unfold li;nofun;intro d hd;nofun;have g0:=Ge.new (o:=.dct NQ []) hd;refine⟨_,n0 hx g0,?_⟩;refine dJ (I:=λl ρ M'=>∃o5 o6 o7 o8,ρ=[Z L,Z R,Z N,Z x,Z (.ref d),o5,o6,o7,o8]/\Ge M M'/\M' d=Z (.dct NQ ((be l).map kcD))) rfl ⟨_,_,_,_,rfl,g0,ag⟩ (λl ρ M' g9=>(by obtain⟨_,_,_,_,_,g,_⟩:=g9;exact n0 hx g)) ?_ ?_
 ·rintro l t r ρ M1 e ⟨o5,o6,o7,o8,rfl,g1,B⟩;refine⟨_,rfl,λF hF=>?_⟩;have BG:=bM e;have BJ:=lh l;rw[dI];ac_nf;refine⟨⟨_,_,B⟩,by rw[Ek];lia,_,_,B,rfl,?_⟩
  have ek:D.tup [D.int t.1.1,D.int t.1.2.1,D.int t.1.2.2]=k3D t.1:=rfl;rw[ek,wa];have eg:((Lj (λp:Tm=>D.int p.2) ((be l).find? λp=>decide (p.1=t.1))).getD (.int 0))=.int (((((be l).find? λp=>decide (p.1=t.1)).map (·.2)).getD 0)):=by cases(be l).find? λp=>decide (p.1=t.1)<;>rfl
  rw[eg];ac_nf;refine⟨by rw[Ek];lia,tO B rfl (by rw[DY,Ek];lia) ?_⟩
  rw[wb (dM l)];refine hF _ _ ⟨_,_,_,_,rfl,g1.upd hd,?_⟩;rw[ag,cn]
 ·rintro ρ M1 ⟨o5,o6,o7,o8,rfl,g1,B⟩;dsimp only;nofun;refine⟨_,_,B,.tup [.tup [.int,.int,.int],.int],rfl,λkv BH=>?_,λp ys hp z j=>?_⟩
  ·obtain⟨t,_,rfl⟩:=Ej.mp BH;rfl
  rw[Gq]at z;obtain⟨L',NP,p2⟩:=cW (λt:Tm=>kvD (kcD t)) z rfl;have J:(L'.map (·.1)).Nodup:=(NP.map (·.1)).nodup_iff.mpr (dM ts);have BI:L'.Pairwise λa b=>klt a.1 b.1:=by
   rw[<-p2]at j;unfold db at j;rw[EF]at j;rw[Fg,EF]at J;refine(j.and J).imp ?_;rintro a b ⟨h1,h2⟩;unfold klt
   cases e1:ltK (k3K a.1) (k3K b.1)with
   |true=>rfl
   |false=>
    exfalso
    cases O:ltK (k3K b.1) (k3K a.1)with
    |false=>exact h2 (n6 (dZ _ _ e1 O))
    |true=>
     have:ltK (kyD (kvD (kcD b))) (kyD (kvD (kcD a)))=NQ:=by
      show ltK (.tup [k3K b.1,.int b.2]) (.tup [k3K a.1,.int a.2])=NQ;unfold ltK at O⊢;have O:al (k3K b.1) (k3K a.1)=.lt:=by simpa using O
      simp only[al,cmpKs];rw[O];rfl
     rw[this]at h1;cases h1
  have g2:=g1.trans (Ge.new (o:=.lst ys) hp);subst p2;refine⟨_,aE ag,?_⟩;have BK:L'.length<=ts.length:=by rw[NP.length_eq];exact lh ts
  refine eF (f:=λt:Tm=>kvD (kcD t)) (I:=λl ρ M' acc=>(∃o0 o1 o2 o3,ρ=[o0,o1,o2,o3])/\M'=af M1 p (.lst (L'.map λt=>kvD (kcD t)))/\acc=(l.filter λt=>!(t.2==0)).map tmD) rfl ⟨⟨_,_,_,_,rfl⟩,rfl,rfl⟩ (λ_ _ _ _ hI=>by rw[hI.2.1];exact aE ag) ?_ ?_
  ·rintro l t r ρ M2 acc e ⟨⟨o0,o1,o2,o3,rfl⟩,rfl,rfl⟩;refine⟨_,rfl,λN' hN=>?_⟩;have BG:=bM e;have BL:(l.filter λt=>!(t.2==0)).length<=l.length:=FT _ _;ac_nf;simp only[show(kcD t).2=D.int t.2 from rfl];ac_nf
   by_cases fv:t.2=0
   ·rw[if_neg (by simp[fv])]
    exact hN _ _ _ ⟨⟨_,_,_,_,rfl⟩,rfl,by simp[Hh,fv]⟩
   ·rw[if_pos (by simp[fv])]
    refine⟨by rw[Ek];lia,by rw[DY,Ek];lia,hN _ _ _ ⟨⟨_,_,_,_,rfl⟩,rfl,?_⟩⟩
    simp[Hh,fv,tmD]
  ·rintro ρ M2 acc ⟨_,rfl,rfl⟩ p2 hp2;refine⟨by rw[Ek];lia,?_⟩
   have U:M p2=Y:=by
    cases hq:M p2 with
    |none=>rfl
    |some o=>rw[g2 _ _ hq]at hp2;cases hp2
   refine q (L'.filter λt=>!(t.2==0)) p2 _ ⟨BI.sublist HN,λr hr=>by simpa using(G9.mp hr).2,λk=>?_,λr hr=>?_,?_⟩ (g2.trans (Ge.new hp2)) U ag
   ·rw[ux,n8 NP,wd]
   ·have:=(G9.mp hr).1;exact tT ts _ (E6 (NP.mem_iff.mp this))
   ·have:=FT (λt:Tm=>!(t.2==0)) L';lia
end
section
open L2.Srt
variable{T:List FD}
theorem qM{x d:D}(h:bj M x=Z ds)(e:atI ds i=Z d)(q:Q d M):wIx x (.int i) M Q:=by
 cases x with
 |ref a=>
  simp only[bj]at h
  split at h
  ·next j=>cases h;exact aq j e q
  ·cases h
 |tup es=>cases h;exact⟨i,d,rfl,e,q⟩
 |con es=>cases h;exact⟨i,d,rfl,e,q⟩
 |_=>cases h
end
section
open L2.Srt
theorem n9{α:Type}{lt:α->α->Prop}(as:∀a b,lt a b->lt b a->False):∀{l m:List α},l.Pairwise lt->m.Pairwise lt->(∀x,x∈l↔x∈m)->l=m
 |[],[],_,_,_=>rfl
 |[],y::m,_,_,h=>by have:=(h y).mpr (by simp);simp at this
 |x::l,[],_,_,h=>by have:=(h x).mp (by simp);simp at this
 |x::l,y::m,B,hm,h=>by
  rw[Hb]at B hm;have e:x=y:=by
   rcases DX.mp ((h x).mp (by simp))with z|z
   ·exact z
   ·rcases DX.mp ((h y).mpr (by simp))with w|w
    ·exact w.symm
    ·exact(as _ _ (hm.1 _ z) (B.1 _ w)).elim
  subst e;rw[n9 as B.2 hm.2 λz=>?_];constructor
  ·intro j
   rcases DX.mp ((h z).mp (by simp[j]))with w|w
   ·subst w;exact(as _ _ (B.1 _ j) (B.1 _ j)).elim
   ·exact w
  ·intro j
   rcases DX.mp ((h z).mpr (by simp[j]))with w|w
   ·subst w;exact(as _ _ (hm.1 _ j) (hm.1 _ j)).elim
   ·exact w
theorem IsTask.iff{ts rs:List Tm}(h:IsTask ts rs){r:Tm}:r∈rs↔r.2≠0/\r.2=Mi.cf ts r.1:=by
 constructor
 ·exactλj=>⟨h.nz r j,h.val j⟩
 ·rintro⟨h1,h2⟩;apply FQ;intro B;apply h1;rw[h2,<-h.cf];refine fu λt z e=>B ?_;have:=h.val z;rw[e,<-h2]at this;have F:t=r:=Prod.ext e this;rw[<-F];exact z
theorem IsTask.uniq{ts ts' rs rs':List Tm}(h:IsTask ts rs)(h':IsTask ts' rs')(e:∀k,Mi.cf ts k=Mi.cf ts' k):rs=rs':=by
 refine n9 (λa b h1 h2=>?_) h.srt h'.srt λr=>by rw[h.iff,h'.iff,e]
 have j:=fO _ _ h1;unfold klt at h2;rw[h2]at j;cases j
end
section
open L2.Srt
noncomputable def bf(t:Tm):F3:=.tuple [.int t.1.1,.int t.1.2.1,.int t.1.2.2,.int t.2]
theorem zt{k:Nat}(t:Tm):rb (k+2) M (tmD t)=Z (bf t):=by simp[tmD,rb,aI,bf]
theorem cR{k:Nat}{M:Mem}:∀ts:List Tm,aI (rb (k+2) M) (ts.map tmD)=Z (ts.map bf)
 |[]=>rfl
 |t::r=>by simp[aI,zt,cR r]
theorem fw:∀ts:List Tm,GL (ts.map bf) (ts.map bf)=NQ
 |[]=>rfl
 |t::r=>by simp[GL,F4,fw r,bf]
theorem nc{p:NS}{ts:List Tm}{a b:Int}(h:M p=Z (.lst (ts.map tmD))):rb 16 M (.tup [.int a,.int b,.int c,.ref p])=Z (.tuple [.int a,.int b,.int c,.list (ts.map bf)]):=by
 have e:rb 15 M (.ref p)=Z (.list (ts.map bf)):=by rw[cQ h,cR];rfl
 have ei:∀x:Int,rb 15 M (.int x)=Z (.int x):=λ_=>rfl;show(aI (rb 15 M) [.int a,.int b,.int c,.ref p]).map PyData.tuple=_;simp[aI,e,ei]
theorem tU{ts:List Tm}{a b:Int}:F4 (.tuple [.int a,.int b,.int c,.list (ts.map bf)]) (.tuple [.int a,.int b,.int c,.list (ts.map bf)])=NQ:=by simp[F4,GL,fw]
end
section
variable{T:List FD}
theorem fx{a b c d:D}(q:Q (.tup [a,b,c]) M):bg (.tup [a,b,c,d]) Y (Z 3) M Q:=q
end
section
namespace K01
noncomputable def aC(i:Nat):Stmt:=PySem.Challenge.pw_fewtimes_k01_tasks_put_together.main.body.getD i (.Pass ⟨0,0,0,0⟩)
noncomputable def d0:FD:=li (aC 1)
noncomputable def d1:FD:=gZ (aC 3)
noncomputable def d2:FD:=iy (aC 4)
noncomputable def d3:FD:=oG (aC 5) 1 2
noncomputable def d4:FD:=lf (aC 6) 2
noncomputable def d5:FD:=gf (aC 7) 4
noncomputable def b6:MSs:=
 (.cons (.asg (.name 2) (.lst .nil))
 (.cons (.for (.name 3) (.rng1 (.call 4 (.cons (.var 0) (.cons (.int 20) .nil)))) (.cons (.asg (.name 4) (.tup (.cons (.call 4 (.cons (.var 0) (.cons (.ix (.var 1) (.int 2)) .nil))) (.cons (.call 4 (.cons (.var 0) (.cons (.ix (.var 1) (.int 0)) .nil))) (.cons (.call 4 (.cons (.var 0) (.cons (.ix (.var 1) (.int 1)) .nil))) (.cons (.call 5 (.cons (.var 0) .nil)) .nil))))))
 (.cons (.asg (.name 5) (.call 4 (.cons (.var 0) (.cons (.int 5) .nil))))
 (.cons (.ite (.and (.cons (.cmp .eq (.var 5) (.int 0)) (.cons (.cmp .ne (.var 2) (.lst .nil)) .nil))) (.cons (.asg (.name 4) (.bin .add (.sl (.ix (.var 2) (.call 4 (.cons (.var 0) (.cons (.blt .len (.cons (.var 2) .nil)) .nil)))) .none (.some (.int 3))) (.tup (.cons (.ix (.var 4) (.int 3)) .nil))))
 .nil) .nil)
 (.cons (.ite (.and (.cons (.cmp .eq (.var 5) (.int 1)) (.cons (.cmp .ne (.var 2) (.lst .nil)) .nil))) (.cons (.asg (.name 6) (.ix (.var 2) (.call 4 (.cons (.var 0) (.cons (.blt .len (.cons (.var 2) .nil)) .nil)))))
 (.cons (.asg (.name 4) (.bin .add (.sl (.var 6) .none (.some (.int 3))) (.tup (.cons (.bin .sub (.int 0) (.ix (.var 6) (.int 3))) .nil))))
 .nil)) .nil)
 (.cons (.drop (.meth .append (.var 2) (.var 4)))
 .nil))))))
 (.cons (.ret (.var 2))
 .nil)))
noncomputable def d6:FD:=⟨"_law_terms_by",aC 8,["_law_box_here","_law_lengths","_law_terms","_law_turn","_law_term","_law_way","_law_other"],2,b6⟩
noncomputable def b7:MSs:=
 (.cons (.asg (.name 1) (.lst .nil))
 (.cons (.for (.name 2) (.seq (.sortT (.comp [Y] ["_law_term"] (.last (.seq (.var 0)) (.name 0) .nil (.sl (.var 0) .none (.some (.int 3))))))) (.cons (.asg (.name 3) (.blt .sum (.cons (.comp [Y,(Z 2)] ["_law_term","_law_place"] (.last (.seq (.var 0)) (.name 0) (.cons (.cmp .eq (.sl (.var 0) .none (.some (.int 3))) (.var 1)) .nil) (.ix (.var 0) (.int 3)))) .nil)))
 (.cons (.ite (.cmp .ne (.var 3) (.int 0)) (.cons (.drop (.meth .append (.var 1) (.bin .add (.var 2) (.tup (.cons (.var 3) .nil)))))
 .nil) .nil)
 .nil)))
 (.cons (.ret (.var 1))
 .nil)))
noncomputable def d7:FD:=⟨"_law_due",aC 9,["_law_terms","_law_found","_law_place","_law_total"],1,b7⟩
noncomputable def b8:MSs:=
 (.cons (.asg (.name 1) (.int 8))
 (.cons (.ite (.cmp .eq (.call 4 (.cons (.var 0) (.cons (.int 8) .nil))) (.int 0)) (.cons (.asg (.name 1) (.int 12))
 .nil) .nil)
 (.cons (.asg (.name 2) (.comp [Y,(Z 0),(Z 1)] ["_law_side","_law_box_here","_law_most"] (.last (.rng1 (.int 3)) (.name 0) .nil (.bin .add (.int 1) (.call 4 (.cons (.var 1) (.cons (.var 2) .nil)))))))
 (.cons (.asg (.name 3) (.call 6 (.cons (.var 0) (.cons (.var 2) .nil))))
 (.cons (.asg (.name 4) (.tup (.cons (.ix (.var 2) (.int 0)) (.cons (.ix (.var 2) (.int 1)) (.cons (.ix (.var 2) (.int 2)) (.cons (.call 7 (.cons (.var 3) .nil)) .nil))))))
 (.cons (.asg (.name 5) (.blt .list (.cons (.var 3) .nil)))
 (.cons (.asg (.name 6) (.call 0 (.cons (.ix (.var 2) (.int 0)) (.cons (.ix (.var 2) (.int 1)) (.cons (.ix (.var 2) (.int 2)) (.cons (.var 5) .nil))))))
 (.cons (.ite (.or (.cons (.cmp .ne (.var 6) (.var 4)) (.cons (.not (.tru (.isin (.var 6) "tuple"))) (.cons (.not (.tru (.isin (.ix (.var 6) (.int 3)) "list"))) (.cons (.cmp .ne (.var 5) (.var 3)) .nil))))) (.cons (.ret (.bl NR))
 .nil) .nil)
 (.cons (.drop (.meth .append (.ix (.var 6) (.int 3)) (.tup (.cons (.int 0) (.cons (.int 0) (.cons (.int 0) (.cons (.int 7) .nil)))))))
 (.cons (.ite (.cmp .ne (.call 0 (.cons (.ix (.var 2) (.int 0)) (.cons (.ix (.var 2) (.int 1)) (.cons (.ix (.var 2) (.int 2)) (.cons (.lrev (.var 3)) .nil))))) (.var 4)) (.cons (.ret (.bl NR))
 .nil) .nil)
 (.cons (.asg (.name 7) (.blt .list (.cons (.ix (.var 4) (.int 3)) .nil)))
 (.cons (.asg (.name 8) (.call 0 (.cons (.ix (.var 2) (.int 0)) (.cons (.ix (.var 2) (.int 1)) (.cons (.ix (.var 2) (.int 2)) (.cons (.var 7) .nil))))))
 (.cons (.ite (.cmp .ne (.var 8) (.var 4)) (.cons (.ret (.bl NR))
 .nil) .nil)
 (.cons (.drop (.meth .append (.ix (.var 8) (.int 3)) (.tup (.cons (.int 0) (.cons (.int 0) (.cons (.int 0) (.cons (.int 7) .nil)))))))
 (.cons (.drop (.meth .append (.var 7) (.tup (.cons (.int 0) (.cons (.int 0) (.cons (.int 0) (.cons (.int 9) .nil)))))))
 (.cons (.ret (.and (.cons (.cmp .eq (.var 5) (.var 3)) (.cons (.cmp .eq (.sl (.var 7) .none (.some (.neg (.int 1)))) (.ix (.var 4) (.int 3))) (.cons (.cmp .eq (.sl (.ix (.var 8) (.int 3)) .none (.some (.neg (.int 1)))) (.ix (.var 4) (.int 3))) .nil)))))
 .nil))))))))))))))))
noncomputable def d8:FD:=⟨"_law_right",aC 10,["_law_box_here","_law_most","_law_lengths","_law_terms","_law_due_here","_law_handed","_law_found","_law_own","_law_again"],1,b8⟩
noncomputable def b9:MSs:=
 (.cons (.for (.name 1) (.rng1 (.bin .add (.int 1) (.blt .min2 (.cons (.int 10) (.cons (.blt .len (.cons (.var 0) .nil)) .nil))))) (.cons (.ite (.not (.tru (.call 8 (.cons (.call 3 (.cons (.var 0) (.cons (.var 1) .nil))) .nil)))) (.cons (.ret (.bl NR))
 .nil) .nil)
 .nil))
 (.cons (.ret (.bl NQ))
 .nil))
noncomputable def d9:FD:=⟨"law",aC 11,["_law_script","_law_k"],1,b9⟩
noncomputable def tab:List FD:=[d0,d1,d2,d3,d4,d5,d6,d7,d8,d9]
noncomputable def lj:List (Str×D):=[]
end K01
end
section
namespace K01
theorem yf:∀d∈tab,oF (tab.map (·.name)) lj d=NQ:=by decide +kernel
noncomputable abbrev PA(K:Frag)(x:Str)(f:NS):Prop:=Jb K Fd x=Z (Z (.ref f))
noncomputable abbrev PL(K:Frag)(f:NS)(x:Str)(s:Stmt)(oc:gV)(od:Option NS)(kV dc pm:gV)(an:Option NS)(cd ct:gV)(sl:Array (Option gV)):Prop:=K.lookup f=Z ⟨oc,od,.func (H9 x x (cE s) (bu s) (am s) .none kV dc pm an cd ct),sl⟩
noncomputable abbrev PC(K:Frag)(c:gV)(x:Str):Prop:=Jg K c x=NQ
noncomputable abbrev PK(K:Frag)(f:NS):Prop:=Gw K (.ref f)=NQ
theorem all_mk{l:Kh}{w:Ez}{K:Frag}{h:Heap}{mg:Str->Option gV}{fa:NS}(X:K.In h)(G:h.Ns Fd mg)(hfa:mg "law"=Z (.ref fa))(z:∀x∈bltNames,Jb K Fd x=Z Y)(a0:PA K "task_of" f0)(l0:PL K f0 "task_of" (aC 1) oc0 od0 kV0 dc0 pm0 an0 cd0 ct0 sl0)(c0:PC K cd0 "task_of")(k0:PK K f0)(a1:PA K "_law_cell_at" f1)(l1:PL K f1 "_law_cell_at" (aC 3) oc1 od1 kV1 dc1 pm1 an1 cd1 ct1 sl1)(c1:PC K cd1 "_law_cell_at")(k1:PK K f1)(a2:PA K "_law_mixed" f2)(l2:PL K f2 "_law_mixed" (aC 4) oc2 od2 kV2 dc2 pm2 an2 cd2 ct2 sl2)(c2:PC K cd2 "_law_mixed")(k2:PK K f2)(a3:PA K "_law_box" f3)(l3:PL K f3 "_law_box" (aC 5) oc3 od3 kV3 dc3 pm3 an3 cd3 ct3 sl3)(c3:PC K cd3 "_law_box")(k3:PK K f3)(a4:PA K "_law_take" f4)(l4:PL K f4 "_law_take" (aC 6) oc4 od4 kV4 dc4 pm4 an4 cd4 ct4 sl4)(c4:PC K cd4 "_law_take")(k4:PK K f4)(a5:PA K "_law_number" f5)(l5:PL K f5 "_law_number" (aC 7) oc5 od5 kV5 dc5 pm5 an5 cd5 ct5 sl5)(c5:PC K cd5 "_law_number")(k5:PK K f5)(a6:PA K "_law_terms_by" f6)(l6:PL K f6 "_law_terms_by" (aC 8) oc6 od6 kV6 dc6 pm6 an6 cd6 ct6 sl6)(c6:PC K cd6 "_law_terms_by")(k6:PK K f6)(a7:PA K "_law_due" f7)(l7:PL K f7 "_law_due" (aC 9) oc7 od7 kV7 dc7 pm7 an7 cd7 ct7 sl7)(c7:PC K cd7 "_law_due")(k7:PK K f7)(a8:PA K "_law_right" f8)(l8:PL K f8 "_law_right" (aC 10) oc8 od8 kV8 dc8 pm8 an8 cd8 ct8 sl8)(c8:PC K cd8 "_law_right")(k8:PK K f8)(a9:PA K "law" f9)(l9:PL K f9 "law" (aC 11) oc9 od9 kV9 dc9 pm9 an9 cd9 ct9 sl9)(c9:PC K cd9 "law")(k9:PK K f9)
 : ∃fd:Hi,(∀(s:q7) (v:gV),KP s fd ⟨[v],[]⟩ [("_law_script",v)])/\∀base:Heap,K.In base->base.Ns Fd mg->cq l.prog w K mg base CX0 40 fa fd ["_law_script"] (lSp K (phi tab 40 9)):=by
 have e:=hfa.symm.trans (FG X G a9)
 cases e
 have O:uv K mg tab lj:=by
  refine⟨λx hx=>PySem.W.mg_none_of X G (z x hx),?_,yf,?_⟩
  ·intro i d hd
   match i,hd with
   |0,hd=>cases hd;exact⟨_,_,az l0 c0 k0,FG X G a0,a0,(az l0 c0 k0).binds λ_ _ _ _ _ _ us hl=>by obtain⟨u0,u1,u2,u3,rfl⟩:=zj us hl;rfl⟩
   |1,hd=>cases hd;exact⟨_,_,az l1 c1 k1,FG X G a1,a1,(az l1 c1 k1).binds λ_ _ _ _ _ _ us hl=>by obtain⟨u0,u1,rfl⟩:=fq us hl;rfl⟩
   |2,hd=>cases hd;exact⟨_,_,az l2 c2 k2,FG X G a2,a2,(az l2 c2 k2).binds λ_ _ _ _ _ _ us hl=>by obtain⟨u0,u1,rfl⟩:=fq us hl;rfl⟩
   |3,hd=>cases hd;exact⟨_,_,az l3 c3 k3,FG X G a3,a3,(az l3 c3 k3).binds λ_ _ _ _ _ _ us hl=>by obtain⟨u0,u1,rfl⟩:=fq us hl;rfl⟩
   |4,hd=>cases hd;exact⟨_,_,az l4 c4 k4,FG X G a4,a4,(az l4 c4 k4).binds λ_ _ _ _ _ _ us hl=>by obtain⟨u0,u1,rfl⟩:=fq us hl;rfl⟩
   |5,hd=>cases hd;exact⟨_,_,az l5 c5 k5,FG X G a5,a5,(az l5 c5 k5).binds λ_ _ _ _ _ _ us hl=>by obtain⟨u0,rfl⟩:=gY us hl;rfl⟩
   |6,hd=>cases hd;exact⟨_,_,az l6 c6 k6,FG X G a6,a6,(az l6 c6 k6).binds λ_ _ _ _ _ _ us hl=>by obtain⟨u0,u1,rfl⟩:=fq us hl;rfl⟩
   |7,hd=>cases hd;exact⟨_,_,az l7 c7 k7,FG X G a7,a7,(az l7 c7 k7).binds λ_ _ _ _ _ _ us hl=>by obtain⟨u0,rfl⟩:=gY us hl;rfl⟩
   |8,hd=>cases hd;exact⟨_,_,az l8 c8 k8,FG X G a8,a8,(az l8 c8 k8).binds λ_ _ _ _ _ _ us hl=>by obtain⟨u0,rfl⟩:=gY us hl;rfl⟩
   |9,hd=>cases hd;exact⟨_,_,az l9 c9 k9,FG X G a9,a9,(az l9 c9 k9).binds λ_ _ _ _ _ _ us hl=>by obtain⟨u0,rfl⟩:=gY us hl;rfl⟩
   |i+10,hd=>simp[tab]at hd
  ·intro x i hx;simp only[lj,DX,EU,or_false,Prod.mk.injEq]at hx
 refine⟨H9 "law" "law" (cE (aC 11)) (bu (aC 11)) (am (aC 11)) .none kV9 dc9 pm9 an9 cd9 ct9,λs v=>.of_eq rfl,λbase _ _=>?_⟩;exact qH O 40 9 d9 _ _ rfl (az l9 c9 k9)
theorem walk {l:Kh}{q:Eg}{loose:List Str}{XP:(Str->Option gV)->Heap->Prop}{YP:Ez->Heap->Prop}{d:DefRec}{K:Params->Frag}(hn:l.most=Z 63)(hdf:d.params.defaults=[])(hlaw:∀ns:List Int,ns.length<=63->phi tab 40 9 [.con (ns.map D.int)] (fun _=>Y) fun d _=>d=.bl NQ)(hY:∀(w:Ez) (h:Heap),YP w h->(K w.params).In h)(F:∀(w:Ez) (mg:Str->Option gV) (fa:NS) (h:Heap),(K w.params).In h->h.Ns Fd mg->mg d.name=Z (.ref fa)->
   ∃fd:Hi,(∀(s:q7) (u:gV),KP s fd ⟨[u],[]⟩ [("_law_script",u)])/\∀base:Heap,(K w.params).In base->base.Ns Fd mg->cq l.prog w (K w.params) mg base CX0 40 fa fd ["_law_script"] (lSp (K w.params) (phi tab 40 9))):
 PySem.W.WalkO q loose XP YP l.row.toRowW d [] (λf vs=>N1 f vs):=
 L2.walk_of (n:=63) (k:=40) (x:="_law_script") (CX:=λ_=>CX0) (sp:=λw=>lSp (K w.params) (phi tab 40 9)) hn (by decide) hdf ⟨rfl,by decide,by decide⟩ hY F (λw H a ns hl hO hS=>y8 hO hS (hlaw ns hl)) λ_ _ _ _ _ z=>z
end K01
end
section
namespace K01
open L2.Srt
variable{n:Nat}
theorem ng(j:1<=n):uw tab n 2:=λq=>tP (s:=aC 4) rfl j q
theorem b5(j:2<=n):qJ tab n 4:=λz h1 h2 q=>w9 (s:=aC 6) (fm:=2) rfl (ng ∅) j z h1 h2 q
theorem oI(z:3<=n):tQ tab n 5:=λj q=>qK (s:=aC 7) (ft:=4) rfl (b5 ∅) ∅ j q
variable{b p:NS}{M:Mem}
theorem qN(B:Box b M)(j:M p=Y):p≠b:=λz=>by obtain⟨x,y,w,e⟩:=B;rw[z,e]at j;cases j
theorem nh{α β:Type}{f:α->β}{l:List α}{i:Int}:atI (l.map f) i=(atI l i).map f:=by
 unfold atI;rw[DY]
 cases ixN l.length i with
 |none=>rfl
 |some j=>show(l.map f)[j]?=_;rw[Em];rfl
variable{ts:List Tm}{Q:QD}
theorem qO{e:NS}(j:M p=Z (.lst (ts.map tmD)))(he:M e=Z (.lst []))(q:Q (.bl (decide (ts≠[]))) M):wNe (.ref p) (.ref e) M Q:=by
 refine⟨.list (ts.map bf),.list [],?_,?_,?_⟩
 ·rw[cQ j,cR];rfl
 ·rw[cQ he];rfl
 ·cases ts with
  |nil=>exact q
  |cons t ts=>exact q
theorem qP(hn:4<=n){la:NS}{L0 L1 L2:Nat}(h0:1<=L0/\L0<=12)(h1:1<=L1/\L1<=12)(h2:1<=L2/\L2<=12)(hb:Box b M)(hl:M la=Z (.lst [.int L0,.int L1,.int L2]))(O:la≠b)(q:∀(ts:List Tm) p M',ts.length<=19->Bx b M M'->M p=Y->M' p=Z (.lst (ts.map tmD))->Q (.ref p) M'):phi tab n 6 [.ref b,.ref la] M Q:=by
 refine bh ∅ rfl rfl (ρ:=[Z _,Z _,Y,Y,Y,Y,Y]) rfl ?_
 unfold d6 b6;nofun;refine⟨∅,λta BG=>?_⟩
 have j:=qN hb BG;have gt:=Ge.new (o:=.lst []) BG;nofun;refine b5 ∅ (Bx.of hb gt).box (by decide) (by decide) λcnt M3 c0 c1 x3=>?_
 have BN:Bx b M M3:=(Bx.of hb gt).trans x3;have BO:=x3.keep ta _ j ag;ac_nf;refine⟨∅,∅,?_⟩
 refine dJ (I:=λl ρ M'=>∃(ts:List Tm) (o3 o4 o5 o6:Option D),ρ=[Z (.ref b),Z (.ref la),Z (.ref ta),o3,o4,o5,o6]/\ts.length=l.length/\Bx b M M'/\M' ta=Z (.lst (ts.map tmD))) hW ⟨[],_,_,_,_,rfl,rfl,BN,BO⟩ (λ_ _ _ _=>trivial) ?_ ?_
 ·rintro l k r ρ M4 e ⟨ts,o3,o4,o5,o6,rfl,BH,x4,BI⟩;refine⟨_,rfl,λF hF=>?_⟩;have BP:=bM e;rw[LU]at BP;nofun;refine aq (x4.keep la _ O hl) (d:=.int L2) rfl ?_;refine b5 ∅ x4.box ∅ ∅ λtk M5 k0 k1 x5=>?_
  refine aq (x5.keep la _ O (x4.keep la _ O hl)) (d:=.int L0) rfl ?_;refine b5 ∅ x5.box ∅ ∅ λti M6 i0 i1 x6=>?_
  refine aq (x6.keep la _ O (x5.keep la _ O (x4.keep la _ O hl))) (d:=.int L1) rfl ?_;refine b5 ∅ x6.box ∅ ∅ λtj M7 j0 j1 x7=>?_
  refine oI ∅ x7.box λc M8 c0 c1 x8=>?_
  refine⟨by rw[Ek];lia,?_⟩
  have x9:=x4.trans (x5.trans (x6.trans (x7.trans x8)));have BJ:=x8.keep ta _ j (x7.keep ta _ j (x6.keep ta _ j (x5.keep ta _ j BI)));generalize M8=M5 at x9 BJ;nofun;refine b5 ∅ x9.box (by decide) (by decide) λway M9 w0 w1 xw=>?_
  have BK:=x9.trans xw;have fv:=xw.keep ta _ j BJ;clear x5 x6 x7 x8 x9 xw BJ;have go:∀t:Tm,True:=λ_=>trivial;refine gg (I:=λρ' M'=>∃t:Tm,Bx b M M'/\M' ta=Z (.lst (ts.map tmD))/\ρ'=[Z (D.ref b),Z (D.ref la),Z (D.ref ta),Z (D.int ↑k),Z (tmD t),Z (.int way),o6]) (λR hR=>?_) ?_
  ·ac_nf
   by_cases hw:way=0
   ·rw[if_pos (by simpa using hw)]
    refine⟨ER _,λe1 J=>qO (ts:=ts) (by rw[ah (λz=>by rw[<-z,fv]at J;cases J)];exact fv) ag ⟨_,rfl,?_⟩⟩
    have U:=BK.ge (Ge.new (o:=.lst []) J);have B:af M9 e1 (.lst []) ta=Z (.lst (ts.map tmD)):=by rw[ah (λz=>by rw[<-z,fv]at J;cases J)];exact fv
    by_cases hne0:ts=[]
    ·rw[if_neg (by simp[hne0])]
     exact hR _ _ ⟨((tk,ti,tj),c),U,B,rfl⟩
    ·rw[if_pos (by simp[hne0])]
     have BL:0<ts.length:=EI.mpr hne0;nofun;refine mZ B ?_;rw[DY];refine b5 ∅ U.box ∅ ∅ λr BM r0 r1 xr=>?_
     obtain⟨u,hu,_⟩:=gd (xs:=ts) r0 r1;refine aq (xr.keep ta _ j B) (d:=tmD u) (by rw[nh,hu];rfl) ?_
     show bg (.tup [.int u.1.1,.int u.1.2.1,.int u.1.2.2,.int u.2]) Y (Z 3) _ _;refine fx ?_;refine⟨_,rfl,by rw[Ek];lia,?_⟩
     rw[kZ];refine⟨.inr trivial,by rw[Ek];simp,?_⟩
     exact hR _ _ ⟨(u.1,c),U.trans xr,xr.keep ta _ j B,rfl⟩
   ·rw[if_neg (by simpa using hw)]
    exact hR _ _ ⟨((tk,ti,tj),c),BK,fv,rfl⟩
  rintro ρ' BM ⟨t,U,B,rfl⟩;refine gg (I:=λρ' M'=>∃(t:Tm) (o6:Option D),Bx b M M'/\M' ta=Z (.lst (ts.map tmD))/\ρ'=[Z (D.ref b),Z (D.ref la),Z (D.ref ta),Z (D.int ↑k),Z (tmD t),Z (.int way),o6]) (λR hR=>?_) ?_
  ·ac_nf
   by_cases hw:way=1
   ·rw[if_pos (by simpa using hw)]
    refine⟨ER _,λe1 J=>qO (ts:=ts) (by rw[ah (λz=>by rw[<-z,B]at J;cases J)];exact B) ag ⟨_,rfl,?_⟩⟩
    have NP:=U.ge (Ge.new (o:=.lst []) J);have L:af BM e1 (.lst []) ta=Z (.lst (ts.map tmD)):=by rw[ah (λz=>by rw[<-z,B]at J;cases J)];exact B
    by_cases hne0:ts=[]
    ·rw[if_neg (by simp[hne0])]
     exact hR _ _ ⟨t,_,NP,L,rfl⟩
    ·rw[if_pos (by simp[hne0])]
     have BL:0<ts.length:=EI.mpr hne0;nofun;refine mZ L ?_;rw[DY];refine b5 ∅ NP.box ∅ ∅ λr BQ r0 r1 xr=>?_
     obtain⟨u,hu,_⟩:=gd (xs:=ts) r0 r1;refine aq (xr.keep ta _ j L) (d:=tmD u) (by rw[nh,hu];rfl) ?_
     nofun;show bg (.tup [.int u.1.1,.int u.1.2.1,.int u.1.2.2,.int u.2]) Y (Z 3) _ _;refine fx ?_;refine qM (ds:=[.int u.1.1,.int u.1.2.1,.int u.1.2.2,.int u.2]) rfl (d:=.int u.2) rfl ?_;show 0+1<=D2/\_;refine⟨by rw[Ek];lia,?_⟩
     rw[kZ];refine⟨.inr trivial,by rw[Ek];simp,?_⟩
     exact hR _ _ ⟨(u.1,0-u.2),_,NP.trans xr,xr.keep ta _ j L,rfl⟩
   ·rw[if_neg (by simpa using hw)]
    exact hR _ _ ⟨t,_,U,B,rfl⟩
  rintro ρ' BQ ⟨t,o6,NP,L,rfl⟩;nofun;refine⟨⟨_,L⟩,_,_,_,rfl,rfl,L,by rw[DY,Ek];lia,?_⟩
  refine hF _ _ ⟨ts++[t],_,_,_,_,rfl,by simp[BH],⟨?_,λa o ha e=>?_⟩,?_⟩
  ·obtain⟨u,v,w,eb⟩:=NP.box;exact⟨u,v,w,by rw[ah j.symm];exact eb⟩
  ·have BR:a≠ta:=λz=>by rw[z,BG]at e;cases e
   rw[ah BR];exact NP.keep a o ha e
  ·rw[ag];simp
 rintro ρ M4 ⟨ts,o3,o4,o5,o6,rfl,BH,x4,BI⟩;rw[LU]at BH;nofun;exact q ts ta M4 ∅ x4 BG BI
noncomputable def k3L(k:K3):List Int:=[k.1,k.2.1,k.2.2]
theorem ni{a b:K3}(h:k3L a=k3L b):a=b:=by obtain⟨a1,a2,j⟩:=a;obtain⟨b1,z,B⟩:=b;unfold k3L at h;simp at h;obtain⟨rfl,rfl,rfl⟩:=h;rfl
theorem qQ(ks:List (List Int)):(br ks).Nodup/\∀k,k∈br ks↔k∈ks:=
 ST.snoc_rec (P:=λks=>(br ks).Nodup/\∀k,k∈br ks↔k∈ks) ⟨Kv,λk=>LC⟩ (λl x ih=>by
  rw[el]
  by_cases h:x∈br l
  ·rw[if_pos h];refine⟨ih.1,λk=>?_⟩;rw[ih.2,Ef,FA];exact⟨.inl,λz=>z.elim id λz=>by rw[z];exact(ih.2 x).mp h⟩
  ·rw[if_neg h];refine⟨?_,λk=>?_⟩
   ·rw[Iw];refine⟨ih.1,by simp,λu hu v j e=>?_⟩
    rw[FA]at j;exact h (by rw[<-j,<-e];exact hu)
   ·rw[Ef,Ef,ih.2]) ks
variable{L:List K3}
theorem yg(j:L.Nodup)(hs:db (L.map k3D)):L.Pairwise klt:=by
 unfold db at hs;rw[EF]at hs;rw[Fg]at j;refine(hs.and j).imp ?_;rintro a b ⟨h1,h2⟩;unfold klt
 cases B:ltK (k3K a) (k3K b)with
 |true=>rfl
 |false=>
  exfalso
  cases z:ltK (k3K b) (k3K a)with
  |false=>exact h2 (n6 (dZ _ _ B z))
  |true=>have:ltK (kyD (k3D b)) (kyD (k3D a))=NQ:=z;rw[this]at h1;cases h1
noncomputable def eG(ts:List Tm)(L:List K3):List Tm:=(L.map λk=>(k,cf ts k)).filter λt=>!(t.2==0)
theorem jg{k:K3}:eG ts (L++[k])=eG ts L++if cf ts k=0 then[]else[(k,cf ts k)]:=by
 unfold eG;rw[GD,Hh];congr 1
 by_cases h:cf ts k=0
 ·simp[h]
 ·simp[h]
theorem qR(hs:L.Pairwise klt)(hm:∀k,k∈L↔k∈ts.map (·.1))(O:L.length<=ts.length)(U:L.Nodup):IsTask ts (eG ts L):=by
 have j:∀r∈eG ts L,r.1∈L/\r.2=cf ts r.1/\r.2≠0:=λr z=>by obtain⟨h1,h2⟩:=G9.mp z;obtain⟨k,B,rfl⟩:=Ej.mp h1;exact⟨B,rfl,by simpa using h2⟩
 refine⟨?_,λr z=>(j r z).2.2,λk=>?_,λr z=>(hm _).mp (j r z).1,?_⟩
 ·refine List.Pairwise.sublist HN ?_;rw[EF];exact hs
 ·unfold eG;rw[ux]
  by_cases B:k∈L
  ·refine qL (t:=(k,cf ts k)) ?_ (Ej.mpr ⟨k,B,rfl⟩);rw[Gq];have:L.map ((fun t:Tm=>t.1)∘fun k=>(k,cf ts k))=L:=by
    rw[show((λt:Tm=>t.1)∘λk=>(k,cf ts k))=id from rfl,My]
   rw[this];exact U
  ·rw[fu,fu]
   ·intro t F e;exact B ((hm k).mpr (e▸E6 F))
   ·intro t F e;obtain⟨k',J,rfl⟩:=Ej.mp F;exact B (e▸J)
 ·exact Fu (FT _ _) (by rw[DY];exact O)
theorem tV(ks:List (List Int)):(br ks).length<=ks.length:=
 ST.snoc_rec (P:=λks=>(br ks).length<=ks.length) (ER _) (λl x ih=>by
  rw[el,DZ]
  split
  ·lia
  ·rw[DZ];simp;exact ih) ks
theorem ll{α β:Type}{f:α->β}:∀{l:List β},(∀x∈l,∃y,f y=x)->∃m:List α,m.map f=l
 |[],_=>⟨[],rfl⟩
 |x::l,h=>by obtain⟨y,rfl⟩:=h x Ey;obtain⟨m,rfl⟩:=ll λx hx=>h x (Ee _ hx);exact⟨y::m,rfl⟩
theorem Ag{t k:K3}:F4 (.tuple [.int t.1,.int t.2.1,.int t.2.2]) (.tuple [.int k.1,.int k.2.1,.int k.2.2])=decide (t=k):=by obtain⟨a,b,c⟩:=t;obtain⟨a',b',c'⟩:=k;simp only[F4,GL,Bool.and_true];rw[MR];simp
theorem Ah:da (.tup [.int,.int,.int])=NQ:=by decide
theorem wf(hn:1<=n)(hp:M p=Z (.lst (ts.map tmD)))(hl:ts.length<=19)(q:∀(rs:List Tm) p' M',IsTask ts rs->Ge M M'->M p'=Y->M' p'=Z (.lst (rs.map tmD))->Q (.ref p') M'):phi tab n 7 [.ref p] M Q:=by
 refine bh ∅ rfl rfl (ρ:=[Z _,Y,Y,Y]) rfl ?_
 unfold d7 b7;nofun;refine⟨∅,λpf NP=>?_⟩
 have g0:=Ge.new (o:=.lst []) NP;nofun;refine⟨_,aE (g0 _ _ hp),?_⟩;refine eF (f:=tmD) (I:=λl ρ M' acc=>(∃o0,ρ=[o0])/\M'=af M pf (.lst [])/\acc=(l.map λt=>b4 (k3L t.1))) rfl ⟨⟨_,rfl⟩,rfl,rfl⟩ (λ_ _ _ _ hI=>by rw[hI.2.1];exact aE (g0 _ _ hp)) ?_ ?_
 ·rintro l t r ρ M2 acc e ⟨⟨o0,rfl⟩,rfl,rfl⟩;refine⟨_,rfl,λN' hN=>?_⟩;have BK:=bM e;ac_nf;show bg (.tup [.int t.1.1,.int t.1.2.1,.int t.1.2.2,.int t.2]) Y (Z 3) _ _;refine fx ?_;exact⟨by rw[DY,Ek];lia,hN _ _ _ ⟨⟨_,rfl⟩,rfl,by simp[b4,k3L]⟩⟩
 rintro ρ M2 acc ⟨⟨o0,rfl⟩,rfl,rfl⟩;intro p1 fv;refine⟨ts.map λt=>k3L t.1,by rw[ag,Gq];rfl,.tup [.int,.int,.int],Ah,λks BL=>?_,by rw[DY];lia,λp2 ys BG BH BM=>?_⟩
 ·obtain⟨t,_,rfl⟩:=Ej.mp BL;rfl
 obtain⟨B,J⟩:=qQ (ts.map λt=>k3L t.1);have O:=tV (ts.map λt=>k3L t.1);rw[DY]at O;obtain⟨L0,BN⟩:=ll (f:=k3L) (l:=br (ts.map λt=>k3L t.1)) (λx hx=>by obtain⟨t,_,e⟩:=Ej.mp ((J x).mp hx);exact⟨t.1,e⟩)
 rw[<-BN]at B J O BH;rw[DY]at O;rw[Gq]at BH;obtain⟨L,pL,eL⟩:=cW (λk:K3=>k3D k) BH rfl;have BO:L0.Nodup:=by rw[Fg]at B⊢;rw[EF]at B;exact B.imp λh e=>h (by rw[e])
 have BJ:L.Nodup:=pL.nodup_iff.mpr BO;have BP:∀k,k∈L↔k∈ts.map (·.1):=λk=>by
  rw[pL.mem_iff];constructor
  ·intro U;obtain⟨t,ht,e⟩:=Ej.mp ((J (k3L k)).mp (E6 U));rw[<-ni e];exact E6 ht
  ·intro U;obtain⟨t,ht,rfl⟩:=Ej.mp U;obtain⟨k',BQ,e⟩:=Ej.mp ((J (k3L t.1)).mpr (Ej.mpr ⟨t,ht,rfl⟩));rw[<-ni e];exact BQ
 have BR:L.length<=ts.length:=by rw[pL.length_eq];exact O
 subst eL;have hT:=qR (yg BJ BM) BP BR BJ;have g1:Ge M (af (af M pf (.lst [])) p1 (.lst (ts.map λt=>b4 (k3L t.1)))):=g0.trans (Ge.new fv);have g2:Ge M (af (af (af M pf (.lst [])) p1 (.lst (ts.map λt=>b4 (k3L t.1)))) p2 (.lst (L.map λk=>k3D k))):=g1.trans (Ge.new BG);have n1:pf≠p1:=λz=>by rw[<-z,ag]at fv;cases fv
 have n2:pf≠p2:=λz=>by rw[<-z,ah n1,ag]at BG;cases BG
 have e3:af (af (af M pf (.lst [])) p1 (.lst (ts.map λt=>b4 (k3L t.1)))) p2 (.lst (L.map λk=>k3D k)) pf=Z (.lst []):=by rw[ah n2,ah n1,ag]
 have e2:af (af (af M pf (.lst [])) p1 (.lst (ts.map λt=>b4 (k3L t.1)))) p2 (.lst (L.map λk=>k3D k)) p2=Z (.lst (L.map λk=>k3D k)):=ag;generalize af (af (af M pf (.lst [])) p1 (.lst (ts.map λt=>b4 (k3L t.1)))) p2 (.lst (L.map λk=>k3D k))=M3 at g2 e3 e2;refine⟨_,aE e2,?_⟩;refine dJ (f:=λk:K3=>k3D k) (I:=λl ρ M'=>∃o2 o3,ρ=[Z (.ref p),Z (.ref pf),o2,o3]/\Ge M M'/\M' p2=Z (.lst (L.map λk=>k3D k))/\M' pf=Z (.lst ((eG ts l).map tmD))) rfl ⟨_,_,rfl,g2,e2,e3⟩ (λl ρ M' g9=>(by obtain⟨_,_,_,_,h,_⟩:=g9;exact aE h)) ?_ ?_
 ·rintro l k r ρ M4 e ⟨o2,o3,rfl,g4,e4,BI⟩;refine⟨_,rfl,λF hF=>?_⟩;have BK:=bM e;nofun;refine⟨_,aE (g4 _ _ hp),?_⟩;refine eF (f:=tmD) (I:=λl' ρ M' acc=>(∃o0,ρ=[o0,Z (k3D k)])/\M'=M4/\acc=(l'.filter λt=>decide (t.1=k)).map λt=>D.int t.2) rfl ⟨⟨_,rfl⟩,rfl,rfl⟩ (λ_ _ _ _ hI=>by rw[hI.2.1];exact aE (g4 _ _ hp)) ?_ ?_
  ·rintro l' t r' ρ M5 acc e' ⟨⟨o0,rfl⟩,rfl,rfl⟩;refine⟨_,rfl,λN' hN=>?_⟩;have BV:=bM e';have BW:(l'.filter λt=>decide (t.1=k)).length<=l'.length:=FT _ _;ac_nf;show bg (.tup [.int t.1.1,.int t.1.2.1,.int t.1.2.2,.int t.2]) Y (Z 3) _ _;refine fx ?_;refine⟨.tuple [.int t.1.1,.int t.1.2.1,.int t.1.2.2],.tuple [.int k.1,.int k.2.1,.int k.2.2],rfl,rfl,?_⟩;refine⟨_,rfl,?_⟩;rw[Ag]
   by_cases U:t.1=k
   ·rw[if_pos (by simpa using U)]
    refine qM (ds:=[.int t.1.1,.int t.1.2.1,.int t.1.2.2,.int t.2]) rfl (d:=.int t.2) rfl ?_;exact⟨by rw[DY,Ek];lia,hN _ _ _ ⟨⟨_,rfl⟩,rfl,by simp[Hh,U]⟩⟩
   ·rw[if_neg (by simpa using U)]
    exact hN _ _ _ ⟨⟨_,rfl⟩,rfl,by simp[Hh,U]⟩
  ·rintro ρ M5 acc ⟨⟨o0,rfl⟩,rfl,rfl⟩;intro p5 BS;have g5:Ge M5 (af M5 p5 (.lst ((ts.filter λt=>decide (t.1=k)).map λt=>D.int t.2))):=Ge.new BS;refine⟨_,(ts.filter λt=>decide (t.1=k)).map (·.2),rfl,by rw[aE ag,Gq];rfl,?_⟩
   have g6:=g4.trans g5;have e6:=g5 _ _ e4;have j:=g5 _ _ BI;generalize af M5 p5 (.lst ((ts.filter λt=>decide (t.1=k)).map λt=>D.int t.2))=M6 at g6 e6 j;show wSs _ _ _ [_,_,_,Z (.int (cf ts k))] _;have BX:(eG ts l).length<=19:=by refine Fu (FT _ _) ?_;rw[DY];lia
   nofun
   by_cases hz:cf ts k=0
   ·rw[if_neg (by simp[hz])]
    refine hF _ _ ⟨_,_,rfl,g6,e6,?_⟩;rw[j,jg,if_pos hz,F5]
   ·rw[if_pos (by simp[hz])]
    nofun;refine⟨⟨_,j⟩,by rw[Ek];lia,?_⟩
    show dw (.tup [.int k.1,.int k.2.1,.int k.2.2]) (.tup [.int (cf ts k)]) _ _;rw[kZ];refine⟨.inr trivial,by rw[Ek];simp,?_⟩
    refine⟨_,_,_,rfl,rfl,j,by rw[DY,Ek];lia,?_⟩
    have np:p2≠pf:=λz=>by rw[z,j]at e6;exact n2 z.symm
    refine hF _ _ ⟨_,_,rfl,λa o ha=>?_,by rw[ah np];exact e6,?_⟩
    ·have BU:a≠pf:=λz=>by rw[z,NP]at ha;cases ha
     rw[ah BU];exact g6 a o ha
    ·rw[ag,jg,if_neg hz,GD];rfl
 ·rintro ρ M4 ⟨o2,o3,rfl,g4,e4,BI⟩;nofun;exact q _ pf M4 hT g4 NP BI
variable{p':NS}{rs:List Tm}
theorem iB{a b c:Int}(h:M p=Z (.lst (rs.map tmD)))(h':M p'=Z (.lst (rs.map tmD)))(q:Q (.bl NR) M):wNe (.tup [.int a,.int b,.int c,.ref p]) (.tup [.int a,.int b,.int c,.ref p']) M Q:=by refine⟨_,_,nc h,nc h',?_⟩;rw[tU];exact q
theorem yh(h:M p=Z (.lst (rs.map tmD)))(h':M p'=Z (.lst (rs.map tmD)))(q:Q (.bl NR) M):wNe (.ref p) (.ref p') M Q:=by
 refine⟨.list (rs.map bf),.list (rs.map bf),?_,?_,?_⟩
 ·rw[cQ h,cR];rfl
 ·rw[cQ h',cR];rfl
 ·show Q (.bl (!PyData.eqvAll (rs.map bf) (rs.map bf))) M;rw[fw];exact q
theorem ln(h:M p=Z (.lst (rs.map tmD)))(h':M p'=Z (.lst (rs.map tmD)))(q:Q (.bl NQ) M):wEq (.ref p) (.ref p') M Q:=by
 refine⟨.list (rs.map bf),.list (rs.map bf),?_,?_,?_⟩
 ·rw[cQ h,cR];rfl
 ·rw[cQ h',cR];rfl
 ·show Q (.bl (GL (rs.map bf) (rs.map bf))) M;rw[fw];exact q
theorem lp{ds:List D}{d:D}:dz (ds++[d]) Y (Z (-1))=ds:=by
 unfold dz;simp only[HT.sIx];rw[if_pos ∅,DZ,List.drop_zero,Nat.sub_zero]
 rw[show(-1+((ds.length+[d].length:Nat):Int)).toNat=ds.length by have:[d].length=1:=rfl;lia]
 simp
theorem qS(hn:6<=n)(hb:Box b M)(q:∀M',Q (.bl NQ) M'):phi tab n 8 [.ref b] M Q:=by
 refine bh ∅ rfl rfl (ρ:=[Z _,Y,Y,Y,Y,Y,Y,Y,Y]) rfl ?_
 unfold d8 b8;nofun;refine gg (I:=λρ' M'=>∃m:Int,1<=m/\m<=12/\Box b M'/\ρ'=[Z (.ref b),Z (.int m),Y,Y,Y,Y,Y,Y,Y]) (λR hR=>?_) ?_
 ·ac_nf;refine b5 ∅ hb (by decide) (by decide) λr M1 _ _ x1=>?_
  ac_nf
  split
  ·nofun;exact hR _ _ ⟨12,by decide,by decide,x1.box,rfl⟩
  ·exact hR _ _ ⟨8,by decide,by decide,x1.box,rfl⟩
 rintro ρ M0 ⟨m,m0,m1,Cr,rfl⟩;nofun;refine⟨∅,∅,?_⟩
 refine qI (I:=λl ρ M' acc=>∃(ns:List Nat) (x:Option D),acc=ns.map (λi:Nat=>.int i)/\ns.length=l.length/\(∀x∈ns,1<=x/\x<=12)/\Bx b M0 M'/\ρ=[x,Z (.ref b),Z (.int m)]) ⟨[],Y,rfl,rfl,λ_ h=>by simp at h,Bx.refl Cr,rfl⟩ (λ_ _ _ _ _=>trivial) ?_ ?_
 ·rintro l x r ρ M1 acc e ⟨ns,o,rfl,hl,hs,x1,rfl⟩;refine⟨_,rfl,λN' hN=>?_⟩;ac_nf;refine b5 ∅ x1.box ∅ ∅ λv M2 h1 h2 x2=>?_
  ac_nf;have:=bM e;rw[hJ]at this;refine⟨by rw[DY,hl,Ek];lia,hN _ _ _ ⟨ns++[(1+v).toNat],_,?_,by simp[hl],?_,x1.trans x2,rfl⟩⟩
  ·simp;lia
  ·intro y hy
   rcases Ef.mp hy with h|h
   ·exact hs y h
   ·simp at h;lia
 rintro ρ M1 acc ⟨ns,o,rfl,hl,hs,x1,rfl⟩ la hla;rw[hJ]at hl;obtain⟨L0,L1,L2,rfl⟩:∃a b c,ns=[a,b,c]:=by
  match ns,hl with
  |[a,b,c],_=>exact⟨a,b,c,rfl⟩
 have CC:=hs L0 (by simp)
 have CD:=hs L1 (by simp)
 have CF:=hs L2 (by simp)
 have C3:=qN x1.box hla;have Cb:=(x1.ge (Ge.new (o:=.lst ([L0,L1,L2].map (λi:Nat=>.int i))) hla)).box;have eA:af M1 la (.lst ([L0,L1,L2].map (λi:Nat=>.int i))) la=Z (.lst [.int L0,.int L1,.int L2]):=ag;generalize af M1 la (.lst ([L0,L1,L2].map (λi:Nat=>.int i)))=M2 at Cb eA;clear hla x1;nofun;refine qP ∅ CC CD CF Cb eA C3 λts ta M3 Ct x3 CG eT=>?_
 have BL:=x3.keep la _ C3 eA;clear x3 CG eA Cb Cr hb;nofun;refine aq BL (d:=.int L0) rfl ?_;refine aq BL (d:=.int L1) rfl ?_;refine aq BL (d:=.int L2) rfl ?_;refine wf ∅ eT Ct λrs pd M4 hT g4 npd eD=>?_
 refine⟨by rw[Ek];simp,?_⟩
 have BX:=g4 _ _ eT;have Cu:=g4 _ _ BL;have D3:ta≠pd:=λz=>by rw[z]at eT;rw[npd]at eT;cases eT
 have CH:rs.length<=19:=Fu hT.len Ct;clear g4 npd eT BL;nofun;refine⟨_,_,rfl,aE BX,λph BH=>?_⟩;have g5:Ge M4 (af M4 ph (.lst (ts.map tmD))):=Ge.new BH;have BY:=g5 _ _ BX;have L:=g5 _ _ Cu;have BZ:=g5 _ _ eD;have BM:af M4 ph (.lst (ts.map tmD)) ph=Z (.lst (ts.map tmD)):=ag;have D4:ph≠pd:=λz=>by rw[z,eD]at BH;cases BH
 have D5:ph≠ta:=λz=>by rw[z,BX]at BH;cases BH
 generalize af M4 ph (.lst (ts.map tmD))=M5 at BY L BZ BM;clear g5 BH BX Cu eD;nofun;refine aq L (d:=.int L0) rfl ?_;refine aq L (d:=.int L1) rfl ?_;refine aq L (d:=.int L2) rfl ?_;refine iA (s:=aC 1) rfl ∅ (aE BM) ∅ λO pr M6 hR g6 npr eR=>?_
 obtain rfl:=hR.uniq hT λ_=>rfl;have Cc:=g6 _ _ BY;have Cv:=g6 _ _ L;have Cd:=g6 _ _ BZ;have Ce:=g6 _ _ BM;have CI:pr≠pd:=λz=>by rw[z,BZ]at npr;cases npr
 have CJ:pr≠ta:=λz=>by rw[z,BY]at npr;cases npr
 have CK:pr≠ph:=λz=>by rw[z,BM]at npr;cases npr
 have CL:pr≠la:=λz=>by rw[z,L]at npr;cases npr
 clear g6 npr BY L BZ BM;nofun;refine iB eR Cd ?_;refine⟨_,rfl,?_⟩;rw[if_neg (by simp)]
 ac_nf;refine⟨_,rfl,_,rfl,?_⟩;rw[if_neg (by decide)]
 ac_nf;refine⟨_,rfl,"list",by simp[tyN,eR],_,rfl,?_⟩
 rw[if_neg (by decide)]
 ac_nf;refine yh Ce Cc ⟨_,rfl,?_⟩;rw[if_neg (by simp)]
 nofun;refine⟨_,rfl,⟨_,rfl,_,eR⟩,by rw[Ek];decide,?_⟩
 have D6:O.length<=19:=CH;refine⟨_,_,_,rfl,rfl,eR,by rw[DY,Ek];lia,?_⟩
 have C0:af M6 pr (.lst (O.map tmD++[.tup [.int 0,.int 0,.int 0,.int 7]])) ta=Z (.lst (ts.map tmD)):=by rw[ah CJ.symm];exact Cc
 have BI:af M6 pr (.lst (O.map tmD++[.tup [.int 0,.int 0,.int 0,.int 7]])) la=Z (.lst [.int L0,.int L1,.int L2]):=by rw[ah CL.symm];exact Cv
 have Cf:af M6 pr (.lst (O.map tmD++[.tup [.int 0,.int 0,.int 0,.int 7]])) pd=Z (.lst (O.map tmD)):=by rw[ah CI.symm];exact Cd
 have Cg:af M6 pr (.lst (O.map tmD++[.tup [.int 0,.int 0,.int 0,.int 7]])) ph=Z (.lst (ts.map tmD)):=by rw[ah CK.symm];exact Ce
 generalize af M6 pr (.lst (O.map tmD++[.tup [.int 0,.int 0,.int 0,.int 7]]))=M7 at C0 BI Cf Cg;clear Cc Cv Cd Ce eR;nofun;refine aq BI (d:=.int L0) rfl ?_;refine aq BI (d:=.int L1) rfl ?_;refine aq BI (d:=.int L2) rfl ?_;refine⟨_,C0,λp8 Cw=>?_⟩;have g8:Ge M7 (af M7 p8 (.lst (ts.map tmD).reverse)):=Ge.new Cw;have Ch:=g8 _ _ C0;have Ci:=g8 _ _ BI;have Cj:=g8 _ _ Cf;have Ck:=g8 _ _ Cg;have Cl:af M7 p8 (.lst (ts.map tmD).reverse) p8=Z (.lst (ts.reverse.map tmD)):=by rw[ag,List.map_reverse]
 generalize af M7 p8 (.lst (ts.map tmD).reverse)=M8 at Ch Ci Cj Ck Cl;clear g8 Cw C0 BI Cf Cg;refine iA (s:=aC 1) rfl ∅ (aE Cl) (by rw[HM];lia) λC1 D7 M9 CM g9 Cy Cz=>?_
 have CN:=CM.uniq hT λk=>n8 (Hw ts);subst CN;have Cn:=g9 _ _ Ch;have CA:=g9 _ _ Ci;have BN:=g9 _ _ Cj;have Co:=g9 _ _ Ck;clear g9 Cy Ch Ci Cj Ck Cl;refine iB Cz BN ⟨_,rfl,?_⟩;rw[if_neg (by simp)]
 clear Cz;nofun;refine⟨_,rfl,_,_,rfl,aE BN,λpo B=>?_⟩;have BO:Ge M9 (af M9 po (.lst (C1.map tmD))):=Ge.new B;have U:=BO _ _ Cn;have F:=BO _ _ CA;have NP:=BO _ _ BN;have fv:=BO _ _ Co;have J:af M9 po (.lst (C1.map tmD)) po=Z (.lst (C1.map tmD)):=ag;have CO:po≠pd:=λz=>by rw[z,BN]at B;cases B
 have CP:po≠ta:=λz=>by rw[z,Cn]at B;cases B
 have CQ:po≠ph:=λz=>by rw[z,Co]at B;cases B
 generalize af M9 po (.lst (C1.map tmD))=M10 at U F NP fv J;clear BO B Cn CA BN Co;nofun;refine aq F (d:=.int L0) rfl ?_;refine aq F (d:=.int L1) rfl ?_;refine aq F (d:=.int L2) rfl ?_;refine iA (s:=aC 1) rfl ∅ (aE J) ∅ λj pa BJ CS BP npa C2=>?_
 have CT:=CS.uniq hT λk=>hT.cf k;subst CT;have C4:=BP _ _ U;have BQ:=BP _ _ NP;have C5:=BP _ _ fv;have C6:=BP _ _ J;have CU:pa≠pd:=λz=>by rw[z,NP]at npa;cases npa
 have CV:pa≠ta:=λz=>by rw[z,U]at npa;cases npa
 have CW:pa≠ph:=λz=>by rw[z,fv]at npa;cases npa
 have CB:pa≠po:=λz=>by rw[z,J]at npa;cases npa
 clear BP npa U F NP fv J;nofun;refine iB C2 BQ ⟨_,rfl,?_⟩;rw[if_neg (by simp)]
 nofun;refine⟨_,rfl,⟨_,rfl,_,C2⟩,by rw[Ek];decide,?_⟩
 refine⟨_,_,_,rfl,rfl,C2,by rw[DY,Ek];lia,?_⟩
 have BR:af BJ pa (.lst (j.map tmD++[.tup [.int 0,.int 0,.int 0,.int 7]])) ta=Z (.lst (ts.map tmD)):=by rw[ah CV.symm];exact C4
 have BS:af BJ pa (.lst (j.map tmD++[.tup [.int 0,.int 0,.int 0,.int 7]])) pd=Z (.lst (j.map tmD)):=by rw[ah CU.symm];exact BQ
 have BU:af BJ pa (.lst (j.map tmD++[.tup [.int 0,.int 0,.int 0,.int 7]])) ph=Z (.lst (ts.map tmD)):=by rw[ah CW.symm];exact C5
 have BG:af BJ pa (.lst (j.map tmD++[.tup [.int 0,.int 0,.int 0,.int 7]])) po=Z (.lst (j.map tmD)):=by rw[ah CB.symm];exact C6
 have BV:af BJ pa (.lst (j.map tmD++[.tup [.int 0,.int 0,.int 0,.int 7]])) pa=Z (.lst (j.map tmD++[.tup [.int 0,.int 0,.int 0,.int 7]])):=ag;generalize af BJ pa (.lst (j.map tmD++[.tup [.int 0,.int 0,.int 0,.int 7]]))=BK at BR BS BU BG BV;clear C4 BQ C5 C6 C2;dsimp only;nofun;refine⟨⟨_,BG⟩,by rw[Ek];decide,?_⟩
 refine⟨_,_,_,rfl,rfl,BG,by rw[DY,Ek];lia,?_⟩
 have C7:af BK po (.lst (j.map tmD++[.tup [.int 0,.int 0,.int 0,.int 9]])) ta=Z (.lst (ts.map tmD)):=by rw[ah CP.symm];exact BR
 have BW:af BK po (.lst (j.map tmD++[.tup [.int 0,.int 0,.int 0,.int 9]])) pd=Z (.lst (j.map tmD)):=by rw[ah CO.symm];exact BS
 have C8:af BK po (.lst (j.map tmD++[.tup [.int 0,.int 0,.int 0,.int 9]])) ph=Z (.lst (ts.map tmD)):=by rw[ah CQ.symm];exact BU
 have C9:af BK po (.lst (j.map tmD++[.tup [.int 0,.int 0,.int 0,.int 9]])) pa=Z (.lst (j.map tmD++[.tup [.int 0,.int 0,.int 0,.int 7]])):=by rw[ah CB];exact BV
 have Ca:af BK po (.lst (j.map tmD++[.tup [.int 0,.int 0,.int 0,.int 9]])) po=Z (.lst (j.map tmD++[.tup [.int 0,.int 0,.int 0,.int 9]])):=ag;generalize af BK po (.lst (j.map tmD++[.tup [.int 0,.int 0,.int 0,.int 9]]))=Cp at C7 BW C8 C9 Ca;clear BR BS BU BG BV;dsimp only;nofun;refine ln C8 C7 ?_;refine⟨_,rfl,?_⟩;rw[if_pos rfl];refine(show bg (.ref po) Y (Z (-1)) Cp _ from⟨_,Ca,λp5 CY=>?_⟩);rw[lp];have Cq:Ge Cp (af Cp p5 (.lst (j.map tmD))):=Ge.new CY;refine⟨_,rfl,ln ag (Cq _ _ BW) ⟨_,rfl,?_⟩⟩;rw[if_pos rfl];refine⟨_,rfl,?_⟩;refine(show bg (.ref pa) Y (Z (-1)) _ _ from⟨_,Cq _ _ C9,λp6 CZ=>?_⟩);rw[lp];exact⟨_,rfl,ln ag ((Ge.new CZ) _ _ (Cq _ _ BW)) (q _)⟩
theorem law_holds(ns:List Int)(z:ns.length<=63):phi tab 40 9 [.con (ns.map D.int)] (λ_=>Y) λd _=>d=.bl NQ:=by
 refine bh ∅ rfl rfl (ρ:=[Z _,Y]) rfl ?_
 unfold d9 b9;nofun;rw[DY];refine⟨by split<;>lia,by split<;>lia,?_⟩
 refine dJ (I:=λl ρ M'=>∃o,ρ=[Z (.con (ns.map D.int)),o]) hW ⟨_,rfl⟩ (λ_ _ _ B=>trivial) ?_ ?_
 ·rintro l k r ρ M8 e ⟨o,rfl⟩;refine⟨_,rfl,λF j=>?_⟩;nofun;refine yd (s:=aC 5) (fc:=1) (fm:=2) (sc:=aC 3) rfl rfl (ng ∅) ∅ ∅ λp x y J=>?_
  refine qS ∅ ⟨_,_,_,ag⟩ λM'=>?_
  exact⟨NQ,rfl,j _ _ ⟨_,rfl⟩⟩
 ·rintro ρ M8 ⟨o,rfl⟩;dsimp only;nofun
end K01
end
end
end Mi
end L2
end
open PySem.W in
set_option maxRecDepth 100000 in
set_option maxHeartbeats 0 in
theorem PySem.Challenge.cw_fewtimes_k01_tasks_put_together_holds : PySem.Challenge.rw_fewtimes_k01_tasks_put_together.Holds := by
 w_on;o_law;k_head;(case hw=>w_witness2)
 k_fill
 refine L2.Mi.K01.walk (l:=PySem.Challenge.rw_fewtimes_k01_tasks_put_together) rfl rfl L2.Mi.K01.law_holds (fun w h Y=>PySem.W.kIn_of Y) ?F
 case F =>
  intro w mg fa h KX G hmg;refine' L2.Mi.K01.all_mk KX G hmg ?z ?_ ?_ ?_ ?_ ?_ ?_ ?_ ?_ ?_ ?_ ?_ ?_ ?_ ?_ ?_ ?_ ?_ ?_ ?_ ?_ ?_ ?_ ?_ ?_ ?_ ?_ ?_ ?_ ?_ ?_ ?_ ?_ ?_ ?_ ?_ ?_ ?_ ?_ ?_ ?_
  case z =>
   intro x hx;simp only [L2.Mi.bltNames,List.mem_cons,List.not_mem_nil,or_false] at hx
   rcases hx with rfl | rfl | rfl | rfl | rfl | rfl | rfl | rfl | rfl | rfl | rfl | rfl | rfl | rfl | rfl | rfl | rfl | rfl | rfl | rfl <;> k_is
  all_goals try (show _=_;k_is)
