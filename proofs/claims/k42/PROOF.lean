import PyProof.Rows.All
import Wide.All
import OpenK.AllK
import Wide.FinOn
import Lean
import PyProof.EqAt
import PyProof.EqKinds
import PyProof.TupleCall
import PyProof.ZipIter
import PyProof.EnumMake
import PyProof.EnumFor
import PyProof.CollectIter
import PyProof.TupleKey
import PyProof.DictRoadsH
import PyProof.P3Eq
import PyProof.Rows.SeqMore
import PyProof.ConsumeWalk
import PyProof.Rows.SortShellK
import PyProof.DictItems
import PyProof.DictWalks
import PyProof.AttrMissHeap
import PyProof.DictIter
import PyProof.MaxThree
import PyProof.SeqI3
import PyProof.DictTruth
import PyProof.Rows.TupDisplay
import PyProof.ListCopy
import PyProof.NeKinds
import PyProof.RaisesDict
import KE.KDictOf
import PyProof.Rows.CallKwBuiltin
import PyProof.DelItemList
import PySem.Challenge.RW_fewtimes_k42_least_counts
set_option Elab.async false
set_option linter.all false
set_option compiler.extract_closed false
set_option genSizeOf false
set_option bootstrap.genMatcherCode false
set_option maxRecDepth 100000
set_option maxHeartbeats 4000000
open PySem.W (Frag)
open PySem renaming wpAny_bind->gV,Value->q7,sizeLine_eq->D0,Shared->J4,wpAny_pure->KZ,sizeLine->Lf,wpAny->Lu,model->LA,Program->LN,starEach->LQ,Paired->Mh,wpAny_callSpecial?_slot->Mj,World->Mq,compareOp->Mt,wpAny_setField_rec->Mu,Around->Mz,wpAny_call_entry->MA,wpAny_field->MM,wpAny_holding->MP,Comprehension->MQ,mainGlobals->MW,sysModules->N3,PyData->Ni,mem_of_lookup->NA,wpAny_truthy_bool->NB,wpAny_newObj_type->ND,binaryOp->NL,wpAny_pyIter_tuple->NP,wpAny_rule->NT,wpAny_mono->O7,assignEach->O8,wpAny_seqItems->Of,foldedSetIterable->Oj,cLine->Ol,cellsFrom->Om,DictEntry->Oo,Builtin->Oq,wpAny_pyIter_list->Ot,wpAny_isInstance->OE,tupleKind_room_in1->OI,wpAny_passesOwn->ON,wpAny_typeOf->OS,swappedStores->OX,IsPair->P1,wpAny_attempt->P2,NameKind->P6,wpAny_of_eq->Pc,bootBuiltins->Ph,wpAny_loadPart'->Pw,wpAny_standAt->PF,wpAny_dictEntries->PQ,FuncData->PR,tupleKind->PY,swapsWithSole->Q6,behindInMarks->Q7,backTo->Qe,wpAny_Call_Name_kw->Qf,swapsWith->Qh,inplaceOp->Qi,sliceBounds->Qk,Operator->Qn,pyNext->Qo,codeAny_mono->Qp,Reads->Qt,isSubtype_type->Qw,Model->QE,call_meets->QJ,codeAny->QS,wpAny_updateSeq_pair->QV,letOwnedTupleGo->R0,codeAny_builtin->R8,wpAny_richCompare_same_room->Rg,firstArgMember->Ry,wpAny_binaryOp_repeat_ref->RG,standAt->RT,IsZip->RW,wpAny_letGo->RX,rawInt->RZ,attributeBase->S0,wpAny_newList->S4,wpAny_comprehension_free->S8,wpAny_onRaise->S9,lastMarks->Se,noFill_tuple_add->Sf,wpAny_pyNext_list_item->Sw,IsPart->Sy,getItem->Sz,typeIs_int->SE,Keyword->SF,call_meetsIn->SG,IsEnum->SI,wpAny_execs_nil->SO,pushCells_keeps->SR,wpAny_ite_false->SS,wpAny_pyNext_list_end->SX,builtinLookup_eq_fast->T3,wpAny_loadName_local->T6,atKey->Ta,newFunctionEnv->Tb,ZipApart->Tc,wpAny_newTuple->Te,isSubtype_stop->Tf,ReadsAll->Tj,wpAny_ite_true->Tr,wpAny_pyIter_keyiter->Tt,callerA->TH,valueAt->TJ,wpAny_loadName_cell->TL,assignInOrder->TV,CmpOp->TX,seq_tuple_add->TY,plainId_quiet->TZ,mroOf_keyiter->U0,foldedForSure->U4,pyIter->Ua,wpAny_dictSet_heap->Uj,BindsTo->Uv,concat_meets->Uw,wpAny_sequenceKey->Ux,seqIndex_neg->Uy,wpAny_pyIter_enum->UD,wpAny_Dict_empty->UU,pushCells->UW,wpAny_pyIter_zip->UZ,IsEnumOut->V0,entryFor_of_tree->V4,seqIndex_of->Ve,keywordEach->Vf,wpAny_throw->Vh,richCompare->Vj,builtinsNs->VB,wpAny_Name->VC,bindName->VD,bindL->VE,bindC->VF,call->VH
open List renaming length_map->h7,length_append->hH,getElem?_eq_getElem->z4,replicate->I7,getElem?_append_right->L3,mem_cons_of_mem->L4,getElem?_eq_some_iff->L5,pairwise_append->L6,mem_map->L7,getElem?_append_left->L8,mem_append->Lb,range->Lc,mem_cons_self->Ld,mem_of_getElem?->Lh,map_cons->Lj,map_append->Ll,mem_cons->Lm,size_toArray->Lo,getElem?_map->Lp,length_range->Lq,getD_eq_getElem?_getD->Lw,append_assoc->Lx,length_cons->LB,length_singleton->LC,mem_singleton->LD,length_filter_le->LF,mem_append_right->LH,mem_map_of_mem->LJ,length_take->LK,filter_cons_of_pos->LL,mem_filter->LM,mem_range->LP,nodup_iff_pairwise_ne->LS,filter_append->LU,length_eq_zero_iff->LV,filter_cons_of_neg->LW,toList_toArray->LX,getElem?_replicate->Mb,not_mem_nil->Me,mem_flatMap->Mn,flatMap_append->Mo,eq_of_mem_replicate->My,append_nil->MB,flatMap_cons->MD,length_pos_iff->MR,flatten_cons->MX,map_map->N1,length_replicate->N5,replicate_succ->N7,map_congr_left->N8,nodup_cons->Na,drop_eq_getElem_cons->Nh,pairwise_cons->Nj,take_of_length_le->Nk,foldl_cons->Nl,getElem_mem->Nm,map_nil->Np,pairwise_map->Nr,mem_append_left->Nu,getElem?_of_mem->Nv,getElem?_set_self->Nx,length_drop->Ny,take_add_one->NF,take_append_drop->NG,eq_nil_or_concat->NH,concat_eq_append->NI,length_nil->NN,getElem?_zipIdx->NQ,ext_getElem?->NV,map->NX,getElem?_range->NY,find?_cons->O0,length_zipIdx->Oa,getElem?_take_of_lt->Ob,getElem?_set_ne->Oe,mem_iff_getElem->Og,getElem?_cons_succ->Ou,foldl_append->Ov,dropLast_concat_getLast->Ox,flatten_append->Oz,drop_eq_nil_of_le->OC,lookup_cons->OD,Perm->OF,all_eq_true->OG,getElem?_drop->OK,getElem?_eq_none->OL,forIn_cons->OP,getElem?_mapIdx->OU,nodup_append->OW,all_cons->P4,take_length->P7,any_eq_true->P9,length->Pb,zipWith->Pm,find?_cons_of_neg->Po,filter_eq_nil_iff->Pp,length_set->Pq,mem_zipIdx_iff_getElem?->Pz,range_succ->PD,any_cons->PH,perm_append_comm->PM,mem_of_mem_drop->PV,mem_of_mem_take->PX,mem_reverse->Q1,filter_sublist->Q5,of_mem_zip->Qa,extract->Qu,reverse_perm->Qv,find?_cons_of_pos->QA,eraseIdx_eq_take_drop_succ->QC,pairwise_flatMap->QG,eq_replicate_iff->QH,foldl->QI,nodup_range->QR,take_append_of_le_length->QW,replicate_succ'->QY,nil_append->R3,filterMap_cons->Ra,length_zipWith->Rb,drop_drop->RA,exists_cons_of_ne_nil->RF,pairwise_iff_getElem->RI,mem_of_find?_eq_some->RL,mem_or_eq_of_mem_set->RN,length_erase_of_mem->Sd,zipIdx_cons->Si,drop_length->Sm,cons_append->Sn,getElem?_cons_zero->So,getElem?_zipWith->T1,pairwise_reverse->T2,eraseIdx_sublist->T5,forIn_nil->Td,take_left->To,reverse_reverse->Tp,mem_erase_of_ne->Tz,foldl_nil->TB,length_reverse->TR,zip_eq_zipWith->TU,sum_cons->U7,map_take->U8,mem_filterMap->Ub,set_cons_zero->Ul,set_cons_succ->Um,append_of_mem->Up,any_eq_false->Ur,map_snd_zip->V3,range'_succ->V6,flatMap_nil->Va,map_zipWith->Vb,zipIdx_nil->Vt,length_zip->Vy
open Bool renaming and_eq_true->D1,false_ne_true->Lg,not_eq_true'->MZ,false_eq_true->NO,not_eq_true->QL,false_and->Rq,false_or->S2,or_eq_true->SU,and_eq_true_iff->Ti
open PySem.Heap renaming get?_push_of_some->D2,get?_push_size->Lk,lt_size->Lr,SameBut->NM,size_push->NU,get?_update_ne->NZ,IsTuple->Rf,get?_update_other->SD,get?_update_self->SY,IsList->Tg,get?_push_cases->Th,ExtBut->Vg
open Nat renaming le_refl->L9,mul_le_mul->LY,lt_of_lt_of_le->LZ,ne_of_lt->Md,le_trans->Ml,succ_mul->Mp,zero_le->N6,mul_le_mul_right->Ng,lt_irrefl->NJ,div_lt_iff_lt_mul->O6,ne_of_gt->OA,min_eq_left->OQ,zero_add->OV,le_of_lt->PZ,mul_comm->Q0,sub_self->Q2,lt_or_ge->Qz,pow_le_pow_right->QZ,le_antisymm->R9,mod_lt->RE,add_assoc->Sa,succ_le_succ->Sl,pow_succ->SM,div_add_mod->SV,mul_one->TF,add_sub_cancel->Uh,add_comm->Uz,succ->UM,lt_trichotomy->UO,div_eq_of_lt->Vc,mul_add_div->Vz,not_lt->VI
open PyProof.Rows renaming wpS_bind->La,Keyed->Le,pendingOf->Lz,arrOf->Mm,wpS_forRange->MK,SortSt->MN,kindOf->Nz,callWith_type1->NR,slot_tuple_getitem->O1,wpS_modify->O9,failedOf->Oy,SortKind->Q9,wpS_get->Qb,get?_update_seq->Qc,setPending->Qg,listUpdate_at->QT,mem_zip_self->Rh,assignInOrder_cons->Rp,AllBare->RQ,seqSlot_of->Sk,subscriptTail_builtinR->SA,envOfC->T8,entry_tuple_getitem->TM,args_tuple_getitem->Uc,assignInOrder_nil->Uq,listItems_at->UI,seqObj->V2,keyKind'_eq->Vk,seqEpoch_at->Vl,IntsAre->VA,mergeAt'->VJ
open Int renaming toNat_natCast->Li,eq_ofNat_of_zero_le->Mk,emod_lt_of_pos->Mv,dvd_mul_of_dvd_right->N4,dvd_zero->N9,emod_nonneg->Nb,dvd_mul_of_dvd_left->Nc,dvd_sub->Oi,dvd_add->Pf,natCast_mul->Px,toNat_of_nonneg->Q4,dvd_neg->Qm,mul_le_mul_of_nonneg_left->QX,zero_add->Rj,add_zero->Rk,ofNat->Rm,emod_eq_of_lt->RY,natCast_add->SW,mul_assoc->U5,lt_or_gt_of_ne->Uo,sub_zero->UN,mul_one->Vd,mul_add->Vp,add_mul->Vq
open PySem.W renaming mg_of->Ln,kia_one->Nw,nsIn->OT,fnOf->Pj,keepIn->PU,cellsFrom_some->Qq,codeIn->Rt,methodObj->RP,instObj->SN,OpenLaw->SQ,lookIn->T7,kitx_list->Us,kitx_dict->Ut,plainGet->UR
open Array renaming toList_append->Lv,toList_push->Ly,length_toList->LI,getElem?_toList->LO,getElem?_eq_getElem->Ma,toList_reverse->Mg,toList_extract->Oh,size_append->PN,getElem?_eq_none->Qy,toList_inj->QO,map->QP,size_push->R7,toList_setIfInBounds->RB,toList->Sv,all_eq_true->UJ,filterMap->Vw
open Option renaming some->LG,map_eq_some_iff->OB,isSome_iff_exists->OY,getD_some->Pa,map_some->Pu,bind_some->QM,isSome_map->RV,isSome_some->Ud,getD_none->US,join_some->V7,bind_none->V8,join_none->V9
open PySem.NameKind renaming free->Mc,cell->Oc
open PySem.Str renaming ofString->Mf
open PySem.PyData renaming eqv->Mr,eqvAll->MU,canLayAll0->Nq,depthAll->Ow,depth->Pn,canLay0->Qx,strOk->UE,list->Vi
open Classical renaming byContradiction->Mw,propDecidable->Nf
open List.Perm renaming append_left->MJ,append_right->MY,of_eq->Py,refl->Tq
open PySem.Value renaming ref->MV,type->Nt,none->Pg,bool->U9,int->UP,str->UQ
open PySem.Paired renaming length->NS
open PySem.SeqAt renaming readOf->NW,readOf_eq->OR,eqAt_reads->V1
open True renaming intro->OH
open PySem.F renaming slot_tuple_iterator_next->OJ,slot_enumerate_next->PJ,args_tuple_add_2->Q8,entry_tuple_add->Qj,plainAttrs_list->Ql,slot_tuple_add->Qr,slot_dict_get->QF,slot_int_rmul->R4,args_tuple_iterator_next_1->R5,slot_zip_next->R6,entry_tuple_iterator_next->Rc,args_dict_get_3->Sg,args_enumerate_next_1->Sj,entry_dict_get->SH,entry_enumerate_next->SJ,slot_dict_eq->Tu,args_int_rmul_2->UA,args_zip_next_1->UB,entry_int_rmul->UT,entry_zip_next->UX,slot_dict_iter->V5,fills_int_mul->Vs,slot_tuple_lt->Vv,slot_dict_len->Vx
open PySem.Builtin.Slice renaming slicePlaces->OM,sliceAdjust->Q3,sliceApplied->Ru
open LawfulBEq renaming eq_of_beq->OO
open PySem.Builtin.Tuple renaming tupleExact->OZ,tupleCompareSizes->QB,tupleItemsOf->Rw,tupleIsExact->Rx,tupleTooMany->Rz,tupleHashOf->RH
open PySem.Builtin.List renaming listTooLong->P0,listLengthHint->Ri
open List.Pairwise renaming imp_of_mem->P5,nil->RU
open PySem.Shared renaming heap->Pe
open PySem.Obj renaming mapSeq->Pk,data_mapFields->Ue
open ForInStep renaming yield->Pt
open PySem.Calls renaming callWith_builtin->Qs,Name_function_global->Ro,spliced_cons->Rr,evalArgs_plain->T9,spliced_nil->Uu
open And renaming intro->QK
open PyProof.Rows.SortSt renaming mk'->QN
open PySem.Data renaming seq->QU
open PyProof.Rows.IsTup renaming new->Rl
open PySem.Builtin.Dict_items renaming isOneOf->RC
open PySem.Builtin.Dict renaming dictSlotArgs->RJ,samePairs->SK
open PySem.Env renaming blockKind->Sb,kindOf->Uk
open List.Sublist renaming map->Sr
open Sum renaming inl->Ss,inr->Su
open PySem.Expr renaming Subscript->Tv,Attribute->Tw,Constant->U1,ListComp->U2,UnaryOp->UK,Compare->UL,BoolOp->Vm,BinOp->VL,IfExp->VM,Tuple->VN,Slice->VO,Name->VR,List->VS,Call->VT,Dict->VU
open PySem.Stmt renaming AugAssign->Tx,Continue->U3,Assign->Vn,Return->Vo,While->VP,Break->VQ,Expr->VW,Pass->VX
open Iff renaming rfl->TK
open PySem.Heap.SameBut renaming update->TN
open PySem.Builtin.Int renaming intBits->TQ
open Function renaming comp->U6
open PySem.Around renaming in1_handled->Ug,under_plain->Ui
open PySem.Heap.IsTuple renaming push->UC
open Option.some renaming injEq->UG
open Exists renaming intro->UH
open PySem.Heap.IsList renaming push->UY
open List.cons renaming injEq->Vu
open Prod renaming ext->VG
open Option renaming some->Z,none->N2
open Bool renaming true->Wi,false->Wj
open PySem renaming Addr->Wk
local macro_rules|`(tactic|let $d:letDecl)=>`(tactic|have $d:letDecl)
local macro_rules|`(tactic|let⟨$a,*⟩:=$e)=>do
 let rec f(n:Nat)(s:Lean.Syntax):Lean.MacroM (Lean.TSyntax `rcasesPat):=match n with
  |0=>Lean.Macro.throwUnsupported
  |n+1=>match s with
   |`(⟨$b,*⟩)=>do `(rcasesPat|⟨$[$(<-b.getElems.mapM (f n ·.raw)):rcasesPat],*⟩)
   |`(_)=>`(rcasesPat|_)
   |`($i:ident)=>`(rcasesPat|$i:ident)
   |_=>Lean.Macro.throwUnsupported
 `(tactic|obtain⟨$[$(<-a.getElems.mapM (f 9 ·.raw)):rcasesPat],*⟩:=$e)
local macro_rules|`((·))=>`(by decide)
local macro_rules|`((_))=>`(by simp)
local macro_rules|`(tactic|show $e:term)=>`(tactic|exact $e)
local macro_rules|`(tactic|calc $e:term)=>`(tactic|refine $e)
local macro_rules|`(command|def $i:declId $s:optDeclSig $v:declVal)=>do return (<-`(command|theorem $i:declId $(⟨.node .none ``Lean.Parser.Command.declSig #[s.raw[0],s.raw[1][0]]⟩):declSig $v:declVal)).raw.rewriteBottomUp (·.setInfo .none)
local macro_rules|`(command|abbrev $i:declId $s:optDeclSig $v:declVal)=>do return (<-`(command|noncomputable def $i:declId $s:optDeclSig $v:declVal)).raw.rewriteBottomUp (·.setInfo .none)
section
def Wl{a b c:Nat}(h:b<=c)(k:a<=b):a<=c:=Nat.le_trans k h
def Wm{a b c:Nat}(h:b<=c)(k:a+1<=b):a<=c-1:=Nat.le_sub_of_add_le (Nat.le_trans k h)
def Wn{a b:Nat}(h:Nat.ble (a+1) b=true):a<b:=Nat.le_of_ble_eq_true h
local macro_rules|`(∅)=>`(by first|with_reducible assumption|with_reducible show Nat.le_of_ble_eq_true rfl|with_reducible show Wn rfl|show Wl (by with_reducible assumption) (by with_reducible show Nat.le_of_ble_eq_true rfl)|show Wm (by with_reducible assumption) (by with_reducible show Nat.le_of_ble_eq_true rfl)|lia)
namespace L2
open PySem PySem.Spec PyProof.Rows
section
noncomputable abbrev Key:=Sum Int Str
abbrev im:Key->q7->Bool
 |.inl k,v=>Value.isInt k v
 |.inr x,v=>Value.isStrOf x v
abbrev FS(w:Mq):Key->Int
 |.inl k=>hashInt k
 |.inr x=>hashStr w x
def aW:∀{k:Key} {v:q7},im k v=Wi->(∃i t,k=Ss i/\v=UP i t)∨(∃x t,k=Su x/\v=UQ x t)
 |.inl i,v,h=>by let⟨t,e⟩:=Value.isInt_shape (k:=i) (v:=v) h;show .inl ⟨i,t,rfl,e⟩
 |.inr x,v,h=>by let⟨t,e⟩:=Value.isStrOf_shape (x:=x) (v:=v) h;show .inr ⟨x,t,rfl,e⟩
def uO(i:Int)(t:Tok):im (.inl i) (.int i t)=Wi:=by simp[im,Value.isInt]
def uP(x:Str)(t:Tok):im (.inr x) (.str x t)=Wi:=by simp[im,Value.isStrOf]
def Ch(a b:Int):decide ((Ss a:Key)=Ss b)=(a==b):=by
 by_cases e:a=b
 ·subst e;simp
 ·let h:¬(Ss a:Key)=Ss b:=λq=>e (Ss.inj q);rw[decide_eq_false h];show(beq_eq_false_iff_ne.mpr e).symm
def Ci(a b:Str):decide ((Su a:Key)=Su b)=decide (a=b):=by
 by_cases e:a=b
 ·subst e;simp
 ·let h:¬(Su a:Key)=Su b:=λq=>e (Su.inj q);rw[decide_eq_false h,decide_eq_false e]
def Cj(a:Int)(b:Str):decide ((Ss a:Key)=Su b)=Wj:=decide_eq_false (λq=>nomatch q)
def Ck(a:Str)(b:Int):decide ((Su a:Key)=Ss b)=Wj:=decide_eq_false (λq=>nomatch q)
abbrev aJ(prog:LN)(w:Mq):PySem.KeyKind prog w Key where
 is:=im
 hash:=FS w
 inj:=λv a b ha hb=>by
  rcases aW ha with⟨i,t,rfl,rfl⟩|⟨x,t,rfl,rfl⟩
  ·rcases aW hb with⟨j,u,rfl,e⟩|⟨y,u,rfl,e⟩
   ·injection e with e1 _;rw[e1]
   ·show nomatch e
  ·rcases aW hb with⟨j,u,rfl,e⟩|⟨y,u,rfl,e⟩
   ·show nomatch e
   ·injection e with e1 _;rw[e1]
 byValue:=λk v h=>by rcases aW h with⟨i,t,rfl,rfl⟩|⟨x,t,rfl,rfl⟩<;>rfl
 pyHash:=λhv h=>by
  rcases aW hv with⟨i,t,rfl,rfl⟩|⟨x,t,rfl,rfl⟩
  ·show wpAny_pyHash_int h
  ·show wpAny_pyHash_str h
 eqBool:=λhu hv h=>by
  rcases aW hu with⟨i,t,rfl,rfl⟩|⟨x,t,rfl,rfl⟩
  ·rcases aW hv with⟨j,u,rfl,rfl⟩|⟨y,u,rfl,rfl⟩
   ·rw[Ch]at h;show wpAny_eqBool_int h
   ·rw[Cj]at h;show SeqAt.EqAt.int_str i t y u _ _ _ _ h
  ·rcases aW hv with⟨j,u,rfl,rfl⟩|⟨y,u,rfl,rfl⟩
   ·rw[Ck]at h;show SeqAt.EqAt.str_int x t j u _ _ _ _ h
   ·rw[Ci]at h;show wpAny_eqBool_str h
 «strs»:=λk x t v h=>by
  rcases aW h with⟨i,u,rfl,e⟩|⟨y,u,rfl,e⟩
  ·show nomatch e
  ·injection e with e1 _
   subst e1
   cases v<;>rfl
def qU(prog:LN)(w:Mq)(i:Int)(t:Tok):(aJ prog w).is (.inl i) (.int i t)=Wi:=uO i t
def qV(prog:LN)(w:Mq)(x:Str)(t:Tok):(aJ prog w).is (.inr x) (.str x t)=Wi:=uP x t
end
variable{us:List q7}{a b:Wk}{P:LN}{w:Mq}{h:Heap}
section
inductive V where
 |non|bl (b:Bool)|int (i:Int)|str (x:Str)|byt (b:Array UInt8)|flt (b:UInt64)|ref (a:Wk)|ty (n:String)
 deriving DecidableEq
abbrev RelV:V->q7->Prop
 |.non,u=>u=Pg
 |.bl b,u=>u=U9 b
 |.int i,u=>∃t,u=UP i t
 |.str x,u=>∃t,u=UQ x t
 |.byt b,u=>∃t,u=Value.bytes b t
 |.flt b,u=>∃t,u=Value.float b t
 |.ref a,u=>u=MV a
 |.ty n,u=>u=Nt n
noncomputable abbrev Vals:List V->List q7->Prop:=Mh RelV
def Vals.length{xs:List V}(r:Vals xs us):xs.length=us.length:=NS r
def Vals.get:∀{xs:List V} {us:List q7} {i:Nat} {x:V},Vals xs us->xs[i]?=Z x->∃u,us[i]?=Z u/\RelV x u
 |_,_,_,_,.nil,e=>by simp at e
 |_,_,0,_,.cons r _,e=>by simp at e;subst e;show⟨_,rfl,r⟩
 |_,_,i+1,x,.cons _ t,e=>by
  let⟨u,h1,h2⟩:=Vals.get (i:=i) (x:=x) t (by simpa using e)
  show⟨u,by simpa using h1,h2⟩
def Vals.set{x:V}{u:q7}(r:RelV x u):∀{xs:List V} {us:List q7} (i:Nat),Vals xs us->Vals (xs.set i x) (us.set i u)
 |_,_,_,.nil=>.nil
 |_,_,0,.cons _ t=>.cons r t
 |_,_,i+1,.cons q t=>.cons q (Vals.set r i t)
def Vals.append:∀{xs ys:List V} {us ws:List q7},Vals xs us->Vals ys ws->Vals (xs++ys) (us++ws)
 |_,_,_,_,.nil,s=>s
 |_,_,_,_,.cons r t,s=>.cons r (Vals.append t s)
def Vals.take:∀{xs:List V} {us:List q7} (n:Nat),Vals xs us->Vals (xs.take n) (us.take n)
 |_,_,0,_=>.nil
 |_,_,_+1,.nil=>.nil
 |_,_,n+1,.cons r t=>.cons r (Vals.take n t)
def Vals.drop:∀{xs:List V} {us:List q7} (n:Nat),Vals xs us->Vals (xs.drop n) (us.drop n)
 |_,_,0,r=>r
 |_,_,_+1,.nil=>.nil
 |_,_,n+1,.cons _ t=>Vals.drop n t
abbrev RelO:Option V->Option q7->Prop
 |some v,Z u=>RelV v u
 |none,N2=>True
 |_,_=>False
abbrev KV{κ:Type}:List (κ×V)->List (κ×q7)->Prop:=Mh λ(p:κ×V) (q:κ×q7)=>p.1=q.1/\RelV p.2 q.2
abbrev kV:Key->V
 |.inl i=>.int i
 |.inr x=>.str x
inductive HO where
 |lst (xs:List V)
 |tup (xs:List V)
 |dK (kvs:List (Key×V))|dT (kvs:List (List Key×V))
 |set (S:Int->Bool) (n:Nat)
 |ins (C dx:Wk) (fs:List (Str×V))
 |own (x:Wk)
 |xd (fs:List (Str×V))
 |met (f x:Wk)
 |rng (lo hi:Int)
 |frz (o:Obj) (u:HO)
 |tbl (ps:Array q7)
 |ext (φ:Heap->Prop)
noncomputable abbrev Hp:=Wk->Option HO
abbrev upd(H:Hp)(a:Wk)(o:HO):Hp:=λb=>if b=a then Z o else H b
def aA{H:Hp}{o:HO}:upd H a o a=Z o:=by unfold upd;rw[if_pos rfl]
def am{H:Hp}{o:HO}(h:b≠a):upd H a o b=H b:=by unfold upd;rw[if_neg h]
def As{H:Hp}{o u:HO}:upd (upd H a o) a u=upd H a u:=by funext b;unfold upd;split<;>rfl
def sV{H:Hp}{o u:HO}(h:H a=Z o)(h':H b=Z u)(d:o≠u):a≠b:=by intro e;subst e;rw[h]at h';show d (LG.inj h')
def ba{H:Hp}{o:HO}(h:H a=Z o)(h':H b=N2):a≠b:=by intro e;subst e;rw[h]at h';cases h'
section
variable(P:LN)(w:Mq)
abbrev ObjOk(H:Hp)(h:Heap)(a:Wk):HO->Prop
 |.lst xs=>xs.length<=Lf/\∃(its:List q7) (n:Nat),Vals xs its/\h.get? a=Z {cls:=.type "list",data:=.seq its.toArray n}
 |.tup xs=>xs.length<=Lf/\∃its:List q7,Vals xs its/\IsTup h a its.toArray
 |.dK kvs=>kvs.length<=Lf/\(a==N3)=Wj/\∃vs,KV kvs vs/\h.DictOf (aJ P w) a vs
 |.dT kvs=>kvs.length<=Lf/\(a==N3)=Wj/\∃xs:List (List Key×Wk×q7),
  Mh (λ(p:List Key×V) (q:List Key×Wk×q7)=>p.1=q.1/\H q.2.1=Z (.tup (p.1.map kV))/\RelV p.2 q.2.2) kvs xs /\
  ∃o es ep,h.get? a=Z o/\o.ExactDict/\o.data=.dict es ep/\es.toList=xs.map (entryOfKey (PY (aJ P w)))/\(xs.map (·.1)).Nodup
 |.set S n=>h.SetOf (intKind P w) a S n
 |.ins C dx fs=>H dx=Z (.own a)/\fs.length<=1000/\dx≠a/\h.get? a=Z (SN C dx) /\
  ∃mA,h.Ns1 dx mA/\(∀f,RelO (fs.lookup f) (mA f))/\PySem.Within mA (fs.map (·.1))
 |.own _=>∃o,h.get? a=Z o
 |.xd fs=>∃mA,h.Ns1 a mA/\∀f,RelO (fs.lookup f) (mA f)
 |.rng lo hi=>∃t u v,h.get? a=Z {cls:=.type "range",data:=.fields #[.int lo t,.int hi u,.int 1 v]}
 |.frz o u=>h.get? a=Z o/\ObjOk H h a u
 |.tbl ps=>h.get? a=Z {cls:=.none,data:=.fields ps}
 |.met f x=>h.get? a=Z (RP (.ref f) (.ref x))
 |.ext φ=>φ h/\(∃o,h.get? a=Z o)/\∀h1 h2:Heap,φ h1->(∀o,h1.get? a=Z o->h2.get? a=Z o)->φ h2
abbrev HOk(H:Hp)(h:Heap):Prop:=∀a o,H a=Z o->ObjOk P w H h a o
end
section
variable{P:LN}{w:Mq}{H H':Hp}{h h':Heap}{a:Wk}{o:HO}
def ObjOk.lt(x:ObjOk P w H h a o):a<h.objs.size:=by
 cases o with
 |lst xs=>let⟨_,_,_,_,e⟩:=x;show Lr e
 |tup xs=>let⟨_,_,_,p⟩:=x;show p.lt
 |dK kvs=>let⟨_,_,_,_,o,_,_,e,_⟩:=x;show Lr e
 |dT kvs=>let⟨_,_,_,_,o,_,_,e,_⟩:=x;show Lr e
 |set S n=>let⟨o,_,_,_,e,_⟩:=x;show Lr e
 |ins C dx fs=>let⟨_,_,_,e,_⟩:=x;show Lr e
 |own y=>let⟨_,e⟩:=x;show Lr e
 |xd fs=>let⟨_,⟨_,_,_,e,_⟩,_⟩:=x;show Lr e
 |rng lo hi=>let⟨_,_,_,e⟩:=x;show Lr e
 |frz ob u=>let⟨e,_⟩:=x;show Lr e
 |tbl ps=>show Lr (show h.get? a=Z _ from x)
 |met f y=>show Lr (show h.get? a=Z _ from x)
 |ext φ=>let⟨_,⟨_,e⟩,_⟩:=x;show Lr e
def W2{α β:Type}{F G:α->β->Prop}:∀{l₁:List α} {l₂:List β},Mh F l₁ l₂->(∀a b,F a b->G a b)->Mh G l₁ l₂
 |_,_,.nil,_=>.nil
 |_,_,.cons r t,f=>.cons (f _ _ r) (W2 t f)
def ObjOk.stay(x:ObjOk P w H h a o)(k:∀b u,(b=a∨H b=Z (.own a))->h.get? b=Z u->h'.get? b=Z u)(ho:∀b,H b=Z (.own a)->H' b=Z (.own a))(j:∀b xs,H b=Z (.tup xs)->H' b=Z (.tup xs)):ObjOk P w H' h' a o:=by
 induction o with
 |lst xs=>let⟨z,its,n,r,e⟩:=x;show⟨z,its,n,r,k _ _ (.inl rfl) e⟩
 |tup xs=>let⟨z,its,r,ob,e,c⟩:=x;show⟨z,its,r,ob,k _ _ (.inl rfl) e,c⟩
 |dK kvs=>let⟨z,y,vs,r,ob,es,ep,e,c⟩:=x;show⟨z,y,vs,r,ob,es,ep,k _ _ (.inl rfl) e,c⟩
 |dT kvs=>let⟨z,y,xs,r,ob,es,ep,e,c⟩:=x;show⟨z,y,xs,W2 r λp q z=>⟨z.1,j _ _ z.2.1,z.2.2⟩,ob,es,ep,k _ _ (.inl rfl) e,c⟩
 |set S n=>let⟨ob,es,ep,t,e,c⟩:=x;show⟨ob,es,ep,t,k _ _ (.inl rfl) e,c⟩
 |ins C dx fs=>let⟨d,z,ne,e,mA,⟨od,es,ep,B,c⟩,r⟩:=x;show⟨ho _ d,z,ne,k _ _ (.inl rfl) e,mA,⟨od,es,ep,k _ _ (.inr d) B,c⟩,r⟩
 |own y=>let⟨ob,e⟩:=x;show⟨ob,k _ _ (.inl rfl) e⟩
 |xd fs=>let⟨mA,⟨od,es,ep,e,c⟩,r⟩:=x;show⟨mA,⟨od,es,ep,k _ _ (.inl rfl) e,c⟩,r⟩
 |rng lo hi=>let⟨t,u,v,e⟩:=x;show⟨t,u,v,k _ _ (.inl rfl) e⟩
 |frz ob u ih=>let⟨e,q⟩:=x;show⟨k _ _ (.inl rfl) e,ih q⟩
 |tbl ps=>let e:h.get? a=Z {cls:=.none,data:=.fields ps}:=x;change h'.get? a=Z {cls:=.none,data:=.fields ps};show k a _ (.inl rfl) e
 |met f y=>let e:h.get? a=Z (RP (.ref f) (.ref y)):=x;change h'.get? a=Z (RP (.ref f) (.ref y));show k a _ (.inl rfl) e
 |ext φ=>let⟨p,⟨o,e⟩,st⟩:=x;show⟨st _ _ p λo q=>k _ _ (.inl rfl) q,⟨o,k _ _ (.inl rfl) e⟩,st⟩
def HOk.lt(x:HOk P w H h)(e:H a=Z o):a<h.objs.size:=(x a o e).lt
def HOk.fresh(x:HOk P w H h)(e:h.objs.size<=a):H a=N2:=by
 cases q:H a with
 |none=>rfl
 |some u=>show absurd (LZ (x.lt q) e) (NJ _)
def HOk.kept(x:HOk P w H h)(k:∀b u,h.get? b=Z u->h'.get? b=Z u):HOk P w H h':=λa o e=>(x a o e).stay (λb u _ q=>k b u q) (λ_ q=>q) λ_ _ q=>q
def HOk.laid(x:HOk P w H h)(k:∀b u,h.get? b=Z u->h'.get? b=Z u)(z:h.objs.size<=a)(new:ObjOk P w (upd H a o) h' a o):HOk P w (upd H a o) h':=λb u e=>by
 let j:=x.fresh z
 by_cases hb:b=a
 ·subst hb;rw[aA]at e;cases e;show new
 ·rw[am hb]at e;show(x b u e).stay (λc v _ q=>k c v q) (λc q=>by rw[am (ba q j)];show q) λc xs q=>by rw[am (ba q j)];show q
end
abbrev Rd(H:Hp)(a:Wk)(u:HO):Prop:=H a=Z u∨∃o,H a=Z (.frz o u)
def Rd.of{H:Hp}{u:HO}(h:H a=Z u):Rd H a u:=.inl h
def Rd.ok{H:Hp}{u:HO}(r:Rd H a u)(x:HOk P w H h):ObjOk P w H h a u:=by
 rcases r with r|⟨o,r⟩
 ·show x a u r
 ·let⟨_,q⟩:=x a _ r;show q
abbrev Mut:Option HO->Prop
 |some (.lst _)=>True
 |some (.dK _)=>True
 |some (.dT _)=>True
 |some (.set _ _)=>True
 |some (.ins _ _ _)=>True
 |some (.ext _)=>True
 |_=>False
section
variable{P:LN}{w:Mq}{H:Hp}{h h':Heap}{x e:Wk}{o':HO}
def HOk.write(ok:HOk P w H h)(mu:Mut (H x))(he:e=x∨H e=Z (.own x))(k:∀b u,b≠e->h.get? b=Z u->h'.get? b=Z u)(F:∃u,h'.get? e=Z u)(new:ObjOk P w (upd H x o') h' x o'):HOk P w (upd H x o') h':=λb u q=>by
 let nown:∀c y,H c=Z (.own y)->c≠x:=λc y r z=>by subst z;rw[r]at mu;show mu
 let ntup:∀c xs,H c=Z (.tup xs)->c≠x:=λc xs r z=>by subst z;rw[r]at mu;show mu
 by_cases hb:b=x
 ·subst hb;rw[aA]at q;cases q;show new
 ·rw[am hb]at q
  by_cases j:b=e
  ·let q':H b=Z (.own x):=by
    rcases he with z|z
    ·show absurd (j.trans z) hb
    ·rw[j];show z
   rw[q]at q';cases q';let⟨v,G⟩:=F;show⟨v,by rw[j];show G⟩
  ·refine(ok b u q).stay (λc v B r=>k c v ?_ r) (λc r=>by rw[am (nown c b r)];show r) λc xs r=>by rw[am (ntup c xs r)];show r
   rcases B with rfl|B
   ·show j
   ·rintro rfl
    rcases he with z|z
    ·show nown c b B z
    ·rw[B]at z;cases z;show hb rfl
end
structure Un(fs ex:List Wk)(H H':Hp)(h h':Heap):Prop where
 keep:∀b o,h.get? b=Z o->H b=N2->b∉fs->b∉ex->h'.get? b=Z o
 slot:∀b o,h.get? b=Z o->H b=N2->b∈fs->b∉ex->∃sl,h'.get? b=Z {o with slots:=sl}
 free:∀b o,h.get? b=Z o->H b=N2->b∉ex->H' b=N2
 there:∀b o,h.get? b=Z o->b∉ex->∃o',h'.get? b=Z o'
 tups:∀b xs,H b=Z (.tup xs)->H' b=Z (.tup xs)
 frzs:∀b o u,H b=Z (.frz o u)->H' b=Z (.frz o u)
 tbls:∀b ps,H b=Z (.tbl ps)->∃more,H' b=Z (.tbl (ps++more))
section
variable{fs fs' ex ex':List Wk}{H H1 H2:Hp}{h h1 h2 h':Heap}{a x e:Wk}{o:HO}
def Un.any(u:Un fs ex H H1 h h1){ob:Obj}(q:h.get? b=Z ob)(n:H b=N2)(hx:b∉ex):∃sl,h1.get? b=Z {ob with slots:=sl}:=by
 by_cases j:b∈fs
 ·show u.slot b ob q n j hx
 ·show⟨ob.slots,u.keep b ob q n j hx⟩
def Un.kept(k:∀b u,h.get? b=Z u->h'.get? b=Z u):Un fs ex H H h h':=⟨λb ob q _ _ _=>k b ob q,λb ob q _ _ _=>⟨ob.slots,k b ob q⟩,λ_ _ _ n _=>n,λb ob q _=>⟨ob,k b ob q⟩,λ_ _ q=>q,λ_ _ _ q=>q,λ_ ps q=>⟨#[],by rw[q];simp⟩⟩
def Un.refl:Un fs ex H H h h:=Un.kept λ_ _ q=>q
def Un.laid(k:∀b u,h.get? b=Z u->h'.get? b=Z u)(z:h.objs.size<=a)(j:H a=N2):Un fs ex H (upd H a o) h h' where
 keep:=λb u q _ _ _=>k b u q
 slot:=λb u q _ _ _=>⟨u.slots,k b u q⟩
 free:=λb u q n _=>by rw[am (Md (LZ (Lr q) z))];show n
 there:=λb u q _=>⟨u,k b u q⟩
 tups:=λb xs q=>by rw[am (ba q j)];show q
 frzs:=λb u xs q=>by rw[am (ba q j)];show q
 tbls:=λb ps q=>⟨#[],by rw[am (ba q j),q];simp⟩
def Un.write(mu:Mut (H x))(he:e=x∨H e=Z (.own x))(k:∀b u,b≠e->h.get? b=Z u->h'.get? b=Z u)(B:∃u,h'.get? e=Z u):Un fs ex H (upd H x o) h h':=by
 let hx:∀b,H b=N2->b≠x:=λb n z=>by subst z;rw[n]at mu;show mu
 let F:∀b,H b=N2->b≠e:=λb n z=>by
  subst z
  rcases he with r|r
  ·show hx b n r
  ·rw[n]at r;cases r
 let hm:∀b u,H b=Z u->¬Mut (Z u)->b≠x:=λb u q nm z=>by subst z;rw[q]at mu;show nm mu
 refine⟨λb u q n _ _=>k b u (F b n) q,λb u q n _ _=>⟨u.slots,k b u (F b n) q⟩,λb u q n _=>by rw[am (hx b n)];show n,λb u q _=>?_,
  λb xs q=>by rw[am (hm b _ q λz=>z)];show q,λb u xs q=>by rw[am (hm b _ q λz=>z)];show q,λb ps q=>⟨#[],by rw[am (hm b _ q λz=>z),q];simp⟩⟩
 by_cases j:b=e
 ·subst j;show B
 ·show⟨u,k b u j q⟩
end
abbrev trk(h:Heap)(H:Hp):List Wk:=(Lc h.objs.size).filter λa=>(H a).isSome
abbrev fR(h:Heap)(H:Hp):Heap:=PySem.W.hideAll h (trk h H)
def uQ(h:Heap)(H:Hp):(fR h H).objs.size=h.objs.size:=PySem.W.hideAll_size _ _
def xJ{H:Hp}{o:Obj}(e:h.get? b=Z o)(n:H b=N2):(fR h H).get? b=Z o:=
 PySem.W.hideAll_get _ e λhm=>by let q:(H b).isSome=Wi:=(LM.mp hm).2;rw[n]at q;simp at q
def Au{H:Hp}{o:Obj}(e:(fR h H).get? b=Z o):h.get? b=Z o/\H b=N2:=by
 let e':h.get? b=Z o:=PySem.W.of_hideAll (trk h H) e;refine⟨e',?_⟩
 cases q:H b with
 |none=>rfl
 |some x=>
  let hm:b∈trk h H:=LM.mpr ⟨LP.mpr (Lr e'),by simp[q]⟩
  let z:(fR h H).get? b=N2:=PySem.W.hideAll_none (trk h H) hm;rw[z]at e;cases e
abbrev Av(g h:Heap)(L:Wk):List (Wk×Obj):=(Lc h.objs.size).filterMap λa=>if a=L∨(g.get? a).isSome=Wi then N2 else(h.get? a).map λo=>(a,o)
abbrev rest(g h:Heap)(L d:Wk):List (Wk×Obj):=(Av g h L).filter λp=>decide (p.1≠d)
end
variable{H:Hp}{o:HO}{u:q7}{t' i:Nat}{x:Str}{e:Expr}{N:List Str}{M:QE}{A:Mz}{v:V}{s:J4}
section
structure Mod(K:Frag)(mg:Str->Option q7)(base:Heap):Prop where
 kin:K.In base
 glob:base.Ns MW mg
 blt:∃mb,base.Ns VB mb/\∀x:Str,x≠"__name__"->mb x=Ph x
 nolimit:base.NoLimit
structure Cx where
 prog:LN
 w:Mq
 K:Frag
 mg:Str->Option q7
 base:Heap
 A:Mz
 N:List Str
 s₀:J4
 H₀:Hp
 env:Env
 outer:List Env
 stack:List Env
 ex:List Wk
 fn:Str->Bool
 calm:Bool
 pn:List (Wk×Obj)
 xe:q7->J4->Prop
abbrev frs(l:List Env):List Wk:=l.filterMap (·.frame)
noncomputable abbrev Cx.fs(X:Cx):List Wk:=frs X.outer
abbrev Vis(sc:Scope)(x:Str):Prop:=sc.names.lookup x=Z .local∨sc.names.lookup x=Z .cell∨sc.names.lookup x=Z .free
abbrev Loc(sc:Scope)(x:Str):Prop:=sc.names.lookup x=Z .local∨sc.names.lookup x=Z .cell
abbrev FT(env:Env)(h:Heap)(m:Str->Option q7)(x:Str)(u:q7):Prop:=(env.kindOf x=Z .local/\m x=Z u)∨((env.kindOf x=Z .cell∨env.kindOf x=Z .free)/\∃c,env.cells.lookup x=Z c/\h.IsCell c (Z u))
structure Cx.Ok(X:Cx):Prop where
 mod:Mod X.K X.mg X.base
 kind:X.env.scope.kind=.function
 glob:X.env.globals=MW
 blt:X.env.builtins=VB
 above:X.s₀.heap.objs.size<=X.env.locals
 inj:∀x y c,X.env.cells.lookup x=Z c->X.env.cells.lookup y=Z c->x=y
 has:∀x,(X.env.kindOf x=Z .cell∨X.env.kindOf x=Z .free)->∃c,X.env.cells.lookup x=Z c
 cab:∀x c,X.fn x=Wi->X.env.cells.lookup x=Z c->X.s₀.heap.objs.size<=c
 hd:X.calm=Wi->X.A.handled=N2
 frames:X.A.frames=Z X.stack
 stk:X.stack=X.outer∨(X.stack=X.env::X.outer/\X.env.frame=Z X.env.locals)
 exf:∀b∈X.ex,b≠X.env.locals/\∀x c,X.env.cells.lookup x=Z c->c≠b
 bs:∀b o,X.base.get? b=Z o->X.s₀.heap.get? b=Z o/\X.H₀ b=N2
 bsz:X.base.objs.size<=X.s₀.heap.objs.size
 noex:∀b o,X.base.get? b=Z o->b∉X.ex
 exfs:∀b∈X.ex,b∉X.fs
 funs:X.s₀.heap.FunFrames X.base X.outer
 frf:∀b∈X.fs,X.H₀ b=N2
structure Inv(X:Cx)(pins:List (Wk×Obj))(σ:List (Option V))(H:Hp)(s:J4):Prop where
 ok:X.Ok
 os:s.os=X.s₀.os
 bare:RQ s.gens
 base:Un X.fs X.ex X.H₀ H X.s₀.heap s.heap
 loc:∃m,s.heap.Ns X.env.locals m/\∀(i:Nat) (x:Str) (v:V),X.N[i]?=Z x->σ[i]?=Z (Z v)->Vis X.env.scope x->∃u,RelV v u/\FT X.env s.heap m x u
 cell:∀x c,X.env.cells.lookup x=Z c->∃v,s.heap.IsCell c v
 free:H X.env.locals=N2
 freeC:∀x c,X.env.cells.lookup x=Z c->H c=N2
 pin:∀p∈X.pn++pins,s.heap.get? p.1=Z p.2/\H p.1=N2/\p.1≠X.env.locals/\p.1∉X.fs/\∀v,p.2.data≠.cell v
 hok:HOk X.prog X.w H s.heap
 len:σ.length=X.N.length
section
variable{X:Cx}{pins:List (Wk×Obj)}{σ:List (Option V)}{H H':Hp}{s:J4}{h':Heap}
def Cx.Ok.nofr(ok:X.Ok){o:Obj}(e:X.base.get? b=Z o):b∉X.fs:=λj=>by let:=(ok.funs.mem j).1;rw[e]at this;cases this
def Inv.bs(I:Inv X pins σ H s):∀b o,X.base.get? b=Z o->s.heap.get? b=Z o/\H b=N2:=λb o e=>⟨I.base.keep b o (I.ok.bs b o e).1 (I.ok.bs b o e).2 (I.ok.nofr e) (I.ok.noex b o e),I.base.free b o (I.ok.bs b o e).1 (I.ok.bs b o e).2 (I.ok.noex b o e)⟩
def Inv.bk(I:Inv X pins σ H s):∀b o,X.base.get? b=Z o->s.heap.get? b=Z o:=λb o e=>(I.bs b o e).1
def Inv.mod(I:Inv X pins σ H s):Mod X.K X.mg X.base:=I.ok.mod
def Inv.kIn(I:Inv X pins σ H s):X.K.In s.heap:=I.ok.mod.kin.keeps I.bk
def Inv.lt(I:Inv X pins σ H s):X.env.locals<s.heap.objs.size:=let⟨_,j,_⟩:=I.loc;j.lt
def Inv.sz(I:Inv X pins σ H s):X.s₀.heap.objs.size<=s.heap.objs.size:=Ml I.ok.above (PZ I.lt)
def Inv.nofs(I:Inv X pins σ H s)(h:s.heap.objs.size<=a):a∉X.fs:=λj=>by let⟨_,o,ho,_⟩:=I.ok.funs.mem j;show absurd (LZ (Lr ho) (Ml I.sz h)) (NJ _)
def Inv.cne(I:Inv X pins σ H s):∀x c,X.env.cells.lookup x=Z c->c≠X.env.locals:=λx c e z=>by let⟨v,o,ho,hd⟩:=I.cell x c e;let⟨m,⟨o',es,ep,j,q,_⟩,_⟩:=I.loc;rw[z,j]at ho;cases ho;rw[q]at hd;cases hd
def Inv.funs(I:Inv X pins σ H s):s.heap.FunFrames X.base X.outer:=by
 let all:∀(l:List Env),(∀b∈frs l,b∈X.fs)->X.s₀.heap.FunFrames X.base l->s.heap.FunFrames X.base l:=by
  intro l
  induction l with
  |nil=>intro _ _;trivial
  |cons env r ih=>
   intro hs B;let⟨F,⟨L,o,hf,G,ho,hd⟩,J⟩:=B;let j:L∈X.fs:=hs L (by unfold frs;rw[Ra,hf];show Ld)
   let⟨sl,e⟩:=I.base.slot L o ho (I.ok.frf L j) j λz=>I.ok.exfs L z j;show⟨F,⟨L,_,hf,G,e,hd⟩,ih (λb q=>hs b (by unfold frs;rw[Ra,hf];show L4 _ q)) J⟩
 show all X.outer (λ_ q=>q) I.ok.funs
def Inv.stack(I:Inv X pins σ H s):s.heap.FunFrames X.base X.stack:=by
 rcases I.ok.stk with e|⟨e,hf⟩
 ·rw[e];show I.funs
 ·rw[e];let⟨m,j,_⟩:=I.loc;refine .cons (by rw[I.ok.kind];decide) hf j ?_ I.funs
  show Heap.get?_none_of_le (Ml I.ok.bsz I.ok.above)
def Inv.stkSub(I:Inv X pins σ H s):∀b∈frs X.stack,b∈X.env.locals::X.fs:=λb j=>by
 rcases I.ok.stk with e|⟨e,hf⟩
 ·rw[e]at j;show L4 _ j
 ·rw[e]at j;unfold frs at j;rw[Ra,hf]at j;show j
def Inv.stkFree(I:Inv X pins σ H s):∀b∈frs X.stack,H b=N2:=λb j=>by
 rcases Lm.mp (I.stkSub b j)with e|j
 ·rw[e];show I.free
 ·let⟨_,o,ho,_⟩:=I.ok.funs.mem j;show I.base.free b o ho (I.ok.frf b j) λz=>I.ok.exfs b z j
def Inv.step{g':Array GenState}{d':Drawn}{ch:List Wk}(I:Inv X pins σ H s)(j:∀b∈ch,(b∈X.ex∨X.s₀.heap.objs.size<=b)/\b≠X.env.locals/\(∀x c,X.env.cells.lookup x=Z c->c≠b)/\∀p∈X.pn++pins,p.1≠b)(keep:∀b o,b≠X.env.locals->b∉X.fs->b∉ch->s.heap.get? b=Z o->H b=N2->h'.get? b=Z o)(slot:∀b o,b≠X.env.locals->b∈X.fs->b∉ch->s.heap.get? b=Z o->H b=N2->∃sl,h'.get? b=Z {o with slots:=sl})(free:∀b o,b∉ch->s.heap.get? b=Z o->H b=N2->H' b=N2)(there:∀b o,b∉ch->s.heap.get? b=Z o->∃o',h'.get? b=Z o')(tups:∀b xs,H b=Z (.tup xs)->H' b=Z (.tup xs))(frzs:∀b o u,H b=Z (.frz o u)->H' b=Z (.frz o u))(tbls:∀b ps,H b=Z (.tbl ps)->∃more,H' b=Z (.tbl (ps++more)))(ns:∀m,s.heap.Ns X.env.locals m->h'.Ns X.env.locals m)(hok:HOk X.prog X.w H' h')(O:RQ g'):
 Inv X pins σ H' {s with heap:=h',gens:=g',drawn:=d',toks:=t'}:=by
 let neL:∀b o,X.s₀.heap.get? b=Z o->b≠X.env.locals:=λb o e=>Md (LZ (Lr e) I.ok.above);let neC:∀b o,X.s₀.heap.get? b=Z o->b∉X.ex->b∉ch:=λb o e hx F=>by
  rcases(j b F).1 with z|z
  ·show hx z
  ·show absurd (LZ (Lr e) z) (NJ _)
 let cellK:∀x c,X.env.cells.lookup x=Z c->∀v,s.heap.IsCell c v->h'.IsCell c v:=λx c e v ⟨o,ho,hd⟩=>by
  let nch:c∉ch:=λz=>(j c z).2.2.1 x c e rfl
  by_cases J:c∈X.fs
  ·let⟨sl,q⟩:=slot c o (I.cne x c e) J nch ho (I.freeC x c e);show⟨_,q,hd⟩
  ·show⟨o,keep c o (I.cne x c e) J nch ho (I.freeC x c e),hd⟩
 refine⟨I.ok,I.os,O,⟨λb o e n F hx=>?_,λb o e n F hx=>?_,λb o e n hx=>?_,λb o e hx=>?_,λb xs e=>tups b xs (I.base.tups b xs e),λb o xs e=>frzs b o xs (I.base.frzs b o xs e),λb ps e=>?_⟩,?_,λx c e=>?_,?_,λx c e=>?_,λp L=>?_,hok,I.len⟩
 ·show keep b o (neL b o e) F (neC b o e hx) (I.base.keep b o e n F hx) (I.base.free b o e n hx)
 ·let⟨sl,B⟩:=I.base.slot b o e n F hx;let⟨sl',G⟩:=slot b _ (neL b o e) F (neC b o e hx) B (I.base.free b o e n hx);show⟨sl',G⟩
 ·let⟨o',B⟩:=I.base.there b o e hx;show free b o' (neC b o e hx) B (I.base.free b o e n hx)
 ·let⟨o',B⟩:=I.base.there b o e hx;show there b o' (neC b o e hx) B
 ·let⟨U,B⟩:=I.base.tbls b ps e;let⟨Y,G⟩:=tbls b _ B;show⟨U++Y,by rw[G,Array.append_assoc]⟩
 ·let⟨m,fv,hl⟩:=I.loc;calc⟨m,ns m fv,λi x v B G e3=>?_⟩;let⟨u,r,l⟩:=hl i x v B G e3;refine⟨u,r,?_⟩
  rcases l with l|⟨k,c,e,z⟩
  ·show .inl l
  ·show .inr ⟨k,c,e,cellK x c e _ z⟩
 ·let⟨v,z⟩:=I.cell x c e;show⟨v,cellK x c e v z⟩
 ·let⟨m,⟨o,_,_,ho,_⟩,_⟩:=I.loc;show free _ o (λz=>(j _ z).2.1 rfl) ho I.free
 ·let⟨v,o,ho,hd⟩:=I.cell x c e;show free c o (λz=>(j c z).2.2.1 x c e rfl) ho (I.freeC x c e)
 ·let⟨e,n,ne,nf,d⟩:=I.pin p L;let nch:p.1∉ch:=λz=>(j p.1 z).2.2.2 p L rfl;show⟨keep p.1 p.2 ne nf nch e n,free p.1 p.2 nch e n,ne,nf,d⟩
def Inv.un(I:Inv X pins σ H s)(u:Un X.fs [] H H' s.heap h')(hok:HOk X.prog X.w H' h'):Inv X pins σ H' {s with heap:=h',toks:=t'}:=by
 let⟨m,⟨o,es,ep,ho,r⟩,_⟩:=id I.loc;let⟨sl,B⟩:=u.any ho I.free (_)
 show I.step (g':=s.gens) (d':=s.drawn) (ch:=[]) (λ_ z=>nomatch z) (λb o _ q _ e n=>u.keep b o e n q (_)) (λb o _ q _ e n=>u.slot b o e n q (_)) (λb o _ e n=>u.free b o e n (_)) (λb o _ e=>u.there b o e (_)) u.tups u.frzs u.tbls (λm' hm=>by let⟨o',es',ep',j,r'⟩:=hm;rw[ho]at j;cases j;show⟨_,es',ep',B,r'⟩) hok I.bare
def Inv.call{g':Array GenState}{d':Drawn}{ch:List Wk}(I:Inv X pins σ H s)(u:Un (frs X.stack) ch H H' s.heap h')(hok:HOk X.prog X.w H' h')(G:RQ g')(q:∀b∈ch,(b∈X.ex∨X.s₀.heap.objs.size<=b)/\b≠X.env.locals/\(∀x c,X.env.cells.lookup x=Z c->c≠b)/\∀p∈X.pn++pins,p.1≠b):
 Inv X pins σ H' {s with heap:=h',gens:=g',drawn:=d',toks:=t'}:=by
 let⟨m,⟨o,es,ep,ho,r⟩,_⟩:=id I.loc;let⟨sl,F⟩:=u.any ho I.free λz=>(q _ z).2.1 rfl;show I.step (ch:=ch) q (λb o F J j e n=>u.keep b o e n (λz=>(Lm.mp (I.stkSub b z)).elim F J) j) (λb o _ _ j e n=>u.any e n j) (λb o j e n=>u.free b o e n j) (λb o j e=>u.there b o e j) u.tups u.frzs u.tbls (λm' hm=>by let⟨o',es',ep',B,r'⟩:=hm;rw[ho]at B;cases B;show⟨_,es',ep',F,r'⟩) hok G
def Inv.turned{it:Wk}(I:Inv X pins σ H s)(k:∀b o,b≠it->s.heap.get? b=Z o->h'.get? b=Z o)(F:H it=N2)(B:it≠X.env.locals)(h1:it∈X.ex∨X.s₀.heap.objs.size<=it)(h2:∀x c,X.env.cells.lookup x=Z c->c≠it)(G:∀p∈X.pn++pins,p.1≠it):Inv X pins σ H {s with heap:=h',toks:=t'}:=by
 let nit:∀b u,H b=Z u->b≠it:=λb u e z=>by rw[z,F]at e;cases e
 refine I.step (g':=s.gens) (d':=s.drawn) (ch:=[it]) (λb J=>?_) (λb o _ _ j e _=>k b o (λz=>j (by simp[z])) e) (λb o _ _ j e _=>⟨o.slots,k b o (λz=>j (by simp[z])) e⟩) (λ_ _ _ _ n=>n)
  (λb o j e=>⟨o,k b o (λz=>j (by simp[z])) e⟩) (λ_ _ e=>e) (λ_ _ _ e=>e) (λb ps e=>⟨#[],by rw[e];simp⟩) (λm hm=>?_) (λb u e=>?_) I.bare
 ·let e:b=it:=by simpa using J
  subst e;show⟨h1,B,h2,G⟩
 ·let⟨o,es,ep,ho,r⟩:=hm;show⟨o,es,ep,k _ o (Ne.symm B) ho,r⟩
 ·refine(I.hok b u e).stay (λc v j q=>k c v ?_ q) (λ_ q=>q) λ_ _ q=>q
  rcases j with z|z
  ·rw[z];show nit b u e
  ·show nit c _ z
def Inv.tok(I:Inv X pins σ H s)(t:Nat):Inv X pins σ H {s with toks:=t}:=I.un (h':=s.heap) (t':=t) Un.refl I.hok
def Inv.kept(I:Inv X pins σ H s)(k:∀b u,s.heap.get? b=Z u->h'.get? b=Z u):Inv X pins σ H {s with heap:=h',toks:=t'}:=I.un (Un.kept k) (I.hok.kept k)
def Inv.laid(I:Inv X pins σ H s)(k:∀b u,s.heap.get? b=Z u->h'.get? b=Z u)(j:s.heap.objs.size<=a)(new:ObjOk X.prog X.w (upd H a o) h' a o):Inv X pins σ (upd H a o) {s with heap:=h',toks:=t'}:=I.un (Un.laid k j (I.hok.fresh j)) (I.hok.laid k j new)
def Inv.write{x e:Wk}(I:Inv X pins σ H s)(mu:Mut (H x))(he:e=x∨H e=Z (.own x))(k:∀b u,b≠e->s.heap.get? b=Z u->h'.get? b=Z u)(j:∃u,h'.get? e=Z u)(new:ObjOk X.prog X.w (upd H x o) h' x o):Inv X pins σ (upd H x o) {s with heap:=h',toks:=t'}:=I.un (Un.write mu he k j) (I.hok.write mu he k j new)
def Inv.pins_of{pins':List (Wk×Obj)}(I:Inv X pins σ H s)(h:∀p∈pins',s.heap.get? p.1=Z p.2/\H p.1=N2/\p.1≠X.env.locals/\p.1∉X.fs/\∀v,p.2.data≠.cell v):Inv X pins' σ H s:=⟨I.ok,I.os,I.bare,I.base,I.loc,I.cell,I.free,I.freeC,λp j=>(Lb.mp j).elim (λz=>I.pin p (Nu _ z)) (h p),I.hok,I.len⟩
def ox(q:N.Nodup){j:Nat}(a:N[i]?=Z x)(b:N[j]?=Z x):i=j:=by let⟨h1,z⟩:=L5.mp a;let⟨h2,B⟩:=L5.mp b;show(List.getElem_inj q).mp (z.trans B.symm)
def uR{E:q7->J4->Prop}{Q:Unit->J4->Prop}(I:Inv X pins σ H s)(hN:X.N.Nodup)(hi:X.N[i]?=Z x)(hx:Loc X.env.scope x)(r:RelV v u)(h:∀s',Inv X pins (σ.set i (Z v)) H s'->(∃a,NM a s.heap s'.heap/\(a=X.env.locals∨X.env.cells.lookup x=Z a))->Q () s')(hf:X.fn x=Wi∨X.env.scope.names.lookup x=Z .local:=by first|show .inl rfl|show .inr rfl|assumption):Lu M A (storeName X.env x u) Q E s:=by
 let⟨m,hn,hl⟩:=id I.loc;let fv:(X.env.scope.kind==.class || (X.env.scope.kind==.module&&X.env.locals != X.env.globals))=Wj:=by rw[I.ok.kind];rfl
 let IK:i<σ.length:=by rw[I.len];show(L5.mp hi).1
 let cne:=I.cne;let tracked:∀{a:Wk} {h':Heap},(∃o,s.heap.get? a=Z o/\H a=N2)->NM a s.heap h'->HOk X.prog X.w H h':=λ{a h'} ha hs b ob e=>by
  let⟨_,_,G⟩:=ha;calc(I.hok b ob e).stay (λc w' F q=>(hs.2 c ?_).trans q) (λ_ q=>q) λ_ _ q=>q;rintro rfl
  rcases F with rfl|F
  ·rw[G]at e;cases e
  ·rw[G]at F;cases F
 rcases hx with L|L
 ·calc wpAny_storeName_local L hn (λh' IQ hs=>?_) fv;let⟨oL,_,_,IR,_⟩:=id hn;refine h _ ⟨I.ok,I.os,I.bare,⟨λb o e n O hx=>?_,λb o e n O hx=>?_,I.base.free,λb o e hx=>?_,I.base.tups,I.base.frzs,I.base.tbls⟩,⟨_,IQ,λj y v' B J e3=>?_⟩,λy c e=>?_,I.free,I.freeC,λp hp=>?_,tracked ⟨oL,IR,I.free⟩ hs,by simpa using I.len⟩ ⟨_,hs,.inl rfl⟩
  ·show(hs.2 b (Md (LZ (Lr e) I.ok.above))).trans (I.base.keep b o e n O hx)
  ·let⟨sl,B⟩:=I.base.slot b o e n O hx;show⟨sl,(hs.2 b (Md (LZ (Lr e) I.ok.above))).trans B⟩
  ·let⟨o',B⟩:=I.base.there b o e hx;show⟨o',(hs.2 b (Md (LZ (Lr e) I.ok.above))).trans B⟩
  ·by_cases U:j=i
   ·subst U;rw[hi]at B;cases B;rw[Nx IK]at J
    cases J
    show⟨u,r,.inl ⟨L,by simp⟩⟩
   ·rw[Oe (Ne.symm U)]at J;let⟨u',r',q⟩:=hl j y v' B J e3;refine⟨u',r',?_⟩
    rcases q with⟨k,e⟩|⟨k,c,e,z⟩
    ·calc .inl ⟨k,?_⟩;let:y≠x:=λe=>U (ox hN B (e▸hi));simp[this,e]
    ·show .inr ⟨k,c,e,z.sameBut hs (cne y c e)⟩
  ·let⟨w',z⟩:=I.cell y c e;show⟨w',z.sameBut hs (cne y c e)⟩
  ·let⟨e,n,ne,nf,d⟩:=I.pin p hp;show⟨(hs.2 p.1 ne).trans e,n,ne,nf,d⟩
 ·let Y:X.fn x=Wi:=by
   rcases hf with z|z
   ·show z
   ·rw[z]at L;cases L
  let⟨c,F⟩:=I.ok.has x (.inl L);let⟨w',z⟩:=I.cell x c F;calc wpAny_storeName_cell I.ok.kind L F z (λh' IM hs=>?_);let⟨oc,IN,IO⟩:=id z;refine h {s with heap:=h'} ⟨I.ok,I.os,I.bare,⟨λb o e n O hx=>?_,λb o e n O hx=>?_,I.base.free,λb o e hx=>?_,I.base.tups,I.base.frzs,I.base.tbls⟩,⟨m,hn.sameBut hs (Ne.symm (cne x c F)),λj y v' B J e3=>?_⟩,λy c' e=>?_,I.free,I.freeC,λp hp=>?_,tracked ⟨oc,IN,I.freeC x c F⟩ hs,by simpa using I.len⟩ ⟨c,hs,.inr F⟩
  ·show(hs.2 b (Md (LZ (Lr e) (I.ok.cab x c Y F)))).trans (I.base.keep b o e n O hx)
  ·let⟨sl,B⟩:=I.base.slot b o e n O hx;show⟨sl,(hs.2 b (Md (LZ (Lr e) (I.ok.cab x c Y F)))).trans B⟩
  ·let⟨o',B⟩:=I.base.there b o e hx;show⟨o',(hs.2 b (Md (LZ (Lr e) (I.ok.cab x c Y F)))).trans B⟩
  ·by_cases U:j=i
   ·subst U;rw[hi]at B;cases B;rw[Nx IK]at J
    cases J
    show⟨u,r,.inr ⟨.inl L,c,F,IM⟩⟩
   ·rw[Oe (Ne.symm U)]at J;let⟨u',r',q⟩:=hl j y v' B J e3;refine⟨u',r',?_⟩
    rcases q with q|⟨k,c',e,z'⟩
    ·show .inl q
    ·calc .inr ⟨k,c',e,z'.sameBut hs ?_⟩;rintro rfl;show U (ox hN B (I.ok.inj _ _ _ e F▸hi))
  ·by_cases IP:c'=c
   ·subst IP;show⟨_,IM⟩
   ·let⟨w2,z2⟩:=I.cell y c' e;show⟨w2,z2.sameBut hs IP⟩
  ·let⟨e,n,ne,nf,d⟩:=I.pin p hp;calc⟨(hs.2 p.1 ?_).trans e,n,ne,nf,d⟩;intro q;rw[q,IN]at e;let q':oc=p.2:=LG.inj e;show d w' (by rw[<-q'];show IO)
def fS{E:q7->J4->Prop}{Q:Unit->J4->Prop}(I:Inv X pins σ H s)(j:X.N.Nodup)(hi:X.N[i]?=Z x)(hx:Loc X.env.scope x)(r:RelV v u)(h:∀s',Inv X pins (σ.set i (Z v)) H s'->Q () s')(hf:X.fn x=Wi∨X.env.scope.names.lookup x=Z .local:=by first|show .inl rfl|show .inr rfl|assumption):Lu M A (storeName X.env x u) Q E s:=uR I j hi hx r (λs' I' _=>h s' I') hf
def Inv.call'{s':J4}{ch:List Wk}(I:Inv X pins σ H s)(ho:s'.os=s.os)(u:Un (frs X.stack) ch H H' s.heap s'.heap)(hok:HOk X.prog X.w H' s'.heap)(q:RQ s'.gens)(j:∀b∈ch,(b∈X.ex∨X.s₀.heap.objs.size<=b)/\b≠X.env.locals/\(∀x c,X.env.cells.lookup x=Z c->c≠b)/\∀p∈X.pn++pins,p.1≠b):Inv X pins σ H' s':=by let⟨h',g',d',t',o'⟩:=s';let e:o'=s.os:=ho;subst e;show I.call (g':=g') (t':=t') (d':=d') u hok q j
end
noncomputable abbrev XK:=q7->Option Wk->Hp->Prop
noncomputable abbrev St:=List (Option V)
noncomputable abbrev VK:=V->Hp->Prop
noncomputable abbrev TE:=St->Hp->VK->Prop
noncomputable abbrev TT:=St->Hp->(Bool->Hp->Prop)->Prop
noncomputable abbrev TA:=St->Hp->(List V->Hp->Prop)->Prop
structure bR where
 nx:St->Hp->Prop
 rt:VK
 bk:St->Hp->Prop:=λ_ _=>False
 ct:St->Hp->Prop:=λ_ _=>False
noncomputable abbrev TS:=bR->St->Hp->Prop
abbrev EP(X:Cx)(pins:List (Wk×Obj))(σ:St)(Q:VK)(u:q7)(s':J4):Prop:=∃v H',Inv X pins σ H' s'/\RelV v u/\Q v H'
abbrev TP(X:Cx)(pins:List (Wk×Obj))(σ:St)(Q:Bool->Hp->Prop)(b:Bool)(s':J4):Prop:=∃H',Inv X pins σ H' s'/\Q b H'
abbrev AP(X:Cx)(pins:List (Wk×Obj))(σ:St)(Q:List V->Hp->Prop)(us:List q7)(s':J4):Prop:=∃vs H',Inv X pins σ H' s'/\Vals vs us/\Q vs H'
abbrev SP(X:Cx)(pins:List (Wk×Obj))(D:bR)(f:Flow)(s':J4):Prop:=
 match f with
 |.next=>∃σ' H',Inv X pins σ' H' s'/\D.nx σ' H'
 |.brk=>∃σ' H',Inv X pins σ' H' s'/\D.bk σ' H'
 |.cont=>∃σ' H',Inv X pins σ' H' s'/\D.ct σ' H'
 |.ret u=>∃v σ' H',Inv X pins σ' H' s'/\RelV v u/\D.rt v H'
abbrev PE(X:Cx)(e:Expr)(t:TE):Prop:=∀(pins:List (Wk×Obj)) (s:J4) (σ:St) (H:Hp) (Q:VK),Inv X pins σ H s->t σ H Q->Lu (model X.prog X.w) X.A (eval e X.env) (EP X pins σ Q) X.xe s
abbrev PT(X:Cx)(e:Expr)(t:TT):Prop:=∀(pins:List (Wk×Obj)) (s:J4) (σ:St) (H:Hp) (Q:Bool->Hp->Prop),Inv X pins σ H s->t σ H Q->Lu (model X.prog X.w) X.A (isTrue e X.env (eval e X.env)) (TP X pins σ Q) X.xe s
abbrev PW(X:Cx)(e:Expr)(t:TT):Prop:=∀(whole:Sem q7) (pins:List (Wk×Obj)) (s:J4) (σ:St) (H:Hp) (Q:Bool->Hp->Prop),Inv X pins σ H s->t σ H Q->Lu (model X.prog X.w) X.A (isTrue e X.env whole) (TP X pins σ Q) X.xe s
def PW.pt{X:Cx}{t:TT}(h:PW X e t):PT X e t:=h _
abbrev PA(X:Cx)(es:List Expr)(t:TA):Prop:=∀(pos:Pos) (pins:List (Wk×Obj)) (s:J4) (σ:St) (H:Hp) (Q:List V->Hp->Prop),Inv X pins σ H s->t σ H Q->Lu (model X.prog X.w) X.A (spliced (Qe pos (LQ es X.env))) (AP X pins σ Q) X.xe s
abbrev PS(X:Cx)(st:Stmt)(t:TS):Prop:=∀(pins:List (Wk×Obj)) (s:J4) (σ:St) (H:Hp) (D:bR),Inv X pins σ H s->t D σ H->Lu (model X.prog X.w) X.A (exec st X.env) (SP X pins D) X.xe s
abbrev PSs(X:Cx)(st:List Stmt)(t:TS):Prop:=∀(pins:List (Wk×Obj)) (s:J4) (σ:St) (H:Hp) (D:bR),Inv X pins σ H s->t D σ H->Lu (model X.prog X.w) X.A (execs st X.env) (SP X pins D) X.xe s
def thn{α:Type}{t:Sem α}{Q Q':α->J4->Prop}{E:q7->J4->Prop}(h:Lu M A t Q E s)(j:∀a s,Q a s->Q' a s):Lu M A t Q' E s:=O7 h j λ_ _ x=>x
end
variable{X:Cx}{pos:Pos}{pins:List (Wk×Obj)}{σ:St}{c:Expr}
section
section
variable{X:Cx}
abbrev FU(i:Nat):TE:=λσ H Q=>∃v,σ[i]?=Z (Z v)/\Q v H
abbrev tC(v:V):TE:=λ_ H Q=>Q v H
def Cl(F:X.N[i]?=Z x)(G:Vis X.env.scope x)(hd:(x==("__debug__":Str))=Wj:=by decide)(z:(x==("__classdict__":Str))=Wj:=by decide):PE X (.Name x pos) (FU i):=by
 intro pins s σ H Q I h;let⟨v,e,h⟩:=h;let⟨m,J,L⟩:=I.loc;let⟨u,r,l⟩:=L i x v F e G;let fin:EP X pins σ Q u s:=⟨v,H,I,r,h⟩
 rcases l with⟨q,hm⟩|⟨q,c,B,j⟩
 ·show VC (T6 I.ok.kind q J hm fin) hd
 ·rcases q with q|q
  ·show VC (TL I.ok.kind q B j fin) hd
  ·show VC (wpAny_loadName_free I.ok.kind q B j fin z) hd
def Cn{i j pos}:PE X (.Constant (.int i) j pos) (tC (.int i)):=λ_ _ _ H _ I h=>wpAny_Constant_int ⟨.int i,H,I.tok _,⟨_,rfl⟩,h⟩
def EC{b j pos}:PE X (.Constant (.bool b) j pos) (tC (.bl b)):=λ_ _ _ H _ I h=>Constant_bool ⟨.bl b,H,I,rfl,h⟩
def Co{j pos}:PE X (.Constant .none j pos) (tC .non):=λ_ _ _ H _ I h=>Constant_none ⟨.non,H,I,rfl,h⟩
def Cp{x j pos}:PE X (.Constant (.str x) j pos) (tC (.str x)):=λ_ _ _ H _ I h=>Calls.Constant_str ⟨.str x,H,I.tok _,⟨_,rfl⟩,h⟩
abbrev Gl(X:Cx)(x:Str):Prop:=X.env.kindOf x=Z .globalImplicit
def kQ{E Q:q7->J4->Prop}(I:Inv X pins σ H s)(j:Gl X x)(hm:X.mg x=Z u)(h:Q u s)(hd:(x==("__debug__":Str))=Wj:=by decide):Lu (model X.prog X.w) X.A (eval (.Name x pos) X.env) Q E s:=Ro I.ok.kind j (Calls.loadGlobal_global (by rw[I.ok.glob];show I.mod.glob.keeps I.bk) hm h) hd
def eC{E Q:q7->J4->Prop}(I:Inv X pins σ H s)(j:Gl X x)(hm:X.mg x=N2)(q:Ph x=Z u)(h:Q u s)(z:x≠"__name__":=by decide)(hd:(x==("__debug__":Str))=Wj:=by decide):Lu (model X.prog X.w) X.A (eval (.Name x pos) X.env) Q E s:=by let⟨mb,h1,h2⟩:=I.mod.blt;show Ro I.ok.kind j (Calls.loadGlobal_builtin (by rw[I.ok.glob];show I.mod.glob.keeps I.bk) hm (by rw[I.ok.blt];show h1.keeps I.bk) ((h2 x z).trans q) h) hd
def Aw(j:Gl X x)(hm:X.mg x=Z u)(r:RelV v u)(hd:(x==("__debug__":Str))=Wj:=by decide):PE X (.Name x pos) (tC v):=λ_ _ _ H _ I h=>kQ I j hm ⟨v,H,I,r,h⟩ hd
def Ax(j:Gl X x)(hm:X.mg x=N2)(q:Ph x=Z u)(r:RelV v u)(z:x≠"__name__":=by decide)(hd:(x==("__debug__":Str))=Wj:=by decide):PE X (.Name x pos) (tC v):=λ_ _ _ H _ I h=>eC I j hm q ⟨v,H,I,r,h⟩ z hd
variable{a b:Expr}{ta tb:TE}{pos:Pos}
variable{tA tB':TT}{rest:List Expr}
abbrev FV(t u:TT):TT:=λσ H Q=>t σ H λc H1=>if c=Wi then u σ H1 Q else Q Wj H1
abbrev tOr(t u:TT):TT:=λσ H Q=>t σ H λc H1=>if c=Wi then Q Wi H1 else u σ H1 Q
abbrev FW(t:TT):TT:=λσ H Q=>t σ H λc H1=>Q (!c) H1
def Ay(j:PT X a tA):PW X (.BoolOp .And [a] pos) tA:=by
 intro wh pins s σ H Q I h;refine isTrue_and (thn (j pins s σ H Q I h) λc s1 e=>?_)
 cases c with
 |true=>show isTrue_and_nil e
 |false=>show e
def Cq(j:PT X a tA):PW X (.BoolOp .Or [a] pos) tA:=by
 intro wh pins s σ H Q I h;refine isTrue_or (thn (j pins s σ H Q I h) λc s1 e=>?_)
 cases c with
 |false=>show isTrue_or_nil e
 |true=>show e
def Cr(z:PT X a tA)(B:PW X (.BoolOp .And (b::rest) pos) tB'):PW X (.BoolOp .And (a::b::rest) pos) (FV tA tB'):=by
 intro wh pins s σ H Q I h;calc isTrue_and (thn (z pins s σ H _ I h) λc s1 F=>?_);let⟨H1,j,q⟩:=F
 cases c with
 |true=>show B wh pins s1 σ H1 Q j q
 |false=>show⟨H1,j,q⟩
def ED(z:PT X a tA)(B:PW X (.BoolOp .Or (b::rest) pos) tB'):PW X (.BoolOp .Or (a::b::rest) pos) (tOr tA tB'):=by
 intro wh pins s σ H Q I h;calc isTrue_or (thn (z pins s σ H _ I h) λc s1 F=>?_);let⟨H1,j,q⟩:=F
 cases c with
 |true=>show⟨H1,j,q⟩
 |false=>show B wh pins s1 σ H1 Q j q
def Ct(j:PT X a tA):PT X (.UnaryOp .Not a pos) (FW tA):=by intro pins s σ H Q I h;show isTrue_not (j pins s σ H (λc H1=>Q (!c) H1) I h)
abbrev EE(ta tb:TE):TE:=λσ H Q=>ta σ H λx H1=>∃c,x=.bl c/\if c=Wi then tb σ H1 Q else Q (.bl Wj) H1
abbrev FX(ta tb:TE):TE:=λσ H Q=>ta σ H λx H1=>∃c,x=.bl c/\if c=Wi then Q (.bl Wi) H1 else tb σ H1 Q
abbrev EF(ta:TE):TE:=λσ H Q=>ta σ H λx H1=>∃c,x=.bl c/\Q (.bl (!c)) H1
def Cu{op}{t:TE}(h:PE X a t):PE X (.BoolOp op [a] pos) t:=λpins s σ H Q I hw=>BoolOp_one (h pins s σ H Q I hw)
def Cw(z:PE X a ta)(B:PE X (.BoolOp .And (b::rest) pos) tb):PE X (.BoolOp .And (a::b::rest) pos) (EE ta tb):=by
 intro pins s σ H Q I h;calc BoolOp_and (thn (z pins s σ H _ I h) λv s1 F=>?_);let⟨x,H1,q,G,j⟩:=F;let⟨c,rfl,j⟩:=j
 cases G
 refine NB ?_
 cases c with
 |true=>show B pins s1 σ H1 Q q j
 |false=>show⟨.bl Wj,H1,q,rfl,j⟩
def EG(z:PE X a ta)(B:PE X (.BoolOp .Or (b::rest) pos) tb):PE X (.BoolOp .Or (a::b::rest) pos) (FX ta tb):=by
 intro pins s σ H Q I h;calc BoolOp_or (thn (z pins s σ H _ I h) λv s1 F=>?_);let⟨x,H1,q,G,j⟩:=F;let⟨c,rfl,j⟩:=j
 cases G
 refine NB ?_
 cases c with
 |false=>show B pins s1 σ H1 Q q j
 |true=>show⟨.bl Wi,H1,q,rfl,j⟩
def Cy(q:PE X a ta):PE X (.UnaryOp .Not a pos) (EF ta):=by
 intro pins s σ H Q I h;calc UnaryOp_ (thn (q pins s σ H _ I h) λv s1 z=>?_);let⟨x,H1,B,F,j⟩:=z;let⟨c,rfl,j⟩:=j
 cases F
 show not_of (NB ⟨.bl (!c),H1,B,rfl,j⟩)
abbrev tIf(t:TT)(ta tb:TE):TE:=λσ H Q=>t σ H λc H1=>if c=Wi then ta σ H1 Q else tb σ H1 Q
def xK(z:PT X c tA)(B:PE X a ta)(F:PE X b tb):PE X (.IfExp c a b pos) (tIf tA ta tb):=by
 intro pins s σ H Q I h;calc wpAny_IfExp (thn (z pins s σ H _ I h) λd s1 G=>?_);let⟨H1,j,q⟩:=G
 cases d with
 |true=>show B pins s1 σ H1 Q j q
 |false=>show F pins s1 σ H1 Q j q
end
end
variable{K:Frag}{tg:Expr}{ta:TA}{body:List Stmt}
section
abbrev SqL(K:Frag)(H:Hp)(a:Wk)(xs:List V):Prop:=
 Rd H a (.lst xs) ∨
  ∃(o:Obj) (its:Array q7) (n:Nat),K.lookup a=Z o/\o.cls=.type "list"/\o.dict=N2/\o.data=.seq its n/\its.size<=Lf/\Vals xs its.toList
abbrev SqT(K:Frag)(H:Hp)(a:Wk)(xs:List V):Prop:=
 Rd H a (.tup xs) ∨
  ∃(o:Obj) (its:Array q7) (n:Nat),K.lookup a=Z o/\o.cls=.type "tuple"/\o.data=.seq its n/\its.size<=Lf/\Vals xs its.toList
abbrev FY:q7->Option V
 |.none=>Z .non
 |.bool b=>Z (.bl b)
 |.int i _=>Z (.int i)
 |.str x _=>Z (.str x)
 |.bytes b _=>Z (.byt b)
 |.float b _=>Z (.flt b)
 |.ref a=>Z (.ref a)
 |.type n=>Z (.ty n)
 |_=>N2
def RelV.abs{x:V}(r:RelV x u):FY u=Z x:=by
 cases x with
 |non=>cases r;rfl
 |bl _=>cases r;rfl
 |int _=>let⟨t,rfl⟩:=r;rfl
 |str _=>let⟨t,rfl⟩:=r;rfl
 |byt _=>let⟨t,rfl⟩:=r;rfl
 |flt _=>let⟨t,rfl⟩:=r;rfl
 |ref _=>cases r;rfl
 |ty _=>cases r;rfl
def RelV.inj{x y:V}(r:RelV x u)(q:RelV y u):x=y:=LG.inj (r.abs.symm.trans q.abs)
def Vals.inj:∀{xs ys:List V} {us:List q7},Vals xs us->Vals ys us->xs=ys
 |_,_,_,.nil,.nil=>rfl
 |_,_,_,.cons r t,.cons r' t'=>by rw[r.inj r',Vals.inj t t']
section
variable{X:Cx}{pins:List (Wk×Obj)}{σ:St}{H:Hp}{s:J4}{a:Wk}{xs ys:List V}
def SqL.of(h:H a=Z (.lst xs)):SqL K H a xs:=.inl (.inl h)
def SqT.of(h:H a=Z (.tup xs)):SqT K H a xs:=.inl (.inl h)
def Inv.list(I:Inv X pins σ H s)(h:SqL X.K H a xs):∃its:List q7,Vals xs its/\PlainL s.heap a its.toArray/\xs.length<=Lf:=by
 rcases h with h|⟨o,its,n,j,q,hd,hs,B,r⟩
 ·let⟨z,its,n,r,e⟩:=h.ok I.hok;show⟨its,r,⟨_,n,e,rfl,rfl,rfl⟩,z⟩
 ·refine⟨its.toList,r,⟨o,n,I.kIn a o j,q,hd,by simpa using hs⟩,?_⟩
  let e:=r.length;simp only[LI]at e;lia
def Inv.tuple(I:Inv X pins σ H s)(h:SqT X.K H a xs):∃its:List q7,Vals xs its/\IsTup s.heap a its.toArray/\xs.length<=Lf:=by
 rcases h with h|⟨o,its,n,j,q,hs,B,r⟩
 ·let⟨z,its,r,p⟩:=h.ok I.hok;show⟨its,r,p,z⟩
 ·refine⟨its.toList,r,⟨o,I.kIn a o j,q,n,by simpa using hs⟩,?_⟩
  let e:=r.length;simp only[LI]at e;lia
def Inv.list_inj(I:Inv X pins σ H s)(h:SqL X.K H a xs)(h':SqL X.K H a ys):xs=ys:=by
 let⟨its,r,⟨o,n,e,_,_,d⟩,_⟩:=I.list h;let⟨its',r',⟨o',n',e',_,_,d'⟩,_⟩:=I.list h';rw[e]at e';cases e';rw[d]at d'
 injection d' with d1 _
 let:its=its':=by simpa using congrArg Sv d1
 subst this;show r.inj r'
def Inv.tuple_inj(I:Inv X pins σ H s)(h:SqT X.K H a xs)(h':SqT X.K H a ys):xs=ys:=by
 let⟨its,r,⟨o,e,_,n,d⟩,_⟩:=I.tuple h;let⟨its',r',⟨o',e',_,n',d'⟩,_⟩:=I.tuple h';rw[e]at e';cases e';rw[d]at d'
 injection d' with d1 _
 let:its=its':=by simpa using congrArg Sv d1
 subst this;show r.inj r'
end
noncomputable abbrev Cx.wish(X:Cx)(E:q7->J4->Prop):Cx:={X with xe:=E}
noncomputable abbrev Cx.nox(X:Cx):Cx:=X.wish λ_ _=>False
def Cx.Ok.wish(ok:X.Ok)(E:q7->J4->Prop):(X.wish E).Ok:=⟨ok.mod,ok.kind,ok.glob,ok.blt,ok.above,ok.inj,ok.has,ok.cab,ok.hd,ok.frames,ok.stk,ok.exf,ok.bs,ok.bsz,ok.noex,ok.exfs,ok.funs,ok.frf⟩
def Cx.Ok.unwish{E:q7->J4->Prop}(ok:(X.wish E).Ok):X.Ok:=⟨ok.mod,ok.kind,ok.glob,ok.blt,ok.above,ok.inj,ok.has,ok.cab,ok.hd,ok.frames,ok.stk,ok.exf,ok.bs,ok.bsz,ok.noex,ok.exfs,ok.funs,ok.frf⟩
section
variable{X:Cx}{pins:List (Wk×Obj)}{σ:St}{H:Hp}{s:J4}{E:q7->J4->Prop}
def Inv.wish(I:Inv X pins σ H s)(E:q7->J4->Prop):Inv (X.wish E) pins σ H s:=⟨I.ok.wish E,I.os,I.bare,I.base,I.loc,I.cell,I.free,I.freeC,I.pin,I.hok,I.len⟩
def Inv.unwish(I:Inv (X.wish E) pins σ H s):Inv X pins σ H s:=⟨I.ok.unwish,I.os,I.bare,I.base,I.loc,I.cell,I.free,I.freeC,I.pin,I.hok,I.len⟩
def SP.unwish{D:bR}{f:Flow}{s':J4}(h:SP (X.wish E) pins D f s'):SP X pins D f s':=by
 cases f with
 |next=>let⟨σ',H',I,q⟩:=h;show⟨σ',H',I.unwish,q⟩
 |brk=>let⟨σ',H',I,q⟩:=h;show⟨σ',H',I.unwish,q⟩
 |cont=>let⟨σ',H',I,q⟩:=h;show⟨σ',H',I.unwish,q⟩
 |ret u=>let⟨v,σ',H',I,r,q⟩:=h;show⟨v,σ',H',I.unwish,r,q⟩
def PSs.nox{st:List Stmt}{t:TS}(h:PSs X.nox st t):PSs X st t:=λpins s σ H D I hw=>O7 (h pins s σ H D (I.wish _) hw) (λ_ _ q=>q.unwish) λ_ _ z=>False.elim z
end
section
variable{X:Cx}{st:Stmt}{rest:List Stmt}{t u:TS}{e:Expr}{te:TE}{pos:Pos}
abbrev sW:TS:=λD σ H=>D.nx σ H
abbrev Cz(t u:TS):TS:=λD σ H=>t {D with nx:=u D} σ H
def Az:PSs X [] sW:=λ_ _ σ H _ I h=>SO ⟨σ,H,I,h⟩
def xL(h1:PS X st t)(h2:PSs X rest u):PSs X (st::rest) (Cz t u):=by
 intro pins s σ H D I h;refine wpAny_execs_cons (thn (h1 pins s σ H {D with nx:=u D} I h) λf s1 q=>?_)
 cases f with
 |next=>let⟨σ',H',I',q⟩:=q;show h2 pins s1 σ' H' D I' q
 |ret v=>show q
 |brk=>show q
 |cont=>show q
abbrev uS:TS:=λD σ H=>D.bk σ H
abbrev zV:TS:=λD σ H=>D.ct σ H
def AA:PS X (.Pass pos) sW:=λ_ _ σ H _ I h=>wpAny_Pass ⟨σ,H,I,h⟩
def xM:PS X (.Break pos) uS:=λ_ _ σ H _ I h=>wpAny_Break ⟨σ,H,I,h⟩
def qW:PS X (.Continue pos) zV:=λ_ _ σ H _ I h=>wpAny_Continue ⟨σ,H,I,h⟩
def Inv.quiet(I:Inv X pins σ H s):interactive X.env=Wj:=by simp[interactive,I.ok.kind]
abbrev zW(te:TE):TS:=λD σ H=>te σ H λ_ H1=>D.nx σ H1
def AB(he:PE X e te)(hs:Qh e N2 pos.line X.env=pure Wj:=by rfl):PS X (.Expr e pos) (zW te):=by intro pins s σ H D I h;show wpAny_Expr_any (thn (he pins s σ H _ I h) λv s1 j=>(by let⟨x,H1,q,B,z⟩:=j;show⟨σ,H1,q,z⟩)) I.quiet hs
abbrev CA(te:TE):TS:=λD σ H=>te σ H D.rt
def CB(he:PE X e te):PS X (.Return (Z e) pos) (CA te):=by intro pins s σ H D I h;show wpAny_Return_some (thn (he pins s σ H _ I h) λv s1 j=>(by let⟨x,H1,q,z,B⟩:=j;show⟨x,σ,H1,q,z,B⟩))
abbrev CC(c:TT)(t u:TS):TS:=λD σ H=>c σ H λb H1=>if b=Wi then t D σ H1 else u D σ H1
def EH{a b:List Stmt}{tc:TT}(z:PT X c tc)(B:PSs X a t)(F:PSs X b u):PS X (.If c a b pos) (CC tc t u):=by
 intro pins s σ H D I h;calc wpAny_If (thn (z pins s σ H _ I h) λd s1 G=>?_);let⟨H1,j,q⟩:=G
 cases d with
 |true=>show B pins s1 σ H1 D j q
 |false=>show F pins s1 σ H1 D j q
end
noncomputable abbrev TG:=V->St->Hp->(St->Hp->Prop)->Prop
noncomputable abbrev TGs:=List V->St->Hp->(St->Hp->Prop)->Prop
abbrev PG(X:Cx)(target:Expr)(t:TG):Prop:=
 ∀(pins:List (Wk×Obj)) (s:J4) (σ:St) (H:Hp) (v:V) (u:q7) (Q:St->Hp->Prop),Inv X pins σ H s->RelV v u->t v σ H Q->
  Lu (model X.prog X.w) X.A (assign target X.env u) (λ_ s'=>∃σ' H',Inv X pins σ' H' s'/\Q σ' H') X.xe s
abbrev PGs(X:Cx)(ts:List Expr)(t:TGs):Prop:=
 ∀(pins:List (Wk×Obj)) (s:J4) (σ:St) (H:Hp) (vs:List V) (us:List q7) (Q:St->Hp->Prop),Inv X pins σ H s->Vals vs us->t vs σ H Q->
  Lu (model X.prog X.w) X.A (TV ((O8 ts X.env).map (·.2)) us) (λ_ s'=>∃σ' H',Inv X pins σ' H' s'/\Q σ' H') X.xe s
noncomputable abbrev sX:=V->V->V->Hp->(Hp->Prop)->Prop
abbrev PSet(X:Cx)(t:sX):Prop:=
 ∀(pins:List (Wk×Obj)) (s:J4) (σ:St) (H:Hp) (o i v:V) (ov iv u:q7) (Q:Hp->Prop),Inv X pins σ H s->RelV o ov->RelV i iv->RelV v u->t o i v H Q->
  Lu (model X.prog X.w) X.A (setItem ov iv u) (λ_ s'=>∃H',Inv X pins σ H' s'/\Q H') X.xe s
noncomputable abbrev TIp:=V->V->Hp->VK->Prop
abbrev PIp(X:Cx)(op:Qn)(t:TIp):Prop:=
 ∀(pins:List (Wk×Obj)) (s:J4) (σ:St) (H:Hp) (x y:V) (v u:q7) (Q:VK),Inv X pins σ H s->RelV x v->RelV y u->t x y H Q->
  Lu (model X.prog X.w) X.A (Qi op v u) (EP X pins σ Q) X.xe s
section
variable{X:Cx}{pos:Pos}
abbrev jE(i:Nat):TG:=λv σ H Q=>Q (σ.set i (Z v)) H
def rB(j:X.N.Nodup)(hi:X.N[i]?=Z x)(hx:Loc X.env.scope x)(hf:X.fn x=Wi∨X.env.scope.names.lookup x=Z .local:=by first|show .inl rfl|show .inr rfl|assumption):PG X (.Name x pos) (jE i):=by intro pins s σ H v u Q I r h;show wpAny_assign_Name (fS I j hi hx r (λs' I'=>⟨_,H,I',h⟩) hf)
abbrev FZ:TGs:=λvs σ H Q=>vs=[]/\Q σ H
abbrev EI(t:TG)(u:TGs):TGs:=λvs σ H Q=>∃v r,vs=v::r/\t v σ H λσ' H'=>u r σ' H' Q
def AC:PGs X [] FZ:=by
 intro pins s σ H vs us Q I r h;let⟨e,h⟩:=h;subst e
 cases r
 show Uq ⟨σ,H,I,h⟩
def xN{es:List Expr}{t:TG}{u:TGs}(h1:PG X e t)(h2:PGs X es u)(hs:(O8 (e::es) X.env).map (·.2)=assign e X.env::(O8 es X.env).map (·.2):=by rfl):PGs X (e::es) (EI t u):=by
 intro pins s σ H vs us Q I r h;let⟨v,vr,j,h⟩:=h;subst j
 cases r with
 |cons r rr=>rw[hs];calc Rp (thn (h1 pins s σ H _ _ _ I r h) λ_ s1 q=>?_);let⟨σ1,H1,z,B⟩:=q;show h2 pins s1 σ1 H1 _ _ Q z rr B
abbrev G0(K:Frag)(n:Nat)(t:TGs):TG:=λv σ H Q=>∃a xs,v=.ref a/\SqT K H a xs/\xs.length=n/\t xs σ H Q
def CD{es:List Expr}{k:Nat}{t:TGs}{n:Nat}(q:X.calm=Wi)(h:PGs X es t)(z:(O8 es X.env).length=n:=by rfl)(j:(O8 es X.env).findIdx? (·.1)=N2:=by rfl):PG X (.Tuple es k pos) (G0 X.K n t):=by
 intro pins s σ H v u Q I r hw;let⟨a,xs,B,F,G,hw⟩:=hw;subst B
 cases r
 let⟨its,rv,J,O⟩:=I.tuple F;refine assign_Tuple_tuple (I.ok.hd q) J (by simp[z,<-G,rv.length]) j λh' hx=>?_
 let L:Inv X pins σ H {s with heap:=h'}:=I.kept (t':=s.toks) λb o e=>hx b o (Md (Lr e)) e
 show h pins _ σ H xs _ Q L (by simpa using rv) hw
abbrev G1(to ti:TE)(t:sX):TG:=λv σ H Q=>to σ H λo H1=>ti σ H1 λi H2=>t o i v H2 λH3=>Q σ H3
def CF {o i:Expr}{to ti:TE}{t:sX}(ho:PE X o to)(hi:PE X i ti)(hs:PSet X t)(q:∀v,assign (.Subscript o i pos) X.env v=(do
   let ov <-holding [v] (eval o X.env)
   let iv <-holding [v,ov] (eval i X.env)
   RT pos
   holding [v,ov,iv] (setItem ov iv v)
   release [v,ov,iv] []):=by intro _;rfl):PG X (.Subscript o i pos) (G1 to ti t):=by
 intro pins s σ H v u Q I r h;rw[q];calc gV (MP (thn (ho pins s σ H _ I h) λov s1 j=>?_));let⟨x,H1,z,B,F⟩:=j;calc gV (MP (thn (hi pins s1 σ H1 _ z F) λiv s2 j=>?_));let⟨y,H2,G,J,L⟩:=j;calc gV (PF (gV (MP (thn (hs pins s2 σ H2 x y v ov iv u _ G B J r L) λ_ s3 j=>?_))));let⟨O,U,Y⟩:=j;show wpAny_release ⟨σ,O,U,Y⟩
abbrev sY(te:TE)(g:TG):TS:=λD σ H=>te σ H λx H1=>g x σ H1 D.nx
def uT{te:TE}{g:TG}(he:PE X e te)(j:PG X tg g)(hs:Q6 [tg] e pos.line X.env=pure Wj:=by rfl)(hw:OX [tg] e X.env=pure N2:=by rfl)(h1:(O8 [tg] X.env).map (·.2)=[assign tg X.env]:=by rfl):PS X (.Assign [tg] e pos) (sY te g):=by intro pins s σ H D I h;calc wpAny_Assign_stores (thn (he pins s σ H _ I h) λv s1 g9=>?_) hs hw;let⟨x,H1,z,B,F⟩:=g9;rw[h1];show thn (j pins s1 σ H1 x v _ z B F) λ_ s2 q=>q
abbrev CG(i j:Nat)(ta:TA):TS:=λD σ H=>ta σ H λvs H1=>∃v w,vs=[v,w]/\D.nx ((σ.set i (Z v)).set j (Z w)) H1
def CH{j:Nat}{y:Str}{a b:Expr}{px py pt:Pos}{kt G z}(hc:X.calm=Wi)(U:X.N.Nodup)(hi:X.N[i]?=Z x)(hj:X.N[j]?=Z y)(J:i≠j)(hx:X.env.scope.names.lookup x=Z .local)(Y:X.env.scope.names.lookup y=Z .local)(ha:PA X [a,b] ta)(hw:OX [.Tuple [.Name x px,.Name y py] kt pt] (.Tuple [a,b] G z) X.env=pure (Z [x,y]))(hs:Q6 [.Tuple [.Name x px,.Name y py] kt pt] (.Tuple [a,b] G z) pos.line X.env=pure Wj:=by rfl):
 PS X (.Assign [.Tuple [.Name x px,.Name y py] kt pt] (.Tuple [a,b] G z) pos) (CG i j ta):=by
 intro pins s σ H D I h;rw[exec_Assign_arm];calc gV (PF ?_);rw[hs];calc gV (KZ ?_);rw[if_neg (·)]
 calc gV (Tuple_ (thn (ha _ pins s σ H _ I h) λus s1 g9=>?_));let⟨vs,H1,I1,r1,L⟩:=g9;let⟨v,w,e1,L⟩:=L;subst e1;obtain⟨B,F,rfl,rv,rw'⟩:∃B F,us=[B,F]/\RelV v B/\RelV w F:=by
  cases r1 with
  |cons p q=>
   cases q with
   |cons p' q'=>
    cases q'
    show⟨_,_,rfl,p,p'⟩
 refine ND ?_ (by change 2<=Lf;decide)
 let I2:Inv X pins σ H1 {s1 with heap:=s1.heap.push {cls:=.type "tuple",data:=.seq [B,F].toArray}}:=I1.kept (t':=s1.toks) λb o e=>D2 _ e
 rw[hw];calc gV (KZ ?_);change Lu (model X.prog X.w) X.A (do rule "assign.swapped-stores";let items <-unpackItems (.ref s1.heap.objs.size) 2 N2;TV [λv=>VD X.env y v,λv=>VD X.env x v] items.reverse;pure Flow.next) _ _ _
 calc gV (NT (gV (unpackItems_tuple (items:=#[B,F]) (I.ok.hd hc) (Rl s1.heap _) λh' O=>?_)));let I3:=I2.kept (h':=h') (t':=s1.toks) λb o e=>O b o (Md (Lr e)) e;change Lu _ _ (TV [λv=>VD X.env y v,λv=>VD X.env x v] [F,B]>>=λ_=>pure Flow.next) _ _ _;calc gV (Rp (wpAny_bindName (fS I3 U hj (.inl Y) rw' (λs2 I4=>?_) (.inr Y))));calc Rp (wpAny_bindName (fS I4 U hi (.inl hx) rv (λs3 fv=>Uq (KZ ?_)) (.inr hx)));rw[List.set_comm _ _ (Ne.symm J)]at fv;show⟨_,H1,fv,L⟩
abbrev G2(i:Nat)(te:TE)(ti:TIp):TS:=λD σ H=>∃x,σ[i]?=Z (Z x)/\te σ H λy H1=>ti x y H1 λz H2=>D.nx (σ.set i (Z z)) H2
def CI{te:TE}{op:Qn}{ti:TIp}{pos':Pos}(F:X.N.Nodup)(hi:X.N[i]?=Z x)(hx:Loc X.env.scope x)(he:PE X e te)(ho:PIp X op ti)(hf:X.fn x=Wi∨X.env.scope.names.lookup x=Z .local:=by first|show .inl rfl|show .inr rfl|assumption):
 PS X (.AugAssign (.Name x pos') op e pos) (G2 i te ti):=by
 intro pins s σ H D I h;let⟨v,G,h⟩:=h;let⟨m,J,L⟩:=I.loc;let vis:Vis X.env.scope x:=by rcases hx with k|k;show .inl k;show .inr (.inl k)
 let⟨u,r,l⟩:=L i x v hi G vis;calc wpAny_AugAssign_Name ?_;let go:Lu (model X.prog X.w) X.A (eval e X.env) (λw s₂=>Lu (model X.prog X.w) X.A (Qi op u w) (λr s₃=>Lu (model X.prog X.w) X.A (storeName X.env x r) (λ_=>SP X pins D .next) X.xe s₃) X.xe s₂) X.xe s:=by calc thn (he pins s σ H _ I h) λw s1 B=>?_;let⟨y,H1,O,U,Y⟩:=B;calc thn (ho pins s1 σ H1 v y u w _ O r U Y) λz s2 B=>?_;let⟨zv,H2,fv,r2,q2⟩:=B;show fS fv F hi hx r2 (λs3 I3=>⟨_,H2,I3,q2⟩) hf
 rcases l with⟨j,hm⟩|⟨j,c,hc,q⟩
 ·show T6 I.ok.kind j J hm go
 ·rcases j with j|j
  ·show TL I.ok.kind j hc q go
  ·rcases hx with k|k
   ·let:X.env.scope.names.lookup x=Z .free:=j;rw[k]at this;cases this
   ·let:X.env.scope.names.lookup x=Z .free:=j;rw[k]at this;cases this
end
section
variable{X:Cx}{pos:Pos}
abbrev uU(c:TT)(tb:TS):TS:=λD σ H=>∃W:Nat->St->Hp->Prop,(∃m,W m σ H)/\∀m σ H,W m σ H->
 c σ H λb H1=>if b=Wi then ∃N:St->Hp->Prop,(∀σ' H',N σ' H'->∃m',m'<m/\W m' σ' H')/\tb {D with nx:=N,ct:=N,bk:=D.nx} σ H1 else D.nx σ H1
def xO{tc:TT}{tb:TS}(J:PassesOwn (model X.prog X.w) X.A X.env X.xe)(U:PT X c tc)(Y:PSs X body tb):PS X (.While c body [] pos) (uU tc tb):=by
 intro pins s σ H D I h;let⟨W,⟨m0,fv⟩,turn⟩:=h;calc wpAny_While (codeAny_whileLoop (λn s'=>∃σ' H',Inv X pins σ' H' s'/\W n σ' H') ?_ m0 ⟨σ,H,I,fv⟩);rintro n s1 ⟨σ1,H1,I1,w1⟩;calc ON J (thn (U pins s1 σ1 H1 _ I1 (turn n σ1 H1 w1)) λb s2 g9=>?_);let⟨H2,L,q⟩:=g9
 cases b with
 |true=>
  let⟨N,O,q⟩:=q;rw[if_pos rfl];refine ON J (thn (Y pins s2 σ1 H2 _ L q) λf s3 z=>?_)
  cases f with
  |next=>let⟨σ3,j,B,F⟩:=z;let⟨m',hm,G⟩:=O σ3 j F;show⟨m',hm,σ3,j,B,G⟩
  |cont=>let⟨σ3,j,B,F⟩:=z;let⟨m',hm,G⟩:=O σ3 j F;show⟨m',hm,σ3,j,B,G⟩
  |brk=>show z
  |ret v=>show z
 |false=>rw[if_neg Lg];show SO ⟨σ1,H2,L,q⟩
end
structure It where
 go:Nat->Hp->Prop
 yld:Nat->Hp->V->Hp->Prop
 stop:Nat->Hp->Prop
abbrev cu(X:Cx)(pins:List (Wk×Obj))(H:Hp)(b:Wk):Prop:=H b=N2/\b≠X.env.locals/\b∉X.fs/\(b∈X.ex∨X.s₀.heap.objs.size<=b)/\(∀x c,X.env.cells.lookup x=Z c->c≠b)/\∀p∈X.pn++pins,p.1≠b
def Inv.fpOk{H':Hp}(I:Inv X pins σ H s)(j:s.heap.objs.size<=b)(B:H' b=N2):cu X pins H' b:=by
 refine⟨B,OA (LZ I.lt j),I.nofs j,.inr (Ml I.sz j),λx c e z=>?_,λp F z=>?_⟩
 ·let⟨v,q⟩:=I.cell x c e;show absurd (LZ q.lt (by rw[z];show j)) (NJ _)
 ·show absurd (LZ (Lr (I.pin p F).1) (by rw[z];show j)) (NJ _)
structure gO(P:LN)(w:Mq)(K:Frag)(tg:Expr)(J:It)(fp:List Wk)(it:Wk)(tn:Nat->Heap->Prop):Prop where
 mem:it∈fp
 obj:∀i h,tn i h->∀b∈fp,∃o,h.get? b=Z o/\∀v,o.data≠.cell v
 keep:∀i h h',tn i h->(∀b∈fp,∀o,h.get? b=Z o->h'.get? b=Z o)->tn i h'
 item:∀(X:Cx),X.prog=P->X.w=w->X.K=K->X.calm=Wi->∀(i:Nat) (pins:List (Wk×Obj)) (s:J4) (σ:St) (H:Hp) (E:q7->J4->Prop),Inv X pins σ H s->(∀b∈fp,cu X pins H b)->tn i s.heap->J.go i H->
  Lu (model P w) X.A (Qo (.ref it)) (λr s1=>∃u,r=Z u /\
   Lu (model P w) X.A (R0 tg (.ref it) u) (λ_ s2=>∃x H',Inv X pins σ H' s2/\RelV x u/\J.yld i H x H'/\tn (i+1) s2.heap/\∀b∈fp,H' b=N2) E s1) E s
 done:∀(X:Cx),X.prog=P->X.w=w->X.K=K->X.calm=Wi->∀(i:Nat) (pins:List (Wk×Obj)) (s:J4) (σ:St) (H:Hp) (E:q7->J4->Prop),Inv X pins σ H s->(∀b∈fp,cu X pins H b)->tn i s.heap->J.stop i H->
  Lu (model P w) X.A (Qo (.ref it)) (λr s1=>r=N2/\Inv X pins σ H s1) E s
 self:∀(A:Mz) (i:Nat) (s:J4) (Q:q7->J4->Prop) (E:q7->J4->Prop),tn i s.heap->Q (.ref it) s->Lu (model P w) A (Ua (.ref it)) Q E s
noncomputable abbrev TI:=St->Hp->(It->Hp->Prop)->Prop
abbrev PIE(X:Cx)(pins:List (Wk×Obj))(σ:St)(tg:Expr)(R:It->Hp->Prop)(itv:q7)(s2:J4):Prop:=∃(it:Wk) (fp:List Wk) (tn:Nat->Heap->Prop) (J:It) (H':Hp),itv=.ref it/\Inv X pins σ H' s2/\gO X.prog X.w X.K tg J fp it tn/\tn 0 s2.heap/\(∀b∈fp,cu X pins H' b)/\R J H'
abbrev PI(X:Cx)(tg iter:Expr)(wi:TI):Prop:=
 ∀(pins:List (Wk×Obj)) (s:J4) (σ:St) (H:Hp) (R:It->Hp->Prop),Inv X pins σ H s->wi σ H R->
  Lu (model X.prog X.w) X.A (eval iter X.env) (λv s1=>Lu (model X.prog X.w) X.A (Ua v) (PIE X pins σ tg R) X.xe s1) X.xe s
def nJ{E:q7->J4->Prop}{it:Wk}{o:Obj}{n:String}{vs:Array q7}{Q:Unit->J4->Prop}(ho:s.heap.get? it=Z o)(q:o.cls=.type n)(hd:o.data=.fields vs)(z:["enumerate","zip","dict_itemiterator","dict_reverseitemiterator","odict_iterator","itertools.zip_longest","itertools.pairwise"].contains n=Wj)(j:Q () s):Lu M A (R0 tg (.ref it) u) Q E s:=by
 unfold R0
 cases tg<;>first
  |show KZ j
  | (cases u<;>first
      |show KZ j
      | (refine gV (wpAny_load ho ?_)
         rw[q,hd];change Lu M A (if(["enumerate","zip","dict_itemiterator","dict_reverseitemiterator","odict_iterator","itertools.zip_longest","itertools.pairwise"].contains n&&vs[0]?==Z (RZ _))=Wi then _ else _) Q E s
         rw[if_neg (by intro h;rw[z,Rq]at h;cases h)]
         show KZ j))
abbrev Itl(K:Frag)(a:Wk):It:=⟨λi H=>∃xs x,SqL K H a xs/\xs[i]?=Z x,λi H x H'=>H'=H/\∀xs,SqL K H a xs->xs[i]?=Z x,λi H=>∃xs,SqL K H a xs/\xs.length<=i⟩
abbrev Itt(K:Frag)(a:Wk):It:=⟨λi H=>∃xs x,SqT K H a xs/\xs[i]?=Z x,λi H x H'=>H'=H/\∀xs,SqT K H a xs->xs[i]?=Z x,λi H=>∃xs,SqT K H a xs/\xs.length<=i⟩
abbrev Itr(lo:Int)(n:Nat):It:=⟨λi _=>i<n,λi H x H'=>H'=H/\x=.int (lo+i),λi _=>n<=i⟩
def uV(a it:Wk):gO P w K tg (Itl K a) [it] it (λi h=>h.IsListIter it a i) where
 mem:=by simp
 obj:=λi h st b j=>by
  let e:b=it:=by simpa using j
  subst e;let⟨o,e,c,d⟩:=st;show⟨o,e,λv z=>by rw[d]at z;cases z⟩
 keep:=λi h h' st k=>st.at λo e=>k it (_) o e
 item:=by
  intro X B hw F L i pins s σ H E I hf st hg;subst B hw F;let⟨xs,x,q,hx⟩:=hg;let⟨its,rv,p,O⟩:=I.list q;let⟨u,U,ru⟩:=rv.get hx;let⟨f0,f1,f2,G,f4,J⟩:=hf it (_)
  refine Sw st p.isList (x:=u) (by simpa using U) λh' st' sb=>?_
  let Y:Inv X pins σ H {s with heap:=h'}:=I.turned (t':=s.toks) (λb o j e=>(sb.2 b j).trans e) f0 f1 G f4 J
  let⟨o,e,c,d⟩:=id st';show⟨u,rfl,nJ (s:={s with heap:=h'}) e c d (·) ⟨x,H,Y,ru,⟨rfl,λys fv=>by rw[I.list_inj fv q];show hx⟩,st',λb j=>(hf b j).1⟩⟩
 done:=by
  intro X B hw F L i pins s σ H E I hf st hg;subst B hw F;let⟨xs,q,hx⟩:=hg;let⟨its,rv,p,O⟩:=I.list q;let⟨f0,f1,f2,G,f4,J⟩:=hf it (_)
  let hl:=rv.length;show SX (I.ok.hd L) st p.isList (by simp;lia) λh' eb=>⟨rfl,I.turned (t':=s.toks) (λb o j e=>eb b o j e) f0 f1 G f4 J⟩
 self:=λ_ _ _ _ _ st h=>wpAny_pyIter_listiter st h
def sZ(a it:Wk):gO P w K tg (Itt K a) [it] it (λi h=>h.IsTupleIter it a i) where
 mem:=by simp
 obj:=λi h st b j=>by
  let e:b=it:=by simpa using j
  subst e;let⟨o,e,c,d⟩:=st;show⟨o,e,λv z=>by rw[d]at z;cases z⟩
 keep:=λi h h' st k=>st.at λo e=>k it (_) o e
 item:=by
  intro X B hw F L i pins s σ H E I hf st hg;subst B hw F;let⟨xs,x,q,hx⟩:=hg;let⟨its,rv,p,O⟩:=I.tuple q;let⟨u,U,ru⟩:=rv.get hx;let⟨f0,f1,f2,G,f4,J⟩:=hf it (_)
  refine wpAny_pyNext_tuple_item st (show s.heap.IsTuple a its.toArray from p) (x:=u) (by simpa using U) λh' st' sb=>?_
  let Y:Inv X pins σ H {s with heap:=h'}:=I.turned (t':=s.toks) (λb o j e=>(sb.2 b j).trans e) f0 f1 G f4 J
  let⟨o,e,c,d⟩:=id st';show⟨u,rfl,nJ (s:={s with heap:=h'}) e c d (·) ⟨x,H,Y,ru,⟨rfl,λys fv=>by rw[I.tuple_inj fv q];show hx⟩,st',λb j=>(hf b j).1⟩⟩
 done:=by
  intro X B hw F L i pins s σ H E I hf st hg;subst B hw F;let⟨xs,q,hx⟩:=hg;let⟨its,rv,p,O⟩:=I.tuple q;let⟨f0,f1,f2,G,f4,J⟩:=hf it (_)
  let hl:=rv.length;show wpAny_pyNext_tuple_end (I.ok.hd L) st (show s.heap.IsTuple a its.toArray from p) (by simp;lia) λh' eb=>⟨rfl,I.turned (t':=s.toks) (λb o j e=>eb b o j e) f0 f1 G f4 J⟩
 self:=λ_ _ _ _ _ st h=>wpAny_pyIter_tupleiter st h
def t5(it:Wk)(lo:Int)(n:Nat):gO P w K tg (Itr lo n) [it] it (λi h=>IsRangeIter h it (lo+(i:Nat)*1) ((n:Int)-(i:Nat)) 1) where
 mem:=by simp
 obj:=λi h st b j=>by
  let e:b=it:=by simpa using j
  subst e;show⟨_,st,λv z=>by
   let z':Data.fields _=Data.cell v:=z
   cases z'⟩
 keep:=λi h h' st k=>k it (_) _ st
 item:=by
  intro X q hw B F i pins s σ H E I hf st hg;subst q hw B;let⟨f0,f1,f2,G,f4,J⟩:=hf it (_)
  let W:=Walks.range (prog:=X.prog) (w:=X.w) (I.ok.hd F) it lo 1 n;calc W.item i s _ _ hg st λv h' tk L st' kk=>?_;let⟨t,rfl⟩:=L;let O:Inv X pins σ H {s with heap:=h',toks:=tk}:=I.turned (λb o j e=>kk b o (by simpa using j) e) f0 f1 G f4 J
  refine⟨_,rfl,nJ (s:={s with heap:=h',toks:=tk}) (n:="range_iterator") st' rfl rfl (·) ⟨.int (lo+i),H,O,⟨t,?_⟩,⟨rfl,rfl⟩,st',λb j=>(hf b j).1⟩⟩
  rw[Vd]
 done:=by
  intro X q hw B F i pins s σ H E I hf st hg;subst q hw B;let⟨f0,f1,f2,G,f4,J⟩:=hf it (_)
  show wpAny_pyNext_range_end (I.ok.hd F) st (by let:n<=i:=hg;lia) λh' eb=>⟨rfl,I.turned (t':=s.toks) (λb o j e=>eb b o j e) f0 f1 G f4 J⟩
 self:=λ_ _ _ _ _ st h=>wpAny_pyIter_rangeiter st h
end
variable{fp:List Wk}
section
section
variable{X:Cx}{tg:Expr}
def oz{R:It->Hp->Prop}{E:q7->J4->Prop}{lo hi:Int}{t u v:Tok}{tk:Nat}(I:Inv X pins σ H s)(h1:-(2^62)<=lo)(h2:lo<2^62)(z:-(2^62)<=hi)(B:hi<2^62)(q:R (Itr lo (hi-lo).toNat) H):Lu (model X.prog X.w) X.A (Ua (.ref s.heap.objs.size)) (PIE X pins σ tg R) E {s with heap:=s.heap.push {cls:=.type "range",data:=.fields #[.int lo t,.int hi u,.int 1 v]},toks:=tk}:=by
 calc wpAny_pyIter_range (IsRange.new ..) (small_one h1 h2 z B) ?_;let j:Inv X pins σ H {s with heap:=s.heap.push {cls:=.type "range",data:=.fields #[.int lo t,.int hi u,.int 1 v]},toks:=tk}:=I.kept λb o e=>D2 _ e
 refine⟨(s.heap.push {cls:=.type "range",data:=.fields #[.int lo t,.int hi u,.int 1 v]}).objs.size,[(s.heap.push {cls:=.type "range",data:=.fields #[.int lo t,.int hi u,.int 1 v]}).objs.size],_,_,H,rfl,
  j.kept (t':=tk) λb o e=>D2 _ e,t5 _ lo (hi-lo).toNat,?_,λb F=>?_,q⟩
 ·let G:lo+((0:Nat):Int)*1=lo:=by simp
  let J:(((hi-lo).toNat:Nat):Int)-((0:Nat):Int)=Builtin.Range.rangeSize lo hi 1:=by rw[rangeSize_one];split<;>lia
  change IsRangeIter _ _ (lo+((0:Nat):Int)*1) ((((hi-lo).toNat:Nat):Int)-((0:Nat):Int)) 1;rw[G,J];show Lk _ rfl
 ·let e:b=(s.heap.push {cls:=.type "range",data:=.fields #[.int lo t,.int hi u,.int 1 v]}).objs.size:=by simpa using F
  subst e;show j.fpOk (L9 _) (j.hok.fresh (L9 _))
abbrev EJ(ta:TA):TI:=λσ H R=>ta σ H λvs H1=>∃j:Int,vs=[.int j] /\ -(2^62)<=j/\j<2^62/\R (Itr 0 j.toNat) H1
abbrev EK(ta:TA):TI:=λσ H R=>ta σ H λvs H1=>∃i j:Int,vs=[.int i,.int j]/\(-(2^62)<=i/\i<2^62 /\ -(2^62)<=j/\j<2^62)/\R (Itr i (j-i).toNat) H1
def uW{a:Expr}{p:Pos}(B:Gl X "range")(hm:X.mg "range"=N2)(F:PA X [a] ta)(hs:LQ [a] X.env=[(Wj,eval a X.env)]:=by rfl):PI X tg (.Call (.Name "range" p) [a] [] pos) (EJ ta):=by
 intro pins s σ H R I h;calc Call_ (eC I B hm boot_range (NR (thn (F pos pins s σ H _ I h) λus s1 g9=>?_) hs rfl));let⟨vs,H1,G,J,z⟩:=g9;let⟨j,e,z,L,q⟩:=z;subst e
 cases J with
 |cons r rr=>
  cases rr
  let⟨t,rfl⟩:=r;show call_range_1 (oz G ∅ ∅ z L (by simpa using q))
def uX{a b:Expr}{p:Pos}(F:Gl X "range")(hm:X.mg "range"=N2)(G:PA X [a,b] ta)(hs:LQ [a,b] X.env=[(Wj,eval a X.env),(Wj,eval b X.env)]:=by rfl)(z:LQ [b] X.env=[(Wj,eval b X.env)]:=by rfl):
 PI X tg (.Call (.Name "range" p) [a,b] [] pos) (EK ta):=by
 intro pins s σ H R I h;calc Call_ (eC I F hm boot_range (NR (thn (G pos pins s σ H _ I h) λus s1 g9=>?_) (by rw[hs,z]) (by rw[z];rfl)));let⟨vs,H1,J,L,B⟩:=g9
 let⟨i,j,e,⟨B,O,U,Y⟩,q⟩:=B;subst e
 cases L with
 |cons r rr=>
  cases rr with
  |cons r' rr=>
   cases rr
   let⟨t,rfl⟩:=r;let⟨t',rfl⟩:=r';show call_range_2 (oz J B O U Y q)
abbrev CJ(wi:TI)(g:TG)(tb:TS):TS:=λD σ H=>wi σ H λJ H1=>∃W:Nat->Nat->St->Hp->Prop,(∃m,W 0 m σ H1)/\∀i m σ H,W i m σ H->
 (J.stop i H/\D.nx σ H)∨(J.go i H/\∃N:St->Hp->Prop,(∀σ' H',N σ' H'->∃m',m'<m/\W (i+1) m' σ' H')/\∀x H',J.yld i H x H'->g x σ H' λσ2 H2=>tb {D with nx:=N,ct:=N,bk:=D.nx} σ2 H2)
abbrev jF(fp:List Wk)(h:Heap):List (Wk×Obj):=fp.filterMap λb=>(h.get? b).map λo=>(b,o)
def dB{o:Obj}(j:b∈fp)(e:h.get? b=Z o):(b,o)∈jF fp h:=Ub.mpr ⟨b,j,by rw[e];rfl⟩
def uY{p:Wk×Obj}(j:p∈jF fp h):p.1∈fp/\h.get? p.1=Z p.2:=by
 let⟨b,z,e⟩:=Ub.mp j
 cases q:h.get? b with
 |none=>rw[q]at e;cases e
 |some o=>rw[q]at e;let e':(b,o)=p:=LG.inj e;subst e';show⟨z,q⟩
def Inv.pinned(I:Inv X pins σ H s)(hf:∀b∈fp,cu X pins H b)(ho:∀b∈fp,∃o,s.heap.get? b=Z o/\∀v,o.data≠.cell v):Inv X (pins++jF fp s.heap) σ H s:=
 I.pins_of λp q=>(Lb.mp q).elim (λz=>I.pin p (LH _ z)) λz=>by let⟨j,e⟩:=uY z;let⟨f0,f1,f2,_⟩:=hf p.1 j;let⟨o,e',d⟩:=ho p.1 j;rw[e]at e';cases e';show⟨e,f0,f1,f2,d⟩
def Inv.unpinned{pl:List (Wk×Obj)}(I:Inv X (pins++pl) σ H s):Inv X pins σ H s:=I.pins_of λp j=>I.pin p (LH _ (Nu _ j))
def CK{iter:Expr}{wi:TI}{g:TG}{tb:TS}(L:PassesOwn (model X.prog X.w) X.A X.env X.xe)(hc:X.calm=Wi)(hi:PI X tg iter wi)(hg:PG X tg g)(j:PSs X body tb)(hs:∀x,Oj iter X.env x=pure x:=by intro _;rfl):PS X (.For tg iter body [] pos) (CJ wi g tb):=by
 intro pins s σ H D I h;calc wpAny_For (thn (hi pins s σ H _ I h) λv s1 h1=>thn h1 λitv s2 h2=>?_) hs;let⟨it,fp,tn,J,H2,e,I2,T,IK,f2,W,⟨m0,w0⟩,turn⟩:=h2;subst e;let stat:∀{H':Hp},(∀b∈fp,H' b=N2)->∀b∈fp,cu X pins H' b:=λhn b j=>⟨hn b j,(f2 b j).2⟩;calc codeAny_forLoop_any (λn s'=>∃i σ' H',Inv X pins σ' H' s'/\tn i s'.heap/\(∀b∈fp,H' b=N2)/\W i n σ' H') ?_ m0 ⟨0,σ,H2,I2,IK,λb j=>(f2 b j).1,w0⟩;rintro n s3 ⟨i,σ3,fv,I3,O,U,w3⟩
 rcases turn i n σ3 fv w3 with⟨stop,qn⟩|⟨go,N,hN,step⟩
 ·calc ON L (thn (T.done X rfl rfl rfl hc i pins s3 σ3 fv X.xe I3 (stat U) O stop) λr s4 F=>?_);let⟨hr,I4⟩:=F;subst hr;show SO ⟨σ3,fv,I4,qn⟩
 ·calc ON L (thn (T.item X rfl rfl rfl hc i pins s3 σ3 fv X.xe I3 (stat U) O go) fun r s4 F=>?_);let⟨u,hr,h4⟩:=F;subst hr;calc ON L (thn h4 fun _ s5 F=>?_);let⟨x,H5,I5,r5,y5,G,IM⟩:=F;let IN:=I5.pinned (stat IM) (T.obj _ _ G);calc ON L (thn (hg _ s5 σ3 H5 x u _ IN r5 (step x H5 y5)) fun _ s6 F=>?_);let⟨σ6,H6,I6,q6⟩:=F;calc ON L (thn (j _ s6 σ6 H6 _ I6 q6) fun f s7 B=>?_);let again:∀{σ7:St} {q:Hp},Inv X (pins++jF fp s5.heap) σ7 q s7->N σ7 q->∃m,m<n/\∃i σ' H',Inv X pins σ' H' s7/\tn i s7.heap/\(∀b∈fp,H' b=N2)/\W i m σ' H':=fun {σ7 q} z Y=>by
   let⟨m',hm,w7⟩:=hN σ7 q Y;calc⟨m',hm,i+1,σ7,q,z.unpinned,T.keep _ _ _ G λb j o e=>(z.pin (b,o) (LH _ (LH _ (dB j e)))).1,λb j=>?_,w7⟩;let⟨o,e,d⟩:=T.obj _ _ G b j;show(z.pin (b,o) (LH _ (LH _ (dB j e)))).2.1
  cases f with
  |next=>let⟨σ7,q,z,Y⟩:=B;show again z Y
  |cont=>let⟨σ7,q,z,Y⟩:=B;show again z Y
  |brk=>let⟨σ7,q,z,B⟩:=B;show⟨σ7,q,z.unpinned,B⟩
  |ret v=>let⟨x7,σ7,q,z,r7,B⟩:=B;show⟨x7,σ7,q,z.unpinned,r7,B⟩
end
end
variable{f:q7->q7->Sem q7}{op:TX}
section
noncomputable abbrev R2:=V->V->Hp->VK->Prop
abbrev OpR(X:Cx)(f:q7->q7->Sem q7)(r:R2):Prop:=
 ∀(pins:List (Wk×Obj)) (s:J4) (σ:St) (H:Hp) (x y:V) (v u:q7) (Q:VK),Inv X pins σ H s->RelV x v->RelV y u->r x y H Q->
  Lu (model X.prog X.w) X.A (f v u) (EP X pins σ Q) X.xe s
abbrev UnR(X:Cx)(f:q7->Sem q7)(r:V->Hp->VK->Prop):Prop:=
 ∀(pins:List (Wk×Obj)) (s:J4) (σ:St) (H:Hp) (x:V) (v:q7) (Q:VK),Inv X pins σ H s->RelV x v->r x H Q->
  Lu (model X.prog X.w) X.A (f v) (EP X pins σ Q) X.xe s
abbrev CallR(X:Cx)(f:q7)(r:List V->Hp->VK->Prop):Prop:=
 ∀(pins:List (Wk×Obj)) (s:J4) (σ:St) (H:Hp) (xs:List V) (us:List q7) (Q:VK),Inv X pins σ H s->Vals xs us->r xs H Q->
  Lu (model X.prog X.w) X.A (call f us) (EP X pins σ Q) X.xe s
abbrev G3(X:Cx)(r:V->Hp->(Bool->Hp->Prop)->Prop):Prop:=
 ∀(pins:List (Wk×Obj)) (s:J4) (σ:St) (H:Hp) (x:V) (v:q7) (Q:Bool->Hp->Prop),Inv X pins σ H s->RelV x v->r x H Q->
  Lu (model X.prog X.w) X.A (truthy v) (TP X pins σ Q) X.xe s
abbrev tOp(r:R2)(ta tb:TE):TE:=λσ H Q=>ta σ H λx H1=>tb σ H1 λy H2=>r x y H2 Q
abbrev tUn(r:V->Hp->VK->Prop)(ta:TE):TE:=λσ H Q=>ta σ H λx H1=>r x H1 Q
abbrev rI(C:Int->Int->Prop)(g:Int->Int->V):R2:=λx y H Q=>∃i j,x=.int i/\y=.int j/\C i j/\Q (g i j) H
abbrev rI0(g:Int->Int->V):R2:=λx y H Q=>∃i j,x=.int i/\y=.int j/\Q (g i j) H
abbrev rU(g:Int->V):V->Hp->VK->Prop:=λx H Q=>∃i,x=.int i/\Q (g i) H
section
variable{X:Cx}{a b c:Expr}{ta tb tc:TE}{pos:Pos}
def xP(q:PE X a ta)(z:PE X b tb){R:V->V->Hp->Prop}(I:Inv X pins σ H s)(h:ta σ H λx H1=>tb σ H1 λy H2=>R x y H2){Q:q7->J4->Prop}(hf:∀v u s2 x y H2,Inv X pins σ H2 s2->RelV x v->RelV y u->R x y H2->Lu (model X.prog X.w) X.A (f v u) Q X.xe s2):
 Lu (model X.prog X.w) X.A (eval a X.env) (λv s₁=>Lu (model X.prog X.w) X.A (eval b X.env) (λu s₂=>Lu (model X.prog X.w) X.A (f v u) Q X.xe s₂) X.xe s₁) X.xe s:=by
 calc thn (q pins s σ H _ I h) λv s1 j=>?_;let⟨x,H1,B,F,G⟩:=j;calc thn (z pins s1 σ H1 _ B G) λu s2 j=>?_;let⟨y,H2,J,L,O⟩:=j;show hf v u s2 x y H2 J F L O
def EL{op:Qn}{r:R2}(ho:OpR X (NL op) r)(j:PE X a ta)(z:PE X b tb):PE X (.BinOp a op b pos) (tOp r ta tb):=by intro pins s σ H Q I h;show wpAny_BinOp (xP j z I h λv u s2 x y H2 B rx ry q=>ho pins s2 σ H2 x y v u Q B rx ry q)
def EM{op:UnaryOp}{r:V->Hp->VK->Prop}(ho:UnR X (unaryOp op) r)(j:PE X a ta):PE X (.UnaryOp op a pos) (tUn r ta):=by intro pins s σ H Q I h;show UnaryOp_ (thn (j pins s σ H _ I h) λv s1 q=>(by let⟨x,H1,z,B,F⟩:=q;show ho pins s1 σ H1 x v Q z B F))
def opI{C:Int->Int->Prop}{g:Int->Int->Int}(rule:∀(i j:Int) (t u:Tok) (s:J4) (Q:q7->J4->Prop) (E:q7->J4->Prop),C i j->Q (.int (g i j) s.toks) {s with toks:=s.toks+1}->Lu (model X.prog X.w) X.A (f (.int i t) (.int j u)) Q E s):
 OpR X f (rI C λi j=>.int (g i j)):=by
 intro pins s σ H x y v u Q I rx ry h;let⟨i,j,rfl,rfl,z,q⟩:=h;let⟨t,rfl⟩:=rx;let⟨t',rfl⟩:=ry;show rule i j t t' s _ _ z ⟨.int (g i j),H,I.tok _,⟨_,rfl⟩,q⟩
def t6{g:Int->Int->Int}(rule:∀(i j:Int) (t u:Tok) (s:J4) (Q:q7->J4->Prop) (E:q7->J4->Prop),Q (.int (g i j) s.toks) {s with toks:=s.toks+1}->Lu (model X.prog X.w) X.A (f (.int i t) (.int j u)) Q E s):
 OpR X f (rI0 λi j=>.int (g i j)):=by
 intro pins s σ H x y v u Q I rx ry h;let⟨i,j,rfl,rfl,q⟩:=h;let⟨t,rfl⟩:=rx;let⟨t',rfl⟩:=ry;show rule i j t t' s _ _ ⟨.int (g i j),H,I.tok _,⟨_,rfl⟩,q⟩
def t7{g:Int->Int->Bool}(rule:∀(i j:Int) (t u:Tok) (s:J4) (Q:q7->J4->Prop) (E:q7->J4->Prop),Q (.bool (g i j)) s->Lu (model X.prog X.w) X.A (f (.int i t) (.int j u)) Q E s):
 OpR X f (rI0 λi j=>.bl (g i j)):=by
 intro pins s σ H x y v u Q I rx ry h;let⟨i,j,rfl,rfl,q⟩:=h;let⟨t,rfl⟩:=rx;let⟨t',rfl⟩:=ry;show rule i j t t' s _ _ ⟨.bl (g i j),H,I,rfl,q⟩
abbrev G4(i j:Int):Prop:=0<=j/\j<=1000000/\i.natAbs<2^64
def op_add:OpR X (NL .Add) (rI0 λi j=>.int (i+j)):=t6 λ_ _ _ _ _ _ _ q=>add_int q
def CL:OpR X (NL .Sub) (rI0 λi j=>.int (i-j)):=t6 λ_ _ _ _ _ _ _ q=>sub_int q
def CM:OpR X (NL .Mod) (rI (λ_ j=>0<j) λi j=>.int (i%j)):=opI λi j _ _ _ _ _ z q=>by let h1:(0:Int)<j:=z;show mod_int' ∅ (by rw[Int.fmod_eq_emod_of_nonneg i ∅];show q)
def CN:OpR X (NL .Pow) (rI G4 λi j=>.int (i^j.toNat)):=opI λ_ _ _ _ _ _ _ z q=>pow_int_small z.1 z.2.1 z.2.2 q
def AD:OpR X (Qi .Add) (rI0 λi j=>.int (i+j)):=t6 λ_ _ _ _ _ _ _ q=>iadd_int q
def AE:OpR X (Qi .Sub) (rI0 λi j=>.int (i-j)):=t6 λ_ _ _ _ _ _ _ q=>isub_int q
def unI{f:q7->Sem q7}{g:Int->Int}(rule:∀(i:Int) (t:Tok) (s:J4) (Q:q7->J4->Prop) (E:q7->J4->Prop),Q (.int (g i) s.toks) {s with toks:=s.toks+1}->Lu (model X.prog X.w) X.A (f (.int i t)) Q E s):
 UnR X f (rU λi=>.int (g i)):=by
 intro pins s σ H x v Q I rx h;let⟨i,rfl,q⟩:=h;let⟨t,rfl⟩:=rx;show rule i t s _ _ ⟨.int (g i),H,I.tok _,⟨_,rfl⟩,q⟩
def CO:UnR X (unaryOp .USub) (rU λi=>.int (-i)):=unI λ_ _ _ _ _ q=>neg_int q
end
section
variable{X:Cx}{a b c:Expr}{ta tb tc:TE}{pos:Pos}
def EN:OpR X (Mt .Lt) (rI0 λi j=>.bl (decide (i<j))):=t7 λ_ _ _ _ _ _ _ q=>lt_int q
def EO:OpR X (Mt .LtE) (rI0 λi j=>.bl (decide (i<=j))):=t7 λ_ _ _ _ _ _ _ q=>le_int q
def EQ:OpR X (Mt .Gt) (rI0 λi j=>.bl (decide (j<i))):=t7 λ_ _ _ _ _ _ _ q=>gt_int q
def ER:OpR X (Mt .GtE) (rI0 λi j=>.bl (decide (j<=i))):=t7 λ_ _ _ _ _ _ _ q=>ge_int q
def OpR.or{r r':R2}(h:OpR X f r)(h':OpR X f r'):OpR X f (λx y H Q=>r x y H Q∨r' x y H Q):=by
 intro pins s σ H x y v u Q I rx ry q
 rcases q with q|q
 ·show h pins s σ H x y v u Q I rx ry q
 ·show h' pins s σ H x y v u Q I rx ry q
def AF{r:R2}(ho:OpR X (Mt op) r)(j:PE X a ta)(z:PE X b tb)(hm:Q7 op b=Wj):PE X (.Compare a [op] [b] pos) (tOp r ta tb):=by intro pins s σ H Q I h;show wpAny_Compare1 (xP j z I h λv u s2 x y H2 B rx ry q=>ho pins s2 σ H2 x y v u Q B rx ry q) hm
abbrev t8(t:TE):TT:=λσ H Q=>t σ H λx H'=>∃k,x=.bl k/\Q k H'
def AG{r:R2}(ho:OpR X (Mt op) r)(j:PE X a ta)(q:PE X b tb)(hm:Q7 op b=Wj):PT X (.Compare a [op] [b] pos) (t8 (tOp r ta tb)):=by
 intro pins s σ H Q I h;refine wpAny_isTrue_Compare1 (thn (j pins s σ H _ I h) λv s1 ⟨x,H1,B,F,G⟩=>thn (q pins s1 σ H1 _ B G) λu s2 ⟨y,H2,J,L,O⟩=>thn (ho pins s2 σ H2 x y v u _ J F L O) λc s3 ⟨z,U,Y,fv,k,e,q3⟩=>?_) hm
 subst e
 cases fv
 show NB ⟨U,Y,q3⟩
abbrev oA(r r':R2)(ta tb tc:TE):TE:=λσ H Q=>ta σ H λx H1=>tb σ H1 λy H2=>r x y H2 λz H3=>∃k,z=.bl k /\
 (if k=Wi then tc σ H3 λw' H4=>r' y w' H4 Q else Q (.bl Wj) H3)
def xQ{op':TX}{r r':R2}(ho:OpR X (Mt op) r)(j:OpR X (Mt op') r')(J:PE X a ta)(L:PE X b tb)(O:PE X c tc)(hm:Se [op,op'] [b,c]=Wj:=by with_unfolding_all rfl):PE X (.Compare a [op,op'] [b,c] pos) (oA r r' ta tb tc):=by
 intro pins s σ H Q I h;refine Compare_chain (thn (J pins s σ H _ I h) λv s1 ⟨x,H1,U,Y,fv⟩=>chain_link (thn (L pins s1 σ H1 _ U fv) λu s2 ⟨y,H2,I2,q,q2⟩=>thn (ho pins s2 σ H2 x y v u _ I2 Y q q2) λd s3 ⟨z,B,F,r3,k,e,G⟩=>?_)) hm
 subst e
 cases r3
 refine NB ?_
 cases k with
 |false=>show ite_ff ⟨.bl Wj,B,F,rfl,G⟩
 |true=>show ite_tt (chain_last (thn (O pins s3 σ B _ F G) λw' s4 g9=>(by let⟨z',H4,I4,r4,q4⟩:=g9;show j pins s4 σ H4 y z' u w' Q I4 q r4 q4)))
def xR{op':TX}{r r':R2}(ho:OpR X (Mt op) r)(j:OpR X (Mt op') r')(J:PE X a ta)(L:PE X b tb)(O:PE X c tc)(hm:Se [op,op'] [b,c]=Wj:=by with_unfolding_all rfl):PT X (.Compare a [op,op'] [b,c] pos) (t8 (oA r r' ta tb tc)):=by
 intro pins s σ H Q I h;refine isTrue_chain (thn (J pins s σ H _ I h) λv s1 ⟨x,H1,U,Y,fv⟩=>test_link (thn (L pins s1 σ H1 _ U fv) λu s2 ⟨y,H2,I2,q,q2⟩=>thn (ho pins s2 σ H2 x y v u _ I2 Y q q2) λd s3 ⟨z,B,F,r3,k,e,G⟩=>?_)) hm
 subst e
 cases r3
 refine NB ?_
 cases k with
 |false=>
  let⟨k',e',q'⟩:=G
  cases e'
  show ite_ff ⟨B,F,q'⟩
 |true=>
  calc ite_tt (test_last (thn (O pins s3 σ B _ F G) λw' s4 ⟨z',H4,I4,r4,q4⟩=>thn (j pins s4 σ H4 y z' u w' _ I4 q r4 q4) λd' s5 g9=>?_));let⟨z2,H5,I5,r5,k2,e2,q5⟩:=g9;subst e2
  cases r5
  show NB ⟨H5,I5,q5⟩
abbrev xS(K:Frag)(x:V)(H:Hp)(k:Bool):Prop:=
 match x with
 |.non=>k=Wj
 |.bl b=>k=b
 |.int i=>k=(i != 0)
 |.str y=>y.length<=Lf/\k=((y.length:Int) != 0)
 |.byt y=>y.size<=Lf/\k=((y.size:Int) != 0)
 |.ref p=>(∃xs,SqL K H p xs/\k = !xs.isEmpty)∨(∃xs,SqT K H p xs/\k = !xs.isEmpty)∨∃kvs,H p=Z (.dK kvs)/\k = !kvs.isEmpty
 |_=>False
def t9{κ:Type}{kvs:List (κ×V)}{vs:List (κ×q7)}(r:KV kvs vs):(!vs.isEmpty) = !kvs.isEmpty:=by cases r<;>rfl
def jG{xs:List V}{its:List q7}(r:Vals xs its):(!its.toArray.isEmpty) = !xs.isEmpty:=by cases r<;>simp
def fA:(Lf:Nat)<2^63:=by rw[D0];decide
def CP:G3 X (λx H Q=>∃k,xS X.K x H k/\Q k H):=by
 intro pins s σ H x v Q I rx h;let⟨k,e,q⟩:=h;let F:=fA;let hs:Lf=16777216:=D0
 cases x with
 |non=>
  cases rx
  let e':k=Wj:=e;subst e';show truthy_none ⟨H,I,q⟩
 |bl b=>
  cases rx
  let e':k=b:=e;subst e';show NB ⟨H,I,q⟩
 |int i=>let⟨t,rfl⟩:=rx;let e':k=(i != 0):=e;subst e';show PySem.P.truthy_int ⟨H,I,q⟩
 |str y=>let⟨t,rfl⟩:=rx;obtain⟨z,e'⟩:y.length<=Lf/\k=((y.length:Int) != 0):=e;subst e';show PySem.P.truthy_str ∅ ⟨H,I.tok _,q⟩
 |byt y=>let⟨t,rfl⟩:=rx;obtain⟨z,e'⟩:y.size<=Lf/\k=((y.size:Int) != 0):=e;subst e';show PySem.W.truthy_bytes ∅ ⟨H,I.tok _,q⟩
 |ref p=>
  cases rx
  let e':(∃xs,SqL X.K H p xs/\k = !xs.isEmpty)∨(∃xs,SqT X.K H p xs/\k = !xs.isEmpty)∨∃kvs,H p=Z (.dK kvs)/\k = !kvs.isEmpty:=e
  rcases e' with⟨xs,hx,e'⟩|⟨xs,hx,e'⟩|⟨kvs,hx,e'⟩
  ·subst e';let⟨its,r,pl,j⟩:=I.list hx;let hlen:=r.length;show wpAny_truthy_list pl.isList (by simp only[Lo];lia) ⟨H,I.tok _,by rw[jG r];show q⟩
  ·subst e';let⟨its,r,pl,j⟩:=I.tuple hx;let hlen:=r.length;show truthy_tuple pl (by simp only[Lo];lia) ⟨H,I.tok _,by rw[jG r];show q⟩
  ·subst e';obtain⟨j,B,vs,r,m⟩:kvs.length<=Lf/\(p==N3)=Wj/\∃vs,KV kvs vs/\s.heap.DictOf (aJ X.prog X.w) p vs:=I.hok p _ hx;let hlen:kvs.length=vs.length:=NS r;show wpAny_truthy_dict B m ∅ ⟨H,I.tok _,by rw[t9 r];show q⟩
 |_=>show(show False from e).elim
def xT(j:PE X a ta)(he:∀whole,isTrue a X.env whole=(do let v <-whole;RT a.pos;holding [v] (truthy v))):
 PT X a (λσ H Q=>ta σ H λx H'=>∃k,xS X.K x H' k/\Q k H'):=by
 intro pins s σ H Q I h;show isTrue_plain (thn (j pins s σ H _ I h) λv s1 q=>(by let⟨x,H1,z,B,F⟩:=q;show CP pins s1 σ H1 x v Q z B F)) (he _)
def tf:OpR X (NL .Add) (λx y H Q=>∃i j,x=.str i/\y=.str j/\i.length+j.length<=Lf/\Q (.str (i++j)) H):=by intro pins s σ H x y v u Q I rx ry h;let⟨i,j,rfl,rfl,z,q⟩:=h;let⟨t,rfl⟩:=rx;let⟨t',rfl⟩:=ry;show add_str (λt' tk=>⟨.str (i++j),H,I.tok _,⟨_,rfl⟩,q⟩) z
def cZ{x:V}(r:Vals [x] us):∃u,us=[u]/\RelV x u:=by
 cases r with
 |cons j q=>cases q;show⟨_,rfl,j⟩
def tj{x y:V}(r:Vals [x,y] us):∃u w',us=[u,w']/\RelV x u/\RelV y w':=by
 cases r with
 |cons j q=>
  cases q with
  |cons z B=>cases B;show⟨_,_,rfl,j,z⟩
def xU:CallR X (.builtin "abs") (λxs H Q=>∃i,xs=[.int i]/\Q (.int (if i<0 then -i else i)) H):=by intro pins s σ H xs us Q I r h;let⟨i,rfl,q⟩:=h;let⟨u,rfl,t,rfl⟩:=cZ r;show call_abs_int λu tk=>⟨.int (if i<0 then -i else i),H,I.tok _,⟨_,rfl⟩,q⟩
def uZ(B:X.calm=Wi):CallR X (.builtin "max") (λxs H Q=>∃i j,xs=[.int i,.int j]/\Q (.int (if j > i then j else i)) H):=by
 intro pins s σ H xs us Q I r h;let⟨i,j,rfl,q⟩:=h;let⟨u,w',rfl,⟨t,rfl⟩,⟨t',rfl⟩⟩:=tj r;refine max_two_ints (I.ok.hd B) λh' tk k=>⟨_,H,I.kept k,?_,q⟩
 by_cases z:j > i
 ·rw[if_pos z,if_pos z];show⟨_,rfl⟩
 ·rw[if_neg z,if_neg z];show⟨_,rfl⟩
def v5(B:X.calm=Wi):CallR X (.builtin "min") (λxs H Q=>∃i j,xs=[.int i,.int j]/\Q (.int (if j<i then j else i)) H):=by
 intro pins s σ H xs us Q I r h;let⟨i,j,rfl,q⟩:=h;let⟨u,w',rfl,⟨t,rfl⟩,⟨t',rfl⟩⟩:=tj r;refine min_two_ints (I.ok.hd B) λh' tk k=>⟨_,H,I.kept k,?_,q⟩
 by_cases z:j<i
 ·rw[if_pos z,if_pos z];show⟨_,rfl⟩
 ·rw[if_neg z,if_neg z];show⟨_,rfl⟩
def v6:CallR X (.type "int") (λxs H Q=>(∃i,xs=[.int i]/\Q (.int i) H)∨∃k,xs=[.bl k]/\Q (.int (if k then 1 else 0)) H):=by
 intro pins s σ H xs us Q I r h
 rcases h with⟨i,rfl,q⟩|⟨k,rfl,q⟩
 ·let⟨u,rfl,t,rfl⟩:=cZ r;show call_int_int ⟨.int i,H,I,⟨_,rfl⟩,q⟩
 ·let⟨u,rfl,j⟩:=cZ r
  cases j
  show call_int_bool ⟨.int (if k then 1 else 0),H,I.tok _,⟨_,rfl⟩,q⟩
abbrev G5(K:Frag)(x:V)(H:Hp)(n:Nat):Prop:=
 match x with
 |.str y=>y.length<=Lf/\n=y.length
 |.byt y=>y.size<=Lf/\n=y.size
 |.ref p=>(∃xs,SqL K H p xs/\n=xs.length)∨∃xs,SqT K H p xs/\n=xs.length
 |_=>False
def xV:CallR X (.builtin "len") (λxs H Q=>∃x n,xs=[x]/\G5 X.K x H n/\Q (.int n) H):=by
 intro pins s σ H xs us Q I r h;let⟨x,n,rfl,e,q⟩:=h;let⟨u,rfl,rx⟩:=cZ r;let B:=fA;let hs:Lf=16777216:=D0
 cases x with
 |str y=>let⟨t,rfl⟩:=rx;obtain⟨j,e'⟩:y.length<=Lf/\n=y.length:=e;subst e';show len_str ∅ ⟨.int _,H,I.tok _,⟨_,rfl⟩,q⟩
 |byt y=>let⟨t,rfl⟩:=rx;obtain⟨j,e'⟩:y.size<=Lf/\n=y.size:=e;subst e';show PySem.W.len_bytes ∅ ⟨.int _,H,I.tok _,⟨_,rfl⟩,q⟩
 |ref p=>
  cases rx
  let e':(∃xs,SqL X.K H p xs/\n=xs.length)∨∃xs,SqT X.K H p xs/\n=xs.length:=e
  rcases e' with⟨xs,hx,e'⟩|⟨xs,hx,e'⟩
  ·subst e';let⟨its,r',pl,z⟩:=I.list hx;let hlen:=r'.length;show Calls.call_len_list pl.isList (by simp only[Lo];lia) ⟨.int xs.length,H,I.tok _,⟨_,by simp only[Lo];rw[hlen]⟩,q⟩
  ·subst e';let⟨its,r',pl,z⟩:=I.tuple hx;let hlen:=r'.length;show len_tuple pl (by simp only[Lo];lia) ⟨.int xs.length,H,I.tok _,⟨_,by simp only[Lo];rw[hlen]⟩,q⟩
 |_=>show(show False from e).elim
end
end
section
structure ObjM(h:Heap)(x dx C:Wk)(mA:Str->Option q7):Prop where
 obj:h.get? x=Z (SN C dx)
 ns:h.Ns1 dx mA
 ne:dx≠x
def v7{dx:Wk}{mA:Str->Option q7}(n:h.Ns1 dx mA):∃od,h.get? dx=Z od/\∀name,T7 name od=Z (mA name):=by
 let⟨o,es,ep,ho,hd,B,_,hm⟩:=n;calc⟨o,ho,λname=>?_⟩;let e:=hm name;unfold nsFind findBy at e;rw[<-Array.find?_toList]at e;unfold T7;rw[hd];dsimp only
 split
 ·rename_i y q;rw[q]at e;show congrArg Z e
 ·rename_i q;rw[q]at e;let a:es.toList.any (·.refKey)=Wj:=by
   rw[Ur];intro y F;let⟨z,t,j⟩:=B y (Array.mem_toList_iff.mp F);simp[DictEntry.refKey,j]
  let a':¬es.toList.any (·.refKey)=Wi:=by rw[a];show Lg
  rw[if_neg a'];show congrArg Z e
def ObjM.look{x dx C:Wk}{mA:Str->Option q7}(I:ObjM h x dx C mA):∃od,PySem.W.InstAt h x (SN C dx) C (Z od)/\∀name,T7 name od=Z (mA name):=
 let⟨od,ho,j⟩:=v7 I.ns
 ⟨od,⟨I.obj,rfl,rfl,ho⟩,j⟩
def We{o:Option q7}(r:RelO (Z v) o):∃u,o=Z u/\RelV v u:=by
 cases o with
 |none=>show(show False from r).elim
 |some u=>show⟨u,rfl,r⟩
section
variable{P:LN}{w:Mq}{H H':Hp}{h h':Heap}{a C dx:Wk}{fs fs':List (Str×V)}
def AH(hok:HOk P w H h)(e:H a=Z (.ins C dx fs)):∃mA,ObjM h a dx C mA/\(∀f,RelO (fs.lookup f) (mA f))/\PySem.Within mA (fs.map (·.1))/\fs.length<=1000/\H dx=Z (.own a):=by let⟨d,z,ne,ob,mA,n,r,q⟩:=(show ObjOk P w H h a (.ins C dx fs)from hok a _ e);show⟨mA,⟨ob,n,ne⟩,r,q,z,d⟩
end
structure Cls(K:Frag)(C:Wk):Prop where
 pg:UR K C Str.empty=Wi
 hd:PySem.W.hasDictIn K C=Wi
 po:PySem.W.plainOver K C=Wi
 sa:PySem.W.findIn K (.ref C) "__setattr__"=Z (Z (.builtin "object.__setattr__"))
def Cls.get{C:Wk}(c:Cls K C)(f:Str):UR K C f=Wi:=c.pg
section
variable{X:Cx}{pins:List (Wk×Obj)}{σ:St}{H:Hp}{s:J4}{A:Mz}{E:q7->J4->Prop}{Q:q7->J4->Prop}{c:q7}{b:Bool}
inductive cG(K:Frag)(H:Hp):V->q7->Prop where
 |non:cG K H .non (.type "NoneType")
 |bl (x:Bool):cG K H (.bl x) (.type "bool")
 |int (i:Int):cG K H (.int i) (.type "int")
 |str (x:Str):cG K H (.str x) (.type "str")
 |flt (x:UInt64):cG K H (.flt x) (.type "float")
 |lst {a:Wk} {xs:List V} (e:H a=Z (.lst xs)):cG K H (.ref a) (.type "list")
 |frz {a:Wk} {o:Obj} {xs:List V} (e:H a=Z (.frz o (.lst xs))):cG K H (.ref a) (.type "list")
 |tup {a:Wk} {xs:List V} (e:SqT K H a xs):cG K H (.ref a) (.type "tuple")
 |dK {a:Wk} {kvs:List (Key×V)} (e:H a=Z (.dK kvs)):cG K H (.ref a) (.type "dict")
 |dT {a:Wk} {kvs:List (List Key×V)} (e:H a=Z (.dT kvs)):cG K H (.ref a) (.type "dict")
 | ins {a C dx:Wk} {fs:List (Str×V)} (e:H a=Z (.ins C dx fs)) (cl:Cls K C) (ha:PySem.W.findIn K (.ref C) "__class__"=Z (Z (.builtin "object.__class__")))
    (hn:PySem.W.specialIn K (.builtin "object.__class__") "__get__"=Z (Z (.builtin "getset_descriptor.__get__"))) (htk:PySem.W.takesIn K (.builtin "object.__class__")=Z Wi)
    (hm:PySem.W.mroIn K C (.type "object")=Z Wi):cG K H (.ref a) (.ref C)
def v8{x:V}{t:q7}(I:Inv X pins σ H s)(rx:RelV x u)(ty:cG X.K H x t)(e:PySem.W.kitOne X.K t c=Z b)(h:∀tk,Q (.bool b) {s with toks:=tk}):
 Lu (model X.prog X.w) A (call (.builtin "isinstance") [u,c]) Q E s:=by
 cases ty with
 |non=>cases(show u=Pg from rx);show Nw PySem.W.kitx_none I.kIn OH e (λz=>nomatch z) h
 |bl y=>cases(show u=U9 y from rx);show Nw PySem.W.kitx_bool I.kIn OH e (λz=>nomatch z) h
 |int i=>let⟨t,q⟩:=(show ∃t,u=UP i t from rx);cases q;show Nw PySem.W.kitx_int I.kIn OH e (λz=>nomatch z) h
 |str y=>let⟨t,q⟩:=(show ∃t,u=UQ y t from rx);cases q;show Nw PySem.W.kitx_str I.kIn OH e (λz=>nomatch z) h
 |flt y=>let⟨t,q⟩:=(show ∃t,u=Value.float y t from rx);cases q;show Nw PySem.W.kitx_float I.kIn OH e (λz=>nomatch z) h
 |@lst a xs ea=>
  cases(show u=MV a from rx)
  let⟨_,_,n,_,h1⟩:=(show ObjOk X.prog X.w H s.heap a (.lst xs)from I.hok a _ ea);show Nw Us I.kIn ⟨_,h1,rfl⟩ e (λz=>nomatch z) h
 |@frz a ob xs ea=>
  cases(show u=MV a from rx)
  let⟨_,_,_,n,_,h1⟩:=(show ObjOk X.prog X.w H s.heap a (.frz ob (.lst xs))from I.hok a _ ea);show Nw Us I.kIn ⟨_,h1,rfl⟩ e (λz=>nomatch z) h
 |@tup a xs ea=>
  cases(show u=MV a from rx)
  let⟨_,_,p,_⟩:=I.tuple ea;let⟨o,h1,h2,_⟩:=p;show Nw PySem.W.kitx_tuple I.kIn ⟨o,h1,h2⟩ e (λz=>nomatch z) h
 |@dK a kvs ea=>
  cases(show u=MV a from rx)
  let⟨_,_,vs,_,p⟩:=(show ObjOk X.prog X.w H s.heap a (.dK kvs)from I.hok a _ ea);let⟨o,es,ep,h1,h2,_⟩:=p;show Nw Ut I.kIn ⟨o,h1,h2.1⟩ e (λz=>nomatch z) h
 |@dT a kvs ea=>
  cases(show u=MV a from rx)
  let⟨_,_,xs,_,o,es,ep,h1,h2,_⟩:=(show ObjOk X.prog X.w H s.heap a (.dT kvs)from I.hok a _ ea);show Nw Ut I.kIn ⟨o,h1,h2.1⟩ e (λz=>nomatch z) h
 |@ins a C dx fs ea cl ha hn htk hm=>
  cases(show u=MV a from rx)
  let⟨mA,O,_⟩:=AH I.hok ea;let⟨od,J,_⟩:=O.look;show Nw (PySem.W.kitx_own (cl.get _) cl.hd ha hn htk hm) I.kIn J e (λz=>nomatch z) h
end
end
variable{ps:List Str}
section
structure Room(k:Nat)(A:Mz):Prop where
 hd:A.handled=N2
 dp:A.depth+3*k+5<recursionLimit
 un:A.units+16*k+200<Ol
def Room.deeper{k:Nat}(r:Room (k+1) A)(env:Env):Room k (A.deeper env):=⟨r.hd,by let:=r.dp;change A.depth+1+3*k+5<_;lia,by let:=r.un;change A.units+3+16*k+200<_;lia⟩
def Room.depth{k:Nat}(r:Room k A):A.depth<recursionLimit:=by let:=r.dp;lia
def Room.units{k:Nat}(r:Room k A):A.units+64<Ol:=by let:=r.un;lia
abbrev CQ:TA:=λ_ H Q=>Q [] H
abbrev zX(ta:TE)(tr:TA):TA:=λσ H Q=>ta σ H λx H1=>tr σ H1 λxs H2=>Q (x::xs) H2
section
variable{X:Cx}{e:Expr}{es:List Expr}{te:TE}{t:TA}{pos:Pos}
def v9:PA X [] CQ:=λ_ _ _ _ H Q I h=>Uu ⟨[],H,I,.nil,h⟩
def kR(q:PE X e te)(z:PA X es t)(hs:LQ (e::es) X.env=(Wj,eval e X.env)::LQ es X.env:=by rfl):PA X (e::es) (zX te t):=by intro pos pins s σ H Q I h;rw[hs];change Lu _ _ (spliced ((Wj,eval e X.env)::Qe pos (LQ es X.env))) _ _ s;calc Rr (thn (q pins s σ H _ I h) λu s1 j=>?_);let⟨x,H1,B,F,G⟩:=j;show thn (z pos pins s1 σ H1 _ B G) λus s2 j=>(by let⟨xs,H2,J,L,O⟩:=j;show⟨x::xs,H2,J,.cons F L,O⟩)
abbrev G6(t:TA):TE:=λσ H Q=>t σ H λxs H1=>xs.length<=Lf/\∀p,H1 p=N2->Q (.ref p) (upd H1 p (.tup xs))
abbrev G7(t:TA):TE:=λσ H Q=>t σ H λxs H1=>xs.length<=Lf/\∀p,H1 p=N2->Q (.ref p) (upd H1 p (.lst xs))
def CS{B}(h:PA X es t):PE X (.Tuple es B pos) (G6 t):=by
 intro pins s σ H Q I hq;refine wpAny_Tuple_spliced (thn (h pos pins s σ H _ I hq) λus s1 ⟨xs,H1,j,r,z,q⟩=>⟨by rw[<-r.length];show z,?_⟩)
 let hf:H1 s1.heap.objs.size=N2:=j.hok.fresh (L9 _);calc⟨.ref s1.heap.objs.size,upd H1 s1.heap.objs.size (.tup xs),j.laid (t':=s1.toks) (λb u e=>D2 _ e) (L9 _) ?_,rfl,q _ hf⟩;show⟨z,us,r,⟨_,Lk _ rfl,rfl,_,rfl⟩⟩
def CT(h:PA X es t):PE X (.List es pos) (G7 t):=by
 intro pins s σ H Q I hq;refine wpAny_List_spliced (thn (h pos pins s σ H _ I hq) λus s1 ⟨xs,H1,j,r,z,q⟩=>⟨by rw[<-r.length];show z,?_⟩)
 let hf:H1 s1.heap.objs.size=N2:=j.hok.fresh (L9 _);calc⟨.ref s1.heap.objs.size,upd H1 s1.heap.objs.size (.lst xs),j.laid (t':=s1.toks) (λb u e=>D2 _ e) (L9 _) ?_,rfl,q _ hf⟩;show⟨z,us,0,r,Lk _ rfl⟩
end
noncomputable abbrev Sp:=List V->Hp->VK->XK->Prop
noncomputable abbrev CXT:=List Env->Hp->J4->XK->q7->J4->Prop
structure tm(P:LN)(w:Mq)(K:Frag)(mg:Str->Option q7)(base:Heap)(A:Mz)(outer:List Env)(s:J4)(H:Hp):Prop where
 frames:A.frames=Z outer
 mod:Mod K mg base
 bs:∀b o,base.get? b=Z o->s.heap.get? b=Z o/\H b=N2
 bsz:base.objs.size<=s.heap.objs.size
 funs:s.heap.FunFrames base outer
 frf:∀b∈frs outer,H b=N2
 hok:HOk P w H s.heap
 bare:RQ s.gens
abbrev CE(outer:List Env)(P:LN)(w:Mq)(H:Hp)(s:J4)(Q:VK)(u:q7)(s':J4):Prop:=∃v H',s'.os=s.os/\RQ s'.gens/\Un (frs outer) [] H H' s.heap s'.heap/\HOk P w H' s'.heap/\RelV v u/\Q v H'
abbrev CR(CX:CXT)(outer:List Env)(P:LN)(w:Mq)(H:Hp)(s:J4)(Q:VK)(E:XK)(r:Result)(s':J4):Prop:=
 match r with
 |.ok (.ret u)=>CE outer P w H s Q u s'
 |.ok _=>False
 |.error e=>CX outer H s E e s'
structure eE(P:LN)(w:Mq)(K:Frag)(mg:Str->Option q7)(base:Heap)(CX:CXT)(k:Nat)(f:Wk)(fd:PR)(ps:List Str)(sp:Sp):Prop where
 len:∀vs H Q E,sp vs H Q E->vs.length=ps.length
 run:∀(A:Mz) (outer:List Env) (s:J4) (H:Hp) (args:Args) (us:List q7) (vs:List V) (Q:VK) (E:XK),Room k A->tm P w K mg base A outer s H->Uv s fd args (ps.zip us)->Vals vs us->sp vs H Q E->
  QS (model P w) A (.call (.ref f) args) (CR CX outer P w H s Q E) s
section
variable{X:Cx}{pins:List (Wk×Obj)}{σ:St}{H:Hp}{s s':J4}
def Inv.env0(I:Inv X pins σ H s):tm X.prog X.w X.K X.mg X.base X.A X.stack s H:=⟨I.ok.frames,I.ok.mod,I.bs,Ml I.ok.bsz I.sz,I.stack,I.stkFree,I.hok,I.bare⟩
def Inv.after{Q:VK}(I:Inv X pins σ H s)(h:CE X.stack X.prog X.w H s Q u s'):EP X pins σ Q u s':=by let⟨v,H',os,bare,un,hok,r,q⟩:=h;let⟨j,g,d,t,os'⟩:=s';obtain rfl:os'=s.os:=os;show⟨v,H',I.call (h':=j) (g':=g) (d':=d) (t':=t) (ch:=[]) un hok bare (λb z=>absurd z (_)),r,q⟩
end
abbrev zY(sp:Sp)(dvs:List V)(E:XK)(t:TA):TE:=λσ H Q=>t σ H λvs H1=>sp (vs++dvs) H1 Q E
abbrev Binds(K:Frag)(fd:PR)(ps:List Str)(ds:List q7):Prop:=∀(s:J4) (us:List q7),K.In s.heap->(us++ds).length=ps.length->Uv s fd ⟨us,[]⟩ (ps.zip (us++ds))
def Binds.all{fd:PR}(h:∀us:List q7,us.length=ps.length->bindArgs fd ⟨us,[]⟩=pure (ps.zip us)):Binds K fd ps []:=λs us _ j=>by rw[MB]at j⊢;show .of_eq (h us j)
abbrev jH(CX:CXT)(X:Cx)(E:XK):Prop:=∀(pins:List (Wk×Obj)) (σ:St) (H:Hp) (s:J4) (e:q7) (s':J4),Inv X pins σ H s->CX X.stack H s E e s'->X.xe e s'
section
variable{X:Cx}{CX:CXT}{k:Nat}{f C:Wk}{fd:PR}{ps:List Str}{sp:Sp}{dvs:List V}{ds:List q7}{E:XK}{x m:Str}{p pos apos:Pos}{e o:Expr}{es:List Expr}{ta:TE}{t:TA}
def va{Q:VK}{vs:List V}(F:eE X.prog X.w X.K X.mg X.base CX k f fd ps sp)(z:Room k X.A)(B:Binds X.K fd ps ds)(hd:Vals dvs ds)(hx:jH CX X E)(I:Inv X pins σ H s)(r:Vals vs us)(h:sp (vs++dvs) H Q E):Lu (model X.prog X.w) X.A (call (.ref f) us) (EP X pins σ Q) X.xe s:=by
 let q:Vals (vs++dvs) (us++ds):=r.append hd;let G:(us++ds).length=ps.length:=by rw[<-q.length];show F.len _ _ _ _ h
 refine wpAny_call (Qp (F.run X.A X.stack s H ⟨us,[]⟩ (us++ds) (vs++dvs) Q E z I.env0 (B s us I.kIn G) q h) λr s' j=>?_)
 cases r with
 |error e=>show hx pins σ H s e s' I j
 |ok fl=>
  cases fl with
  |ret u=>show I.after j
  |next=>show False.elim j
  |brk=>show False.elim j
  |cont=>show False.elim j
def AI(F:eE X.prog X.w X.K X.mg X.base CX k f fd ps sp)(G:Room k X.A)(J:Gl X x)(hm:X.mg x=Z (.ref f))(L:PU X.K (.ref f)=Wi)(O:Binds X.K fd ps ds)(hd:Vals dvs ds)(hx:jH CX X E)(U:PA X (e::es) t)(j:(x==("__debug__":Str))=Wj:=by decide)(he:LQ (e::es) X.env=(Wj,eval e X.env)::LQ es X.env:=by rfl)(z:(Qe pos (LQ es X.env)).any (·.1)=Wj:=by rfl):
 PE X (.Call (.Name x p) (e::es) [] pos) (zY sp dvs E t):=by
 intro pins s σ H Q I h;calc Qf (kQ I J hm ?_ j);calc PySem.W.callWith_K (h₀:=X.base) I.ok.mod.kin L (thn (U pos pins s σ H _ I h) λus s1 ⟨vs,H1,B,r,q⟩=>⟨B.kIn,?_⟩) he z;show va F G O hd hx B r q
def xW(F:eE X.prog X.w X.K X.mg X.base CX k f fd ps sp)(q:Room k X.A)(z:Gl X x)(hm:X.mg x=Z (.ref f))(B:PU X.K (.ref f)=Wi)(G:Binds X.K fd ps ds)(hd:Vals dvs ds)(hx:jH CX X E)(j:(x==("__debug__":Str))=Wj:=by decide):PE X (.Call (.Name x p) [] [] pos) (zY sp dvs E CQ):=by intro pins s σ H Q I h;calc Qf (kQ I z hm ?_ j);show PySem.W.callWith_K0 I.kIn B (va (us:=[]) F q G hd hx I .nil h)
end
structure io(N P:List Str)(sc:Scope):Prop where
 kind:sc.kind=.function
 co:sc.isCoroutine=Wj
 gen:sc.isGenerator=Wj
 nd:N.Nodup
 pre:N.take P.length=P
 par:∀x∈P,sc.names.lookup x=Z .local∨sc.names.lookup x=Z .cell
 nofree:∀y∈sc.names,y.2≠.free
def md{Nz:Str->Option P6}{x:Str}:∀{binds:List (Str×q7)} {m:Str->Option q7},(∀v,(x,v)∉binds)->VE Nz binds m x=m x
 |[],_,_=>rfl
 |(n,v)::r,m,h=>by
  unfold VE;rw[md λw hw=>h w (L4 _ hw)]
  split
  ·let:x≠n:=by rintro rfl;show h v Ld
   simp[this]
  ·rfl
def mf{Nz:Str->Option P6}{x:Str}:∀{binds:List (Str×q7)} {m:Str->Option q7},(∀v,(x,v)∉binds)->VF Nz binds m x=m x
 |[],_,_=>rfl
 |(n,v)::r,m,h=>by
  unfold VF;rw[mf λw hw=>h w (L4 _ hw)]
  split
  ·rfl
  ·let:x≠n:=by rintro rfl;show h v Ld
   simp[this]
def mj{Nz:Str->Option P6}{x:Str}{v:q7}:∀{P:List Str} {vs:List q7} {i:Nat} {m:Str->Option q7},P.Nodup->P[i]?=Z x->vs[i]?=Z v->Nz x=Z .local->
 VE Nz (P.zip vs) m x=Z v
 |[],_,_,_,_,h,_,_=>by simp at h
 |_::_,[],_,_,_,_,h,_=>by simp at h
 |p::P,w::vs,0,m,nd,h1,h2,j=>by simp at h1 h2;subst h1;subst h2;change VE Nz ((p,w)::P.zip vs) m p=_;unfold VE;rw[md λv q=>(Na.mp nd).1 (Qa q).1,if_pos j];simp
 |p::P,w::vs,i+1,m,nd,h1,h2,j=>by change VE Nz ((p,w)::P.zip vs) m x=_;unfold VE;show mj (i:=i) (Na.mp nd).2 (by simpa using h1) (by simpa using h2) j
def mm{Nz:Str->Option P6}{x:Str}{v:q7}:∀{P:List Str} {vs:List q7} {i:Nat} {m:Str->Option q7},P.Nodup->P[i]?=Z x->vs[i]?=Z v->Nz x≠Z .local->
 VF Nz (P.zip vs) m x=Z v
 |[],_,_,_,_,h,_,_=>by simp at h
 |_::_,[],_,_,_,_,h,_=>by simp at h
 |p::P,w::vs,0,m,nd,h1,h2,j=>by simp at h1 h2;subst h1;subst h2;change VF Nz ((p,w)::P.zip vs) m p=_;unfold VF;rw[mf λv q=>(Na.mp nd).1 (Qa q).1,if_neg j];simp
 |p::P,w::vs,i+1,m,nd,h1,h2,j=>by change VF Nz ((p,w)::P.zip vs) m x=_;unfold VF;show mm (i:=i) (Na.mp nd).2 (by simpa using h1) (by simpa using h2) j
abbrev de(N:List Str)(vs:List V):St:=vs.map Z++I7 (N.length-vs.length) N2
abbrev jd(CX:CXT)(P:LN)(w:Mq)(K:Frag)(mg:Str->Option q7)(base:Heap)(N:List Str)(qual:Str)(scope:Scope)(f:Wk)(cd:q7)(A:Mz)(outer:List Env)(s:J4)(H:Hp)(E:XK):Cx where
 prog:=P
 w:=w
 K:=K
 mg:=mg
 base:=base
 A:=A.deeper (T8 qual scope s.heap.objs.size f cd)
 N:=N
 s₀:=s
 H₀:=H
 env:=T8 qual scope s.heap.objs.size f cd
 outer:=outer
 stack:=T8 qual scope s.heap.objs.size f cd::outer
 ex:=[]
 calm:=Wi
 fn:=λ_=>Wi
 pn:=[]
 xe:=λe s'=>Lu (model P w) (A.deeper (T8 qual scope s.heap.objs.size f cd)) (leaving (T8 qual scope s.heap.objs.size f cd) e) (λ_ s''=>CX outer H s E e s'') (λe' s''=>CX outer H s E e' s'') s'
def oB{sc:Scope}{n:Nat}(h:sc.names.lookup x=Z .cell):∃c,(Om n sc.names []).lookup x=Z c:=by let q:=Qq sc.names n [] (.inl h);show OY.mp q
def vc{CX:CXT}{mg:Str->Option q7}{base:Heap}{qual:Str}{scope:Scope}{f:Wk}{cd:q7}{outer:List Env}{s1:J4}{E:XK}{vs:List V}(S:io N ps scope)(hd:A.handled=N2)(j:tm P w K mg base A outer s H)(U:vs.length=ps.length)(r:Vals vs us)(x:InCallC s s.heap.objs.size (VE (T8 qual scope s.heap.objs.size f cd).kindOf (ps.zip us) λ_=>N2) (Om (s.heap.objs.size+1) scope.names []) (VF (T8 qual scope s.heap.objs.size f cd).kindOf (ps.zip us) λ_=>N2) s1):
 Inv (jd CX P w K mg base N qual scope f cd A outer s H E) [] (de N vs) H s1:=by
 let L:ps.length<=N.length:=by let:=congrArg Pb S.pre;rw[LK]at this;lia
 let⟨h1,tk,rfl,G⟩:=x.done;let noA:∀b:Wk,b∉(jd CX P w K mg base N qual scope f cd A outer s H E).ex:=λb z=>absurd (show b∈([]:List Wk)from z) (_)
 refine⟨⟨j.mod,S.kind,rfl,rfl,L9 _,λy z c h1 h2=>?_,λy B=>?_,λy c _ h=>?_,λ_=>hd,Around.frames_deeper j.frames,.inr ⟨rfl,rfl⟩,λb z=>absurd z (noA b),j.bs,j.bsz,λb _ _=>noA b,λb z=>absurd z (noA b),j.funs,j.frf⟩,
  rfl,j.bare,Un.kept G,⟨_,x.toInCall.ns,λi y v h1 h2 Y=>?_⟩,λy c h=>⟨_,x.cell y c h⟩,j.hok.fresh (L9 _),λy c h=>?_,λp F=>absurd (show p∈([]:List (Wk×Obj))from F) (_),j.hok.kept G,?_⟩
 ·show name_of_addr x.apart (NA h1) (NA h2)
 ·let B:scope.names.lookup y=Z .cell∨scope.names.lookup y=Z .free:=B
  rcases B with B|B
  ·show oB B
  ·show absurd rfl (S.nofree _ (NA B))
 ·show PZ (x.above y c (NA h))
 ·let hi:i<vs.length:=by
   unfold de at h2
   by_cases hi:i<vs.length
   ·show hi
   ·rw[L3 (by simpa using hi)]at h2
    rw[Mb]at h2
    split at h2<;>cases h2
  let O:vs[i]?=Z v:=by
   unfold de at h2;rw[L8 (by simpa using hi),Lp]at h2
   cases e:vs[i]? with
   |none=>rw[e]at h2;cases h2
   |some a=>rw[e]at h2;cases h2;rfl
  let⟨u,J,rv⟩:=r.get O;let F:ps[i]?=Z y:=by rw[<-S.pre,Ob ∅];show h1
  let ndP:ps.Nodup:=by rw[<-S.pre];show S.nd.sublist (List.take_sublist _ _)
  refine⟨u,rv,?_⟩
  rcases S.par y (Lh F)with k|k
  ·show .inl ⟨k,mj ndP F J k⟩
  ·let⟨c,e⟩:=oB (n:=s.heap.objs.size+1) k;calc .inr ⟨.inl k,c,e,?_⟩;let q:=x.cell y c e;rw[mm ndP F J (by change scope.names.lookup y≠_;rw[k];decide)]at q
   show q
 ·show j.hok.fresh (PZ (x.above y c (NA h)))
 ·unfold de;change _=N.length;rw[hH,h7,N5];lia
def ES {CX:CXT}{mg:Str->Option q7}{base:Heap}{k:Nat}{f:Wk}{name qual:Str}{params:Arguments}{scope:Scope}{dV kV doc pm cdv ct oc:q7}{an od:Option Wk}{osl:Array (Option q7)}{sp:Sp}(lk:K.lookup f=Z ⟨oc,od,.func (Pj name qual params body scope dV kV doc pm an cdv ct),osl⟩)(G:Rt K cdv qual=Wi)(S:io N ps scope)(len:∀vs H Q E,sp vs H Q E->vs.length=ps.length)(j:∀(A:Mz) (outer:List Env) (s:J4) (H:Hp) (vs:List V) (Q:VK) (E:XK),Room k (A.deeper (T8 qual scope s.heap.objs.size f cdv))->sp vs H Q E->
   ∃t,PSs (jd CX P w K mg base N qual scope f cdv A outer s H E) body t/\t {nx:=λ_ H'=>Q .non H',rt:=Q} (de N vs) H):
 eE P w K mg base CX (k+1) f (Pj name qual params body scope dV kV doc pm an cdv ct) ps sp:=by
 calc⟨len,λA outer s H args us vs Q E L B O r F=>?_⟩;let U:=len _ _ _ _ F;let KX:K.In s.heap:=B.mod.kin.keeps λb o e=>(B.bs b o e).1;let lim:s.heap.NoLimit:=B.mod.nolimit.keeps λb o e=>(B.bs b o e).1;let z:∀y∈ps.zip us,scope.names.lookup y.1=Z .local∨(scope.names.lookup y.1=Z .cell/\((Om (s.heap.objs.size+1) scope.names []).lookup y.1).isSome=Wi):=λ⟨n,v⟩ hy=>by
  rcases S.par n (Qa hy).1 with q|q
  ·show .inl q
  ·show .inr ⟨q,Qq _ _ _ (.inl q)⟩
 calc codeAny_call_function L.depth (KX _ _ lk) rfl S.co S.gen rfl (PySem.W.codeRec_of KX G) (O _ _ _ _ ?_);calc wpAny_newFunctionEnv_cells S.kind z λenv he s1 x=>?_;subst he;calc⟨lim.keeps x.toInCall.keep,codeAny_func ?_⟩;let⟨t,Y,fv⟩:=j A outer s H vs Q E (L.deeper _) F;let I:Inv (jd CX P w K mg base N qual scope f cdv A outer s H E) [] (de N vs) H s1:=vc S L.hd B U r x;calc O7 (Y [] s1 (de N vs) H _ I fv) (λfl s' hs=>?_) λe s' hs=>hs;let fin:∀{σ':St} {H':Hp} {v:V} {u:q7},Inv (jd CX P w K mg base N qual scope f cdv A outer s H E) [] σ' H' s'->RelV v u->Q v H'->CE outer P w H s Q u s':=λ{σ' H' v u} J rv q=>⟨v,H',J.os,J.bare,J.base,J.hok,rv,q⟩
 cases fl with
 |ret u=>let⟨v,σ',H',J,rv,q⟩:=hs;show fin J rv q
 |next=>let⟨σ',H',J,q⟩:=hs;show fin (v:=V.non) (u:=Pg) J rfl q
 |brk=>let⟨_,_,_,q⟩:=hs;show False.elim q
 |cont=>let⟨_,_,_,q⟩:=hs;show False.elim q
end
section
section
variable{X:Cx}{x:Str}{p pos:Pos}{e:Expr}{es:List Expr}{t:TA}{id T:String}{r:List V->Hp->VK->Prop}
abbrev tCB(r:List V->Hp->VK->Prop)(t:TA):TE:=λσ H Q=>t σ H λvs H1=>r vs H1 Q
def bS(z:CallR X (.builtin id) r)(B:Gl X x)(hm:X.mg x=N2)(F:Ph x=Z (.builtin id))(G:PA X (e::es) t)(J:x≠"__name__":=by decide)(j:(x==("__debug__":Str))=Wj:=by decide)(he:LQ (e::es) X.env=(Wj,eval e X.env)::LQ es X.env:=by rfl)(q:(Qe pos (LQ es X.env)).any (·.1)=Wj:=by rfl):PE X (.Call (.Name x p) (e::es) [] pos) (tCB r t):=by intro pins s σ H Q I h;calc Qf (eC I B hm F ?_ J j);show PyProof.Rows.callWith_builtin1 (thn (G pos pins s σ H _ I h) λus s1 L=>(by let⟨vs,H1,O,U,Y⟩:=L;show z pins s1 σ H1 vs us Q O U Y)) he q
def eV(z:CallR X (.type T) r)(B:Gl X x)(hm:X.mg x=N2)(F:Ph x=Z (.type T))(G:PA X (e::es) t)(J:x≠"__name__":=by decide)(j:(x==("__debug__":Str))=Wj:=by decide)(he:LQ (e::es) X.env=(Wj,eval e X.env)::LQ es X.env:=by rfl)(q:(Qe pos (LQ es X.env)).any (·.1)=Wj:=by rfl):PE X (.Call (.Name x p) (e::es) [] pos) (tCB r t):=by intro pins s σ H Q I h;calc Qf (eC I B hm F ?_ J j);show NR (thn (G pos pins s σ H _ I h) λus s1 L=>(by let⟨vs,H1,O,U,Y⟩:=L;show z pins s1 σ H1 vs us Q O U Y)) he q
end
end
end L2
namespace HT
open PySem PyProof.Rows
section
variable{prog:LN}{w:Mq}{A:Mz}{E:q7->J4->Prop}{s:J4}
def cat_tup{t b:Wk}{vs ws:List q7}{Q:q7->J4->Prop}(U:IsTup s.heap t vs.toArray)(Y:IsTup s.heap b ws.toArray)(G:vs≠[])(h1:ws=[]->Q (.ref t) s)(h2:ws≠[]->Q (.ref s.heap.objs.size) {s with heap:=s.heap.push {cls:=.type "tuple",data:=.seq (vs++ws).toArray}})(hsz:vs.length+ws.length<=Lf):Lu (model prog w) A (NL .Add (.ref t) (.ref b)) Q E s:=by
 let⟨⟨cls,dd,data,sl⟩,ho,J,n,hd⟩:=id U;let⟨⟨L,q,data2,z⟩,j,B,O,hd2⟩:=id Y;simp only at J hd B hd2;subst J hd B hd2;let e:vs.toArray++ws.toArray=(vs++ws).toArray:=by simp
 by_cases hw:ws=[]
 ·show Uw ⟨_,ho,rfl⟩ ⟨_,j,rfl⟩ Sf TY Qr Qj (Q8 _ _)
   (tuple_addW1 t b vs.toArray ws.toArray n O dd q sl z (by simpa using G) (by simp[hw])) ⟨ho,j,h1 hw⟩
 ·refine Uw ⟨_,ho,rfl⟩ ⟨_,j,rfl⟩ Sf TY Qr Qj (Q8 _ _)
   (tuple_addW2 t b vs.toArray ws.toArray n O dd q sl z (by simpa using G) (by simpa using hw) (by rw[Lo,Lo];show hsz)) ⟨ho,j,?_⟩
  rw[e];show h2 hw
abbrev sIx(n d:Nat):Option Int->Nat
 |none=>d
 |some v=>if v<0 then(v+(n:Int)).toNat else min v.toNat n
def sIx_none(n d:Nat):sIx n d N2=d:=rfl
def sIx_nat(n d k:Nat):sIx n d (Z (k:Int))=min k n:=by
 change(if(k:Int)<0 then((k:Int)+(n:Int)).toNat else min (k:Int).toNat n)=min k n
 rw[if_neg ∅,Li]
def CU(n d:Nat)(hd:d<=n)(o:Option Int):sIx n d o<=n:=by
 cases o with
 |none=>show hd
 |some v=>
  change(if v<0 then(v+(n:Int)).toNat else min v.toNat n)<=n
  by_cases hv:v<0
  ·rw[if_pos hv];lia
  ·rw[if_neg hv];show Nat.min_le_right _ _
def rC(v:Int)(n d:Nat):(if v<0 then max (v+(n:Int)) 0 else min v (n:Int))=((sIx n d (Z v):Nat):Int):=by
 change(if v<0 then max (v+(n:Int)) 0 else min v (n:Int))=(((if v<0 then(v+(n:Int)).toNat else min v.toNat n):Nat):Int)
 by_cases hv:v<0
 ·simp only[if_pos hv];lia
 ·simp only[if_neg hv];lia
def tq(lo hi:Option Int)(n:Nat):Q3 lo hi 1 (n:Int)=(((sIx n 0 lo:Nat):Int),((sIx n n hi:Nat):Int)):=by
 let h1:¬((1:Int)<0):=∅
 unfold Q3;simp only[h1,if_false];refine VG ?_ ?_
 ·cases lo with
  |none=>rfl
  |some v=>show rC v n 0
 ·cases hi with
  |none=>rfl
  |some v=>show rC v n n
def tu(i j:Nat):OM (i:Int) (j:Int) 1=j-i:=by
 unfold OM;let h1:(1:Int) > 0:=∅
 simp only[h1,if_true,Int.ediv_one]
 split<;>lia
def jI{v:q7}{o:Option Int}{Q:Option Int->J4->Prop}(p:Sy v o)(h:Q o s):Lu (model prog w) A (Builtin.Slice.slicePartIndex v) Q E s:=by
 cases p with
 |none=>show slicePart_none h
 |int i t=>show slicePart_int h
def eF{sl:Wk}{vl vu:q7}{lo hi:Option Int}{n:Nat}{Q:Int×Int×Nat->J4->Prop}(hs:s.heap.IsSliceOf sl vl vu .none)(pl:Sy vl lo)(pu:Sy vu hi)(h:Q (((sIx n 0 lo:Nat):Int),1,sIx n n hi-sIx n 0 lo) s):Lu (model prog w) A (Ru (.ref sl) (pure (n:Int))) Q E s:=by
 let⟨os,j,z,q⟩:=id hs;unfold Ru Builtin.Slice.sliceFields;calc gV (gV (MM j q (x:=vl) rfl (gV (MM j q (x:=vu) rfl (gV (MM j q (x:=.none) rfl (KZ ?_)))))));calc gV (slicePart_none ?_);change Lu _ _ (if((1:Int)==0)=Wi then _ else _) _ _ s
 rw[if_neg (·)]
 calc gV (jI pl (gV (jI pu (gV (KZ ?_)))));change Lu _ _ (match Q3 lo hi 1 (n:Int)with|(lo,hi)=>pure (lo,(1:Int),OM lo hi 1)) _ _ s
 rw[tq lo hi n];change Lu _ _ (pure (((sIx n 0 lo:Nat):Int),(1:Int),OM ((sIx n 0 lo:Nat):Int) ((sIx n n hi:Nat):Int) 1)) _ _ s;rw[tu];show KZ h
def xX(xs:Array q7)(i k:Nat):((Lc k).filterMap λ(m:Nat)=>xs[((i:Int)+(m:Int)*1).toNat]?).toArray=((xs.toList.drop i).take k).toArray:=by
 let e:(λ(m:Nat)=>xs[((i:Int)+(m:Int)*1).toNat]?)=λm=>xs[i+m]?:=by
  funext m
  let:((i:Int)+(m:Int)*1).toNat=i+m:=∅
  rw[this]
 rw[e];let:=pick_run xs i k;rw[List.filterMap_map]at this;let j:((λx=>xs[x]?)∘λx=>i+x)=λm=>xs[i+m]?:=rfl;rw[j]at this;rw[this]
def getItem_tuple_cut{t sl:Wk}{items:Array q7}{vl vu:q7}{lo hi:Option Int}{Q:q7->J4->Prop}(z:IsTup s.heap t items)(hs:s.heap.IsSliceOf sl vl vu .none)(pl:Sy vl lo)(pu:Sy vu hi)(hw:¬(sIx items.size 0 lo=0/\sIx items.size items.size hi=items.size))(h:Q (.ref s.heap.objs.size) {s with heap:=s.heap.push {cls:=.type "tuple",data:=.seq ((items.toList.drop (sIx items.size 0 lo)).take (sIx items.size items.size hi-sIx items.size 0 lo)).toArray}})(hsz:items.size<=Lf):Lu (model prog w) A (Sz (.ref t) (.ref sl)) Q E s:=by
 let j:sizeOk (.seq ((items.toList.drop (sIx items.size 0 lo)).take (sIx items.size items.size hi-sIx items.size 0 lo)).toArray):=by change((items.toList.drop (sIx items.size 0 lo)).take (sIx items.size items.size hi-sIx items.size 0 lo)).toArray.size<=Lf;rw[Lo,LK,Ny,LI];lia
 let O:sIx items.size items.size hi<=items.size:=CU _ _ (L9 _) hi;let⟨os,B,F,L⟩:=id hs;let G:s.TypeIs (.ref sl) "slice":=⟨os,B,F⟩;unfold Sz
 try with_reducible refine MP ?_
 first|refine gV (KZ ?_)|skip
 refine gV (Ux z.typeIs (·) ?_)
 refine gV (Mj (name:=Mf "__getitem__") z.typeIs O1
  (MA O1 z.typeIs TM ?_ (Uc _ _)))
 change Lu _ _ (Rw (.ref t)>>=_) _ _ s;calc gV (tupleItemsOf_ z ?_);calc gV (OS G ?_);rw[if_pos (·)]
 calc gV (eF hs pl pu ?_);let J:¬((((sIx items.size 0 lo:Nat):Int)==0&&(1:Int)==1&&(sIx items.size items.size hi-sIx items.size 0 lo)==items.size)=Wi):=by intro q;rw[D1,D1]at q;let U:((sIx items.size 0 lo:Nat):Int)=0:=OO q.1.1;let Y:sIx items.size items.size hi-sIx items.size 0 lo=items.size:=OO q.2;show hw ⟨∅,∅⟩
 change Lu _ _ (if(((sIx items.size 0 lo:Nat):Int)==0&&(1:Int)==1&&(sIx items.size items.size hi-sIx items.size 0 lo)==items.size)=Wi then _ else _) _ _ s
 rw[if_neg J,xX]
 first
  |show gV (m:=OZ _) (ND (KZ ⟨_,rfl,KZ h⟩) j)
  |show gV (m:=OZ _) (ND (gV (KZ (KZ ⟨_,rfl,KZ h⟩))) j)
  |show gV (gV (m:=OZ _) (ND (KZ (KZ ⟨_,rfl,KZ h⟩)) j))
  |show gV (gV (m:=OZ _) (ND (KZ ⟨_,rfl,KZ h⟩) j))
end
end HT
namespace L2
open PySem PySem.Spec PyProof.Rows
section
noncomputable abbrev TO:=St->Hp->(Option Int->Hp->Prop)->Prop
abbrev PO(X:Cx)(e:Option Expr)(t:TO):Prop:=
 ∀(pins:List (Wk×Obj)) (s:J4) (σ:St) (H:Hp) (Q:Option Int->Hp->Prop),Inv X pins σ H s->t σ H Q->
  Lu (model X.prog X.w) X.A (evalPart e X.env) (λu s'=>∃o H',Inv X pins σ H' s'/\Sy u o/\Q o H') X.xe s
abbrev AJ:TO:=λ_ H Q=>Q N2 H
abbrev ET(t:TE):TO:=λσ H Q=>t σ H λx H1=>∃i,x=.int i/\Q (Z i) H1
section
variable{X:Cx}{e:Expr}{te:TE}{lo hi:Option Expr}{tl th:TO}{pos p2:Pos}
def AK:PO X N2 AJ:=by intro pins s σ H Q I h;rw[evalPart_none];show KZ ⟨N2,H,I,.none,h⟩
def AL(h:PE X e te):PO X (Z e) (ET te):=by intro pins s σ H Q I hw;rw[evalPart_some];calc thn (h pins s σ H _ I hw) λu s1 j=>?_;let⟨x,H1,z,B,F⟩:=j;let⟨i,rfl,q⟩:=F;let⟨t,rfl⟩:=B;show⟨Z i,H1,z,.int i t,q⟩
abbrev SlR(X:Cx)(r:V->Option Int->Option Int->Hp->VK->Prop):Prop:=
 ∀(pins:List (Wk×Obj)) (s:J4) (σ:St) (H:Hp) (x:V) (v vl vu:q7) (lo hi:Option Int) (sl:Wk) (Q:VK),Inv X pins σ H s->RelV x v->s.heap.IsSliceOf sl vl vu .none->Sy vl lo->Sy vu hi->r x lo hi H Q->
  ∃T id,typeLookup (.type T) "__getitem__"=pure (Z (.builtin id))/\s.TypeIs v T/\Lu (model X.prog X.w) X.A (Sz v (.ref sl)) (EP X pins σ Q) X.xe s
def SlR.or{r r':V->Option Int->Option Int->Hp->VK->Prop}(h:SlR X r)(h':SlR X r'):SlR X (λx lo hi H Q=>r x lo hi H Q∨r' x lo hi H Q):=by
 intro pins s σ H x v vl vu lo hi sl Q I rx hs pl pu q
 rcases q with q|q
 ·show h pins s σ H x v vl vu lo hi sl Q I rx hs pl pu q
 ·show h' pins s σ H x v vl vu lo hi sl Q I rx hs pl pu q
abbrev tSl(r:V->Option Int->Option Int->Hp->VK->Prop)(te:TE)(tl th:TO):TE:=λσ H Q=>te σ H λx H1=>tl σ H1 λl H2=>th σ H2 λu H3=>r x l u H3 Q
def xY{r:V->Option Int->Option Int->Hp->VK->Prop}(B:SlR X r)(he:PE X e te)(F:PO X lo tl)(G:PO X hi th):PE X (.Subscript e (.Slice lo hi N2 p2) pos) (tSl r te tl th):=by
 intro pins s σ H Q I h;calc Subscript_ (thn (he pins s σ H _ I h) λv s1 j=>?_);let⟨x,H1,J,L,O⟩:=j;calc wpAny_Slice (thn (F pins s1 σ H1 _ J O) λvl s2 ⟨l,H2,U,pl,Y⟩=>thn (G pins s2 σ H2 _ U Y) λvu s3 j=>?_);let⟨u,z,fv,pu,q3⟩:=j;rw[evalPart_none];calc KZ ?_;let I4:Inv X pins σ z {s3 with heap:=s3.heap.push {cls:=.type "slice",data:=.fields #[vl,vu,.none]}}:=fv.kept (t':=s3.toks) λb ob q=>D2 _ q
 let⟨T,id,hT,ht,hg⟩:=B pins {s3 with heap:=s3.heap.push {cls:=.type "slice",data:=.fields #[vl,vu,.none]}} σ z x v vl vu l u s3.heap.objs.size Q I4 L (Heap.IsSliceOf.new ..) pl pu q3
 change Lu (model X.prog X.w) X.A (subscriptTail e (.Slice lo hi N2 p2) v (.ref s3.heap.objs.size)) (EP X pins σ Q) X.xe {s3 with heap:=s3.heap.push {cls:=.type "slice",data:=.fields #[vl,vu,.none]}}
 show tail_any (ops:=[.ref s3.heap.objs.size,v]) ht hT hg (by with_unfolding_all rfl)
abbrev gP(xs:List V)(lo hi:Option Int):List V:=(xs.drop (HT.sIx xs.length 0 lo)).take (HT.sIx xs.length xs.length hi-HT.sIx xs.length 0 lo)
def j5(xs:List V)(lo hi:Option Int):(gP xs lo hi).length<=xs.length:=by unfold gP;rw[LK,Ny];lia
abbrev G8(K:Frag):V->Option Int->Option Int->Hp->VK->Prop:=λx lo hi H Q=>∃a xs,x=.ref a/\SqT K H a xs /\
 ¬(HT.sIx xs.length 0 lo=0/\HT.sIx xs.length xs.length hi=xs.length)/\∀p,H p=N2->Q (.ref p) (upd H p (.tup (gP xs lo hi)))
def sl_tup:SlR X (G8 X.K):=by
 intro pins s σ H x v vl vu lo hi sl Q I rx hs pl pu h;let⟨a,xs,rfl,hx,hw,q⟩:=h
 cases rx
 let⟨its,r,j,z⟩:=I.tuple hx;let hlen:its.toArray.size=xs.length:=by rw[Lo];show r.length.symm
 calc⟨"tuple",_,PyProof.Rows.slot_tuple_getitem.lookup,j.typeIs,?_⟩;refine HT.getItem_tuple_cut j hs pl pu (by rw[hlen];show hw) ?_ (by rw[hlen];show z)
 rw[hlen];calc⟨.ref s.heap.objs.size,_,I.laid (t':=s.toks) (o:=.tup (gP xs lo hi)) (λb ob q=>D2 _ q) (L9 _) ?_,rfl,q _ (I.hok.fresh (L9 _))⟩;show⟨Ml (j5 xs lo hi) z,_,(r.drop (HT.sIx xs.length 0 lo)).take (HT.sIx xs.length xs.length hi-HT.sIx xs.length 0 lo),Rl _ _⟩
abbrev zZ(K:Frag):R2:=λx y H Q=>∃a b xs ys,x=.ref a/\y=.ref b/\SqT K H a xs/\SqT K H b ys/\xs≠[]/\xs.length+ys.length<=Lf /\
 (ys=[]->Q (.ref a) H)/\(ys≠[]->∀p,H p=N2->Q (.ref p) (upd H p (.tup (xs++ys))))
def Vals.nil_iff{xs:List V}{us:List q7}(r:Vals xs us):us=[]↔xs=[]:=by
 cases r with
 |nil=>simp
 |cons _ _=>simp
def op_catT:OpR X (NL .Add) (zZ X.K):=by
 intro pins s σ H x y v u Q I rx ry h;let⟨a,b,xs,ys,rfl,rfl,J,L,hx,F,O,U⟩:=h
 cases rx
 cases ry
 let⟨its,B,Y,_⟩:=I.tuple J;let⟨G,j,p2,_⟩:=I.tuple L;refine HT.cat_tup Y p2 (λz=>hx (B.nil_iff.mp z)) (λz=>⟨.ref a,H,I,rfl,O (j.nil_iff.mp z)⟩) (λz=>?_) (by rw[<-B.length,<-j.length];show F)
 calc⟨.ref s.heap.objs.size,_,I.laid (t':=s.toks) (o:=.tup (xs++ys)) (λb ob q=>D2 _ q) (L9 _) ?_,rfl,U (λw=>z (j.nil_iff.mpr w)) _ (I.hok.fresh (L9 _))⟩;show⟨by rw[hH];show F,_,B.append j,Rl _ _⟩
end
end
variable{its:List q7}
section
abbrev ixN(n:Nat)(i:Int):Option Nat:=if 0<=i then(if i<n then Z i.toNat else N2)else if -(n:Int)<=i then Z (i+n).toNat else N2
abbrev atI{α:Type}(xs:List α)(i:Int):Option α:=(ixN xs.length i).bind λj=>xs[j]?
def rE{n:Nat}{i:Int}{j:Nat}(h:ixN n i=Z j):seqIndex? i n=Z j/\j<n /\ -(n:Int)<=i/\i<n:=by
 unfold ixN at h
 by_cases h0:0<=i
 ·rw[if_pos h0]at h
  by_cases h1:i<n
  ·rw[if_pos h1]at h;let e:i.toNat=j:=LG.inj h;show⟨by rw[Ve h0 h1,e],∅,∅,h1⟩
  ·rw[if_neg h1]at h;cases h
 ·rw[if_neg h0]at h
  by_cases h1:-(n:Int)<=i
  ·rw[if_pos h1]at h;let e:(i+n).toNat=j:=LG.inj h;show⟨by rw[Uy ∅ h1,e],∅,h1,∅⟩
  ·rw[if_neg h1]at h;cases h
def rF{α:Type}{xs:List α}{i:Int}{v:α}(h:atI xs i=Z v):∃j,seqIndex? i xs.length=Z j/\xs[j]?=Z v/\j<xs.length /\ -(xs.length:Int)<=i/\i<xs.length:=by
 unfold atI at h
 cases e:ixN xs.length i with
 |none=>rw[e]at h;cases h
 |some j=>rw[e]at h;let⟨h1,h2,q,z⟩:=rE e;show⟨j,h1,h,h2,q,z⟩
def xZ{α:Type}(xs:List α)(v:α):atI (xs++[v]) (-1)=Z v:=by
 let j:(xs++[v]).length=xs.length+1:=by simp
 let e:ixN (xs++[v]).length (-1)=Z xs.length:=by
  unfold ixN;rw[j,if_neg (·),if_pos ∅]
  congr 1;lia
 unfold atI;rw[e];change(xs++[v])[xs.length]?=Z v;simp
abbrev kS(b:Expr):Prop:=∀o i,subscripted b Wj o i=operate [o,i] (Sz o i)
abbrev IxR(X:Cx)(r:R2):Prop:=
 ∀(value slice:Expr) (pins:List (Wk×Obj)) (s:J4) (σ:St) (H:Hp) (x y:V) (v u:q7) (Q:VK),Inv X pins σ H s->RelV x v->RelV y u->r x y H Q->
  subscripted slice Wj v u=operate [v,u] (Sz v u)->Lu (model X.prog X.w) X.A (subscriptTail value slice v u) (EP X pins σ Q) X.xe s
abbrev MtR(X:Cx)(id:String)(r:V->List V->Hp->VK->Prop):Prop:=
 ∀(pins:List (Wk×Obj)) (s:J4) (σ:St) (H:Hp) (x:V) (xs:List V) (v:q7) (us:List q7) (Q:VK),Inv X pins σ H s->RelV x v->Vals xs us->r x xs H Q->
  Lu (model X.prog X.w) X.A (call (.builtin id) (v::us)) (EP X pins σ Q) X.xe s
section
variable{X:Cx}{a b:Expr}{ta tb:TE}{pos:Pos}
def IxR.or{r r':R2}(h:IxR X r)(h':IxR X r'):IxR X (λx y H Q=>r x y H Q∨r' x y H Q):=by
 intro value slice pins s σ H x y v u Q I rx ry q hs
 rcases q with q|q
 ·show h value slice pins s σ H x y v u Q I rx ry q hs
 ·show h' value slice pins s σ H x y v u Q I rx ry q hs
def EU{r:R2}(j:IxR X r)(z:PE X a ta)(B:PE X b tb)(hs:kS b):PE X (.Subscript a b pos) (tOp r ta tb):=by intro pins s σ H Q I h;show Subscript_ (xP z B I h λv u s2 x y H2 F rx ry q=>j a b pins s2 σ H2 x y v u Q F rx ry q (hs _ _))
abbrev G9(K:Frag):R2:=λx y H Q=>∃p xs i v,x=.ref p/\y=.int i/\SqL K H p xs/\atI xs i=Z v/\Q v H
abbrev Ga(K:Frag):R2:=λx y H Q=>∃p xs i v,x=.ref p/\y=.int i/\SqT K H p xs/\atI xs i=Z v/\Q v H
def ix_list:IxR X (G9 X.K):=by
 intro value slice pins s σ H x y v u Q I rx ry h hs;let⟨p,xs,i,z,rfl,rfl,F,he,q⟩:=h
 cases rx
 let⟨t,rfl⟩:=ry;let⟨its,r,pl,O⟩:=I.list F;let⟨j,h1,h2,U,G,J⟩:=rF he;let⟨w,ew,rw'⟩:=r.get h2;let L:=r.length;let Y:=fA;let fin:EP X pins σ Q w s:=⟨z,H,I,rw',q⟩
 by_cases h0:0<=i
 ·let B:i.toNat=j:=by
   rw[Ve h0 J]at h1;show LG.inj h1
  show item_listR pl.isList h0 ∅ (by rw[B];simpa using ew) fin hs
 ·let B:(i+(its.toArray.size:Int)).toNat=j:=by
   rw[Uy ∅ G]at h1
   rw[Lo,<-L];show LG.inj h1
  show SA (x:=w) pl.isList.typeIs slot_list_getitem.lookup
   (wpAny_getItem_list_neg (Q:=λr s'=>r=w/\EP X pins σ Q r s') pl.isList ∅ (by rw[Lo]<;>lia) ∅ (by rw[B];simpa using ew) ⟨rfl,fin⟩) hs
def ix_tup:IxR X (Ga X.K):=by
 intro value slice pins s σ H x y v u Q I rx ry h hs;let⟨p,xs,i,z,rfl,rfl,B,he,q⟩:=h
 cases rx
 let⟨t,rfl⟩:=ry;let⟨its,r,pl,G⟩:=I.tuple B;let⟨j,h1,h2,J,L,O⟩:=rF he;let⟨w,ew,rw'⟩:=r.get h2;let F:=r.length;let U:=fA;let fin:EP X pins σ Q w s:=⟨z,H,I,rw',q⟩;show SA (x:=w) pl.typeIs slot_tuple_getitem.lookup
  (getItem_tuple (j:=j) (Q:=λr s'=>r=w/\EP X pins σ Q r s') pl ∅ ∅ (by rw[Lo,<-F];show h1) (by simpa using ew) ⟨rfl,fin⟩) hs
def tw(its:List q7)(n j:Nat)(u:q7):Pk (·.setIfInBounds j u) {cls:=.type "list",data:=.seq its.toArray n}={cls:=.type "list",data:=.seq (its.set j u).toArray n}:=by simp[Pk]
def Inv.lst{pins:List (Wk×Obj)}{σ:St}{H:Hp}{s:J4}{p:Wk}{xs:List V}(I:Inv X pins σ H s)(h:H p=Z (.lst xs)):
 ∃(its:List q7) (n:Nat),Vals xs its/\s.heap.get? p=Z {cls:=.type "list",data:=.seq its.toArray n}/\xs.length<=Lf:=by
 let⟨z,its,n,r,e⟩:=I.hok p _ h;show⟨its,n,r,e,z⟩
def Inv.lstUpd{pins:List (Wk×Obj)}{σ:St}{H:Hp}{s:J4}{p:Wk}{xs ys:List V}{its':List q7}{n n':Nat}{f:Obj->Obj}(I:Inv X pins σ H s)(h:H p=Z (.lst xs))(ho:s.heap.get? p=Z {cls:=.type "list",data:=.seq its.toArray n})(hf:f {cls:=.type "list",data:=.seq its.toArray n}={cls:=.type "list",data:=.seq its'.toArray n'})(r:Vals ys its')(j:ys.length<=Lf)(t:Nat):
 Inv X pins σ (upd H p (.lst ys)) {s with heap:=s.heap.update p f,toks:=t}:=by
 let e:(s.heap.update p f).get? p=Z {cls:=.type "list",data:=.seq its'.toArray n'}:=by rw[SY f ho (by rw[hf]<;>rfl),hf]
 refine I.write (x:=p) (e:=p) (by rw[h];trivial) (.inl rfl) (λb u z q=>(SD _ _ (Ne.symm z)).trans q) ⟨_,e⟩ ?_
 show⟨j,its',n',r,e⟩
abbrev A0:V->V->V->Hp->(Hp->Prop)->Prop:=λo i v H Q=>∃p xs k j,o=.ref p/\i=.int k/\H p=Z (.lst xs)/\ixN xs.length k=Z j/\Q (upd H p (.lst (xs.set j v)))
def y7:PSet X A0:=by
 intro pins s σ H o i v ov iv u Q I ro ri rv h;let⟨p,xs,k,j,rfl,rfl,F,L,q⟩:=h
 cases ro
 let⟨t,rfl⟩:=ri;let⟨its,n,r,ho,O⟩:=I.lst F;let⟨h1,h2,G,J⟩:=rE L;let z:=r.length;let U:=fA;let I':Inv X pins σ (upd H p (.lst (xs.set j v))) {s with heap:=s.heap.update p (Pk (·.setIfInBounds j u))}:=I.lstUpd F ho (tw its n j u) (r.set rv j) (by rw[Pq];show O) s.toks
 by_cases h0:0<=k
 ·let B:k.toNat=j:=by
   rw[Ve h0 J]at h1;show LG.inj h1
  show PySem.W.ki_setAt ho h0 ∅ (by rw[Lo,<-z];show J) (by rw[B];show⟨_,I',q⟩)
 ·let B:(k+(its.toArray.size:Int)).toNat=j:=by
   rw[Uy ∅ G]at h1
   rw[Lo,<-z];show LG.inj h1
  show PySem.W.ki_setBack ho ∅ (by rw[Lo,<-z];show G) ∅ (by rw[B];show⟨_,I',q⟩)
def oC(lo hi:Option Int)(n:Nat):(Qk lo hi N2 n).1=((HT.sIx n 0 lo:Nat):Int)/\(Qk lo hi N2 n).2.1=((HT.sIx n n hi:Nat):Int)/\(Qk lo hi N2 n).2.2=1:=by
 refine⟨?_,?_,rfl⟩
 ·cases lo with
  |none=>simp[Qk,HT.sIx]
  |some i=>
   simp only[Qk,HT.sIx,US,show(1:Int) > 0 by decide,if_true]
   by_cases h:i<0
   ·simp only[h,if_true]<;>lia
   ·simp only[h,if_false]<;>lia
 ·cases hi with
  |none=>simp[Qk,HT.sIx]
  |some i=>
   simp only[Qk,HT.sIx,US,show(1:Int) > 0 by decide,if_true]
   by_cases h:i<0
   ·simp only[h,if_true]<;>lia
   ·simp only[h,if_false]<;>lia
def nG(its:List q7)(lo hi:Option Int):slicePick its.toArray lo hi N2=((its.drop (HT.sIx its.length 0 lo)).take (HT.sIx its.length its.length hi-HT.sIx its.length 0 lo)).toArray:=by let⟨h1,h2,j⟩:=oC lo hi its.toArray.size;unfold slicePick;rw[h1,h2,j];simp only[sliceRange_one,pick_run,Lo]<;>rfl
abbrev Gb(K:Frag):V->Option Int->Option Int->Hp->VK->Prop:=λx lo hi H Q=>∃a xs,x=.ref a/\SqL K H a xs/\∀p,H p=N2->Q (.ref p) (upd H p (.lst (gP xs lo hi)))
def sl_list:SlR X (Gb X.K):=by
 intro pins s σ H x v vl vu lo hi sl Q I rx hs pl pu h;let⟨a,xs,rfl,hx,q⟩:=h
 cases rx
 let⟨its,r,j,z⟩:=I.list hx;let hlen:=r.length;calc⟨"list",_,slot_list_getitem.lookup,j.isList.typeIs,?_⟩;refine wpAny_getItem_list_slice j.isList hs pl pu .none (_) ?_ (by rw[Lo]<;>lia)
 rw[nG,<-hlen];calc⟨.ref s.heap.objs.size,_,I.laid (t':=s.toks) (o:=.lst (gP xs lo hi)) (λb ob q=>D2 _ q) (L9 _) ?_,rfl,q _ (I.hok.fresh (L9 _))⟩;show⟨Ml (j5 xs lo hi) z,_,0,(r.drop (HT.sIx xs.length 0 lo)).take (HT.sIx xs.length xs.length hi-HT.sIx xs.length 0 lo),Lk _ rfl⟩
def oD:CallR X (.type "list") (λxs H Q=>∃p ys,xs=[.ref p]/\(SqL X.K H p ys∨SqT X.K H p ys)/\∀l,H l=N2->Q (.ref l) (upd H l (.lst ys))):=by
 intro pins s σ H xs us Q I r h;let⟨p,ys,rfl,j,q⟩:=h;let⟨u,rfl,rx⟩:=cZ r
 cases rx
 let fin:∀(its:List q7),Vals ys its->ys.length<=Lf->∀(h':Heap) (c':Nat),(∀b o',s.heap.get? b=Z o'->h'.get? b=Z o')->
  h'.get? s.heap.objs.size=Z {cls:=.type "list",dict:=N2,data:=.seq its.toArray c',slots:=#[]}->EP X pins σ Q (.ref s.heap.objs.size) {s with heap:=h'}:=λits r' z h' c' kp e=>
  ⟨.ref s.heap.objs.size,_,I.laid (t':=s.toks) kp (L9 _) (show ObjOk X.prog X.w _ h' _ (.lst ys)from⟨z,its,c',r',e⟩),rfl,q _ (I.hok.fresh (L9 _))⟩
 rcases j with j|j
 ·let⟨its,r',pl,z⟩:=I.list j;let hlen:=r'.length;let⟨o,ho,B,n,hd⟩:=pl.isList;show call_list_seq p (.inl rfl) ho B hd (λh' c' kp e=>fin its r' z h' c' kp e) (by simp only[Lo]<;>lia)
 ·let⟨its,r',pl,z⟩:=I.tuple j;let hlen:=r'.length;let⟨o,ho,B,n,hd⟩:=pl;show call_list_seq p (.inr rfl) ho B hd (λh' c' kp e=>fin its r' z h' c' kp e) (by simp only[Lo]<;>lia)
def nH:CallR X (.type "tuple") (λxs H Q=>∃p ys,xs=[.ref p]/\((SqL X.K H p ys/\∀l,H l=N2->Q (.ref l) (upd H l (.tup ys)))∨(SqT X.K H p ys/\Q (.ref p) H))):=by
 intro pins s σ H xs us Q I r h;let⟨p,ys,rfl,h⟩:=h;let⟨u,rfl,rx⟩:=cZ r
 cases rx
 rcases h with⟨j,q⟩|⟨j,q⟩
 ·let⟨its,r',pl,z⟩:=I.list j;let hlen:=r'.length;refine call_tuple_list pl.isList (λh' kp=>?_) (by simp only[Lo]<;>lia)
  let B:Inv X pins σ H {s with heap:=h'}:=I.kept (t':=s.toks) kp
  let F:Inv X pins σ (upd H h'.objs.size (.tup ys)) {s with heap:=h'.push {cls:=.type "tuple",data:=.seq its.toArray}}:=B.laid (t':=s.toks) (λb o e=>D2 _ e) (L9 _) (show ObjOk X.prog X.w _ _ _ (.tup ys)from⟨z,its,r',Rl _ _⟩)
  show⟨.ref h'.objs.size,_,F,rfl,q _ (B.hok.fresh (L9 _))⟩
 ·let⟨its,r',pl,z⟩:=I.tuple j;show call_tuple_same pl ⟨.ref p,H,I,rfl,q⟩
abbrev tyV(K:Frag)(T:String)(x:V)(H:Hp):Prop:=match x with
 |.str _=>T="str"
 |.int _=>T="int"
 |.ref p=>(T="list"/\∃xs,SqL K H p xs)∨(T="tuple"/\∃o,K.lookup p=Z o/\o.cls=.type "tuple"/\o.dict=N2) ∨
  (T="dict"/\((∃kvs,H p=Z (.dK kvs))∨∃kvs,H p=Z (.dT kvs)))∨(T="set"/\∃S n,H p=Z (.set S n))
 |_=>False
def vd{pins:List (Wk×Obj)}{σ:St}{H:Hp}{s:J4}{T:String}{x:V}{v:q7}(I:Inv X pins σ H s)(r:RelV x v)(ty:tyV X.K T x H):
 s.TypeIs v T/\∀a,v=.ref a->∃ob,s.heap.get? a=Z ob/\ob.dict=N2:=by
 cases x with
 |str z=>
  let⟨t,rfl⟩:=r
  cases(show T="str" from ty)
  show⟨typeIs_str s z t,λ_ e=>nomatch e⟩
 |int i=>
  let⟨t,rfl⟩:=r
  cases(show T="int" from ty)
  show⟨SE s i t,λ_ e=>nomatch e⟩
 |ref p=>
  cases r
  rcases ty with⟨rfl,xs,B⟩|⟨rfl,o,j,F,hd⟩|⟨rfl,j⟩|⟨rfl,S,n,j⟩
  ·let⟨its,_,pl,_⟩:=I.list B;refine⟨pl.isList.typeIs,λa e=>?_⟩
   cases e
   let⟨o,n,e,c,hd,_⟩:=pl;show⟨o,e,hd⟩
  ·refine⟨⟨o,I.kIn p o j,F⟩,λa e=>?_⟩
   cases e
   show⟨o,I.kIn _ o j,hd⟩
  ·let z:∃o,s.heap.get? p=Z o/\o.ExactDict:=by
    rcases j with⟨kvs,j⟩|⟨kvs,j⟩
    ·let⟨_,_,_,_,o,_,_,e,ex,_⟩:=I.hok p _ j;show⟨o,e,ex⟩
    ·let⟨_,_,_,_,o,_,_,e,ex,_⟩:=I.hok p _ j;show⟨o,e,ex⟩
   let⟨o,e,ex⟩:=z;refine⟨⟨o,e,ex.1⟩,λa q=>?_⟩
   cases q
   show⟨o,e,ex.2.1⟩
  ·let⟨o,_,_,_,e,ex,_⟩:=I.hok p _ j;refine⟨⟨o,e,ex.1⟩,λa q=>?_⟩
   cases q
   show⟨o,e,ex.2.1⟩
 |_=>show False.elim ty
abbrev CV(K:Frag)(T:String)(r:V->List V->Hp->VK->Prop)(to:TE):TE:=λσ H Q=>to σ H λx H1=>tyV K T x H1/\r x [] H1 Q
abbrev tBM(K:Frag)(T:String)(r:V->List V->Hp->VK->Prop)(to:TE)(t:TA):TE:=λσ H Q=>to σ H λx H1=>tyV K T x H1/\t σ H1 λxs H2=>r x xs H2 Q
variable{o e:Expr}{es:List Expr}{to:TE}{t:TA}{name:Str}{apos cpos:Pos}{T id:String}{r:V->List V->Hp->VK->Prop}
def CW(pa:PlainAttrs T)(slot:Slot T name id)(z:typeOf (.builtin id)=pure (.type "method_descriptor"))(hm:MtR X id r)(ho:PE X o to)(j:S0 o name X.env (eval o X.env)=eval o X.env:=by rfl)(q:(apos.endLine==cpos.line)=Wi:=by rfl):PE X (.Call (.Attribute o name apos) [] [] cpos) (CV X.K T r to):=by intro pins s σ H Q I h;calc wpAny_Call_method0_late j q (thn (ho pins s σ H _ I h) λv s1 G=>?_);let⟨x,H1,B,F,ty,J⟩:=G;let⟨h1,h2⟩:=vd B F ty;show⟨T,id,pa,slot,z,h1,h2,Qs rfl (PySem.evalArgs_none (hm pins s1 σ H1 x [] v [] Q B F .nil J))⟩
def A1 (pa:PlainAttrs T)(slot:Slot T name id)(F:typeOf (.builtin id)=pure (.type "method_descriptor"))(hm:MtR X id r)(ho:PE X o to)(U:PA X (e::es) t)(q:S0 o name X.env (eval o X.env)=eval o X.env:=by rfl)(B:((Qe cpos (LQ (e::es) X.env)).all (fun x=>!x.1)&&(backToKw cpos (Vf [] X.env)).all (fun x=>x.1.isSome)
   && decide ((e::es).length+([]:List SF).length+(if([]:List SF).isEmpty then 0 else 1)<30))=Wi:=by rfl)(z:(apos.endLine==cpos.line)=Wi:=by rfl)(hs:LQ (e::es) X.env=(Wj,eval e X.env)::LQ es X.env:=by rfl)(j:(Qe cpos (LQ es X.env)).any (·.1)=Wj:=by rfl):
 PE X (.Call (.Attribute o name apos) (e::es) [] cpos) (tBM X.K T r to t):=by
 intro pins s σ H Q I h;calc wpAny_Call_method_late q B z rfl (thn (ho pins s σ H _ I h) λv s1 G=>?_);let⟨x,H1,J,L,ty,Y⟩:=G;let⟨h1,h2⟩:=vd J L ty;calc⟨T,id,pa,slot,F,h1,h2,?_⟩;let O:=U cpos pins s1 σ H1 _ J Y;rw[hs]at O⊢;refine Qs (by change(Wj || (Qe cpos (LQ es X.env)).any (·.1))=Wj;rw[j]<;>rfl) (T9 ?_)
 show thn O λus s2 G=>(by let⟨vs,H2,fv,r2,q2⟩:=G;show hm pins s2 σ H2 x vs v us Q fv L r2 q2)
end
end
section
abbrev MtM(X:Cx)(id:String)(r:V->List V->Hp->VK->Prop):Prop:=
 ∀(pins:List (Wk×Obj)) (s:J4) (σ:St) (H:Hp) (x:V) (xs:List V) (v:q7) (us:List q7) (Q:VK),Inv X pins σ H s->RelV x v->Vals xs us->r x xs H Q->
  Lu (model X.prog X.w) X.A (call (.builtin id) (v::us)) (EP X pins σ Q) X.xe s
def Vals.one:∀{x:V} {us:List q7},Vals [x] us->∃u,us=[u]/\RelV x u
 |_,_,.cons r .nil=>⟨_,rfl,r⟩
def Vals.zero:∀{us:List q7},Vals [] us->us=[]
 |_,.nil=>rfl
def Vals.rep{xs:List V}{us:List q7}(h:Vals xs us):∀k:Nat,Vals (I7 k xs).flatten (I7 k us).flatten
 |0=>.nil
 |k+1=>by rw[N7,N7,MX,MX];show Vals.append h (Vals.rep h k)
def gQ(its:List q7):∀(k:Nat) (acc:List q7),
 QI (λj q=>j++q) acc.toArray (I7 k its.toArray)=(acc++(I7 k its).flatten).toArray
 |0,acc=>by simp
 |k+1,acc=>by
  let e:acc.toArray++its.toArray=(acc++its).toArray:=by simp
  let z:(acc++its)++(I7 k its).flatten=acc++(I7 (k+1) its).flatten:=by rw[N7,MX,Lx]
  rw[<-z,<-gQ its k (acc++its),<-e,N7,Nl]
section
variable{X:Cx}{pins:List (Wk×Obj)}{σ:St}{H:Hp}{s:J4}{l b:Wk}{xs ys zs:List V}
def Inv.lset{its':List q7}{n:Nat}{f:Array q7->Array q7}{t':Nat}(I:Inv X pins σ H s)(j:H l=Z (.lst xs))(e:s.heap.get? l=Z {cls:=.type "list",data:=.seq its.toArray n})(hf:f its.toArray=its'.toArray)(z:Vals ys its')(B:ys.length<=Lf):
 Inv X pins σ (upd H l (.lst ys)) {s with heap:=s.heap.update l (Pk f),toks:=t'}:=by
 let q:=PySem.IsL.update e f;rw[hf]at q;refine I.write (x:=l) (e:=l) (by rw[j];show trivial) (.inl rfl) (λb' u F G=>(SD s.heap (Pk f) (Ne.symm F)).trans G) ⟨_,q⟩ ?_
 show⟨B,its',_,z,q⟩
def Inv.lnew{t':Nat}(I:Inv X pins σ H s)(j:Vals ys its)(z:ys.length<=Lf):
 Inv X pins σ (upd H s.heap.objs.size (.lst ys)) {s with heap:=s.heap.push {cls:=.type "list",data:=.seq its.toArray},toks:=t'}:=
 I.laid (λ_ _ q=>D2 _ q) (L9 _) ⟨z,its,0,j,Lk _ rfl⟩
def Inv.fresh(I:Inv X pins σ H s):H s.heap.objs.size=N2:=I.hok.fresh (L9 _)
def Inv.lstM(I:Inv X pins σ H s)(j:H l=Z (.lst xs)):xs.length<=Lf/\∃(its:List q7) (n:Nat),Vals xs its/\xs.length=its.length/\s.heap.get? l=Z {cls:=.type "list",data:=.seq its.toArray n}:=by let⟨z,its,n,r,e⟩:=I.hok l _ j;show⟨z,its,n,r,r.length,e⟩
def oE{n:Nat}(h:n<=Lf):P0 n=Wj:=by unfold P0;show decide_eq_false ∅
end
section
variable{X:Cx}
abbrev rG:V->List V->Hp->VK->Prop:=λx vs H Q=>∃l xs y,x=.ref l/\vs=[y]/\H l=Z (.lst xs)/\xs.length<Lf/\Q .non (upd H l (.lst (xs++[y])))
def mn:MtM X "list.append" rG:=by
 intro pins s σ H x vs v us Q I rx rv h;let⟨l,xs,y,rfl,rfl,j,B,q⟩:=h
 cases rx
 let⟨u,rfl,ru⟩:=rv.one;let⟨z,its,n,r,G,e⟩:=I.lstM j;refine QJ F.slot_list_append ⟨_,e,rfl⟩ F.entry_list_append (F.args_list_append_2 _ _) (PySem.list_append l its.toArray n u (by rw[Lo];lia)) ⟨e,?_⟩
 refine⟨.non,_,I.lset (its':=its++[u]) j e (_) (r.append (.cons ru .nil)) ?_,rfl,q⟩
 rw[hH,LC];lia
abbrev rH:V->List V->Hp->VK->Prop:=λx vs H Q=>∃l b xs zs,x=.ref l/\vs=[.ref b]/\H l=Z (.lst xs)/\H b=Z (.lst zs)/\xs.length+zs.length<=Lf/\Q .non (upd H l (.lst (xs++zs)))
def vf:MtM X "list.extend" rH:=by
 intro pins s σ H x vs v us Q I rx rv h;let⟨l,b,xs,zs,rfl,rfl,G,J,fv,q⟩:=h
 cases rx
 let⟨u,rfl,ru⟩:=rv.one
 cases ru
 let⟨z,its,n,r,hl,e⟩:=I.lstM G;let⟨z2,j,L,O,U,Y⟩:=I.lstM J;let hsz:its.toArray.size+j.toArray.size<=Lf:=by rw[Lo,Lo];lia
 let B:¬(!its.toArray.isEmpty&&P0 (its.toArray.size+j.toArray.size))=Wi:=by rw[oE hsz,Bool.and_false];show Lg
 refine QJ F.slot_list_extend ⟨_,e,rfl⟩ F.entry_list_extend (F.args_list_extend_2 _ _)
  (AutoSeq1.list_extend_list_list_0 l its.toArray n b j.toArray L B (by rw[Lo];lia) ∅) ⟨e,Y,?_⟩
 refine⟨.non,_,I.lset (its':=its++j) G e (_) (r.append O) ?_,rfl,q⟩
 rw[hH];lia
abbrev vg:V->List V->Hp->VK->Prop:=λx vs H Q=>∃l xs,x=.ref l/\vs=[]/\H l=Z (.lst xs)/\Q .non (upd H l (.lst []))
def y8:MtM X "list.clear" vg:=by
 intro pins s σ H x vs v us Q I rx rv h;let⟨l,xs,rfl,rfl,B,q⟩:=h
 cases rx
 let j:=rv.zero;subst j;let⟨z,its,n,r,G,e⟩:=I.lstM B;refine QJ F.slot_list_clear ⟨_,e,rfl⟩ F.entry_list_clear (F.args_list_clear_1 _) (AutoSeq1.list_clear_list_0 l its.toArray n (by rw[Lo];lia)) ⟨e,?_⟩
 show⟨.non,_,I.lset (its':=[]) (ys:=[]) B e rfl .nil (N6 _),rfl,q⟩
abbrev Gc:R2:=λx y H Q=>∃l b xs zs,x=.ref l/\y=.ref b/\H l=Z (.lst xs)/\H b=Z (.lst zs)/\xs.length+zs.length<=Lf/\∀p,H p=N2->Q (.ref p) (upd H p (.lst (xs++zs)))
def op_cat:OpR X (NL .Add) Gc:=by
 intro pins s σ H x y v u Q I rx ry h;let⟨l,b,xs,zs,rfl,rfl,B,F,O,q⟩:=h
 cases rx
 cases ry
 let⟨z,its,n,r,U,e⟩:=I.lstM B;let⟨Y,j,fv,G,J,L⟩:=I.lstM F;refine PySem.P.add_list e L ?_ (by rw[Lo,Lo];lia)
 let ea:its.toArray++j.toArray=(its++j).toArray:=by simp
 rw[ea];show⟨.ref _,_,I.lnew (t':=s.toks) (r.append G) (by rw[hH];lia),rfl,q _ I.fresh⟩
abbrev Gd:R2:=λx y H Q=>∃l k xs,x=.ref l/\y=.int k/\H l=Z (.lst xs) /\ -(2^63)<=k/\k<2^63/\xs.length*k.toNat<=Lf /\
 ∀p,H p=N2->Q (.ref p) (upd H p (.lst (I7 k.toNat xs).flatten))
def rJ{α:Type}(xs:List α)(k:Nat):(I7 k xs).flatten.length=k*xs.length:=by
 induction k with
 |zero=>simp
 |succ k ih=>rw[N7,MX,hH,ih,Mp,Uz]
def op_rep:OpR X (NL .Mult) Gd:=by
 intro pins s σ H x y v u Q I rx ry h;let⟨l,k,xs,rfl,rfl,fv,h1,h2,Y,q⟩:=h
 cases rx
 let⟨t,rfl⟩:=ry;let⟨z,its,n,r,hl,e⟩:=I.lstM fv;let hlen:its.toArray.size*k.toNat<=Lf:=by rw[Lo,<-hl];show Y
 let B:¬its.toArray.size*k.toNat > (2^63-1) / 8:=by
  let:(Lf:Nat)<=(2^63-1) / 8:=by decide
  lia
 let G:¬(!Builtin.List.listFitsIndex k)=Wi:=by rw[fitsIndex_both h1 h2];show Lg
 let j:¬P0 (its.toArray.size*k.toNat)=Wi:=by rw[oE hlen];show Lg
 let J:QI (λL O=>L++O) #[] (I7 (if its.toArray.isEmpty=Wi then 0 else k.toNat) its.toArray)=(I7 k.toNat its).flatten.toArray:=by
  let f0:∀m:Nat,QI (λL O=>L++O) #[] (I7 m its.toArray)=(I7 m its).flatten.toArray:=λm=>by let:=gQ its m [];rw[R3]at this;show this
  rw[f0]
  cases its with
  |nil=>simp
  |cons a r'=>rw[if_neg (_)]
 refine RG (T:="list") (U:="int") (·) ⟨_,e,rfl⟩ (λs'=>SE s' k t) noFill_list_mul Vs R4 repeat_list F.slot_int_index.lookup
  (QJ R4 (SE s k t) UT (UA _ _) (int___rmul___int_list k t l its.toArray n)
    ⟨e,rfl,⟨_,e,rfl⟩,QJ F.slot_list_mul ⟨_,e,rfl⟩ F.entry_list_mul (F.args_list_mul_2 _ _) (AutoListH.list___mul___list_int_3 l its.toArray n k t G B j) ⟨e,?_⟩⟩)
 rw[J];show⟨.ref _,_,I.lnew (t':=s.toks) (r.rep k.toNat) (by rw[rJ,Q0];show Y),rfl,q _ I.fresh⟩
end
end
end L2
namespace Att
open PySem PySem.W PySem.Calls PyProof.Rows
def jJ{P:Params}{h:Heap}:∀(ns:List Int) (vs:List q7),WellAll P h vs (ns.map WData.int)->VA vs ns:=by
 intro ns
 induction ns with
 |nil=>
  intro vs w;rw[Np]at w
  cases w
  show .nil
 |cons n ns ih=>
  intro vs w;rw[Lj]at w
  cases w with
  |cons a b=>
   cases a
   show .cons _ _ (ih _ b)
def vh{l:OpenLaw}{n:Nat}(O:l.most=Z n){P:Params}{h:Heap}{args:List WData}{vals:List q7}(j:l.row.toRowW.claim.pre args=Wi)(G:WellAll P h vals args):
 ∃a vs ns,vals=[MV a]/\args=[WData.list (ns.map WData.int)]/\h.get? a=Z {cls:=.type "list",data:=.seq vs.toArray}/\VA vs ns/\ns.length<=n:=by
 let J:WShape.hasAll [] args [.list .int]=Wi:=(pre_splitW j).1;let L:l.pre.holds [] {args:=args}=Wi:=(pre_splitW j).2;let⟨d,r,rfl,h1,h2⟩:=hasAllW_cons J;obtain rfl:=hasAllW_nil h2;let⟨xs,rfl,U⟩:=hasW_list h1;let⟨ns,rfl⟩:=items_int U;let hlen:ns.length<=n:=by
  unfold OpenLaw.pre at L;let B:(WTm.not (.lt (.lit (.int (n:Int))) (.len (.arg 0)))).holds [] {args:=[.list (ns.map .int)]}=Wi:=by let B:=(holds_andW L).1;rw[O]at B;show B
  let F:=condW_of B (w_not (w_lt w_lit (w_len_list (w_arg rfl))));rw[h7]at F;calc Nat.le_of_not_lt λq=>?_;let q':(n:Int)<((ns.length:Nat):Int):=∅
  first
   |(rw[decide_eq_true q']at F;show absurd F (·))
   |(simp at F;lia)
 cases G with
 |cons Y fv=>
  cases fv
  cases Y with
  |list ho z=>show⟨_,_,ns,rfl,rfl,ho,jJ ns _ z,hlen⟩
def vj(l:OpenLaw)(args:List WData):l.row.toRowW.claim.post args (.bool Wi) args=Wi:=
 postW_of (r:=l.row.toRowW) (X:=(Wi==Wi))
  (show WShape.has [] (.bool Wi) .bool=Wi by first|rfl|decide|simp[WShape.has,WShape.arms,WShape.armsAll])
  (show(WTm.eq .res (.lit (.bool Wi))).value [] {args:=args,res:=Z (.bool Wi),after:=args}=Z (.bool (Wi==Wi))from w_eq_bool (w_res rfl) w_lit) rfl
def attach_call {l:OpenLaw}{n:Nat}{q:LN}{loose:List Str}{XP:(Str->Option q7)->Heap->Prop}{YP:Mq->Heap->Prop}{d:DefRec}(fv:l.most=Z n)(B:d.params.defaults=[])(call:∀(w:Mq) (s₀ s₁:J4) (mg mb:Str->Option q7) (fa:Wk) (o:Obj) (pm cd doc:q7) (a:Wk) (vs:List q7) (ns:List Int),
   Ground q loose [] XP w s₀ mg mb s₁.heap->YP w s₁.heap->
   s₁.heap.get? fa=Z o->o.data=.func (docDef d.name d.params d.body d.scope pm cd doc)->s₁.heap.CodeRec cd d.name->mg d.name=Z (.ref fa)->
   s₁.heap.get? a=Z {cls:=.type "list",data:=.seq vs.toArray}->VA vs ns->ns.length<=n->s₁.gens=#[]->
   QS (model l.prog w) TH (.call (.ref fa) ⟨[.ref a],[]⟩) (λr s'=>r=.ok (.ret (.bool Wi))/\OldK s₁.heap s'.heap/\s'.os=s₁.os/\RQ s'.gens) s₁):
 WalkO q loose XP YP l.row.toRowW d [] (λf vs=>VH f vs):=by
 intro w s₀ s₁ mg mb G Y fa o pm cd doc dV kV ho hd F O J hg args vals as j U IK L IM;obtain rfl:dV=.none:=Dflts.none O B;obtain rfl:kV=.none:=Dflts.noKw O;let⟨a,vs,ns,rfl,rfl,z,hints,hlen⟩:=vh fv j L;calc enter_call (Qp (call w s₀ s₁ mg mb fa o pm cd doc a vs ns G Y ho (fd_plain hd) F J z hints hlen hg) λr s' hq=>?_);let⟨rfl,h2,h3,h4⟩:=hq;show⟨.inl ⟨.bool Wi,.bool Wi,[],rfl,λ_=>rfl,.bool Wi,vj l _,λ_=>⟨RU,λ_ hm=>(nomatch hm)⟩⟩,h2,h3,h4⟩
section
variable{prog:LN}{w:Mq}{A:Mz}{E:q7->J4->Prop}{s:J4}{K:Frag}
abbrev Ht(h:Heap)(L d:Wk):List (Wk×Obj):=(Lc h.objs.size).filterMap λa=>if a=L∨a=d then N2 else(h.get? a).map λo=>(a,o)
end
end Att
namespace L2
open PySem PySem.Spec PyProof.Rows
variable{fd:PR}{x:Str}
section
def mq:∀{vs:List q7} {ns:List Int},VA vs ns->Vals (ns.map V.int) vs
 |_,_,.nil=>.nil
 |_,_,.cons n t h=>.cons ⟨t,rfl⟩ (mq h)
abbrev tz(H:Hp):Prop:=∀b,H b=N2∨∃o xs,H b=Z (.frz o (.lst xs))
def y9{P:LN}{w:Mq}{K:Frag}{mg mb:Str->Option q7}{CX:CXT}{k:Nat}{fa a:Wk}{sp:Sp}{s₁:J4}{vs:List q7}{ns:List Int}(KX:K.In s₁.heap)(G:s₁.heap.Ns MW mg)(j:s₁.heap.Ns VB mb)(Y:∀x:Str,x≠"__name__"->mb x=Ph x)(J:s₁.heap.NoLimit)(hg:s₁.gens=#[])(U:s₁.heap.get? a=Z {cls:=.type "list",data:=.seq vs.toArray})(hi:VA vs ns)(hl:ns.length<=Lf)(hr:Room k TH)(F:∀base:Heap,K.In base->base.Ns MW mg->eE P w K mg base CX k fa fd [x] sp)(B:∀(s:J4) (u:q7),Uv s fd ⟨[u],[]⟩ [(x,u)])(fv:∀H:Hp,tz H->SqL K H a (ns.map V.int)->sp [.ref a] H (λv _=>v=.bl Wi) λ_ _ _=>False)(IK:∀H e s',CX [] H s₁ (λ_ _ _=>False) e s'->False):
 QS (model P w) TH (.call (.ref fa) ⟨[.ref a],[]⟩) (λr s'=>r=.ok (.ret (.bool Wi))/\OldK s₁.heap s'.heap/\s'.os=s₁.os/\RQ s'.gens) s₁:=by
 let rv:=mq hi;let lenV:=hi.length;let core:∀H:Hp,tz H->SqL K H a (ns.map V.int)->HOk P w H s₁.heap->(∀b,H b≠N2->b=a)->(H a≠N2->K.lookup a=N2)->
  QS (model P w) TH (.call (.ref fa) ⟨[.ref a],[]⟩) (λr s'=>r=.ok (.ret (.bool Wi))/\OldK s₁.heap s'.heap/\s'.os=s₁.os/\RQ s'.gens) s₁:=by
  intro H hO hS hok hA hK;let base_of:∀{b:Wk} {o:Obj},s₁.heap.get? b=Z o->H b=N2->(fR s₁.heap H).get? b=Z o:=λe n=>xJ e n;let noA:∀{b:Wk} {o:Obj} {es:Array Oo} {ep:Nat},s₁.heap.get? b=Z o->o.data=.dict es ep->H b=N2:=λ{b o es ep} e d=>by
   cases q:H b with
   |none=>rfl
   |some u=>
    let e':b=a:=hA b (by rw[q];simp)
    subst e';rw[U]at e;cases e;let d':QU vs.toArray _=Data.dict es ep:=d
    cases d'
  let nsK:∀{b:Wk} {m:Str->Option q7},s₁.heap.Ns b m->(fR s₁.heap H).Ns b m:=λ{b m} g9=>(by let⟨o,es,ep,e,d,r⟩:=g9;show⟨o,es,ep,base_of e (noA e d),d,r⟩)
  let L:K.In (fR s₁.heap H):=λb o e=>base_of (KX b o e) (by
   cases q:H b with
   |none=>rfl
   |some u=>
    let e':b=a:=hA b (by rw[q];simp)
    subst e';rw[hK (by rw[q];simp)]at e;cases e)
  let hM:Mod K mg (fR s₁.heap H):=⟨L,nsK G,⟨mb,nsK j,Y⟩,let⟨mc,h1,h2⟩:=J; ⟨mc,nsK h1,h2⟩⟩;let e0:tm P w K mg (fR s₁.heap H) TH [] s₁ H:=⟨rfl,hM,λb o e=>Au e,Nat.le_of_eq (uQ _ _),trivial,λb j=>absurd (show b∈([]:List Wk)from j) (_),hok,.of_eq hg⟩
  refine Qp ((F _ L (nsK G)).run TH [] s₁ H ⟨[.ref a],[]⟩ [.ref a] [.ref a] _ _ hr e0 (B s₁ (.ref a)) (.cons rfl .nil) (fv H hO hS)) λr s' h=>?_
  cases r with
  |error e=>show(IK H e s' h).elim
  |ok fl=>
   cases fl with
   |next=>show False.elim h
   |brk=>show False.elim h
   |cont=>show False.elim h
   |ret u=>
    let⟨v,H',os,bare,un,O,r',q⟩:=h;let q':v=.bl Wi:=q;subst q';obtain rfl:u=U9 Wi:=r';refine⟨rfl,OldK.of_keep λb o e=>?_,os,bare⟩
    cases q:H b with
    |none=>show un.keep b o e q (by intro z;show absurd (show b∈([]:List Wk)from z) (_)) (_)
    |some u=>
     rcases hO b with z|⟨ob,xs,z⟩
     ·rw[q]at z;cases z
     ·let z2:=un.frzs b ob _ z;let⟨e1,_⟩:=hok b _ z;let⟨e2,_⟩:=O b _ z2;rw[e]at e1;cases e1;show e2
 cases hk:K.lookup a with
 |some o=>
  let e:=KX a o hk;rw[U]at e
  cases e
  refine core (λ_=>N2) (λ_=>.inl rfl) (.inr ⟨_,vs.toArray,_,hk,rfl,rfl,rfl,by rw[Lo,lenV];show hl,by simpa using rv⟩) (λb u z=>by let z':(N2:Option HO)=Z u:=z;cases z') (λb z=>absurd rfl z) λz=>absurd rfl z
 |none=>
  refine core (λb=>if b=a then Z (.frz {cls:=.type "list",data:=.seq vs.toArray} (.lst (ns.map V.int)))else N2) (λb=>?_) (.inl (.inr ⟨{cls:=.type "list",data:=.seq vs.toArray},if_pos rfl⟩)) (λb u z=>?_) (λb z=>?_) λ_=>hk
  ·by_cases j:b=a
   ·show .inr ⟨_,_,if_pos j⟩
   ·show .inl (if_neg j)
  ·by_cases j:b=a
   ·let z':=(if_pos j).symm.trans z
    cases z'
    subst j;show⟨U,by rw[h7];show hl,vs,_,rv,U⟩
   ·let z':=(if_neg j).symm.trans z
    cases z'
  ·by_cases j:b=a
   ·show j
   ·show absurd (if_neg j) z
end
section
def walk_of {l:SQ}{n k:Nat}{q:LN}{loose:List Str}{XP:(Str->Option q7)->Heap->Prop}{YP:Mq->Heap->Prop}{d:DefRec}{K:Params->Frag}{CX:Mq->CXT}{sp:Mq->Sp}(U:l.most=Z n)(z:n<=Lf)(B:d.params.defaults=[])(fv:Room k TH)(hY:∀(w:Mq) (h:Heap),YP w h->(K w.params).In h)(F:∀(w:Mq) (mg:Str->Option q7) (fa:Wk) (h:Heap),(K w.params).In h->h.Ns MW mg->mg d.name=Z (.ref fa)->
   ∃fd:PR,(∀(s:J4) (u:q7),Uv s fd ⟨[u],[]⟩ [(x,u)]) /\
    ∀base:Heap,(K w.params).In base->base.Ns MW mg->eE l.prog w (K w.params) mg base (CX w) k fa fd [x] (sp w))(J:∀(w:Mq) (H:Hp) (a:Wk) (ns:List Int),ns.length<=n->tz H->SqL (K w.params) H a (ns.map V.int)->sp w [.ref a] H (λv _=>v=.bl Wi) λ_ _ _=>False)(L:∀(w:Mq) (H:Hp) (s:J4) (e:q7) (s':J4),CX w [] H s (λ_ _ _=>False) e s'->False):
 PySem.W.WalkO q loose XP YP l.row.toRowW d [] (λf vs=>VH f vs):=by
 calc Att.attach_call U B λw s₀ s₁ mg mb fa o pm cd doc a vs ns G Y ho hd IK O j hints hlen hg=>?_;let KX:=hY w _ Y;let⟨fd,hb,hF⟩:=F w mg fa _ KX G.T.g O;show y9 KX G.T.g G.T.b G.T.builtins G.T.nolimit hg j hints (Ml hlen z) fv hF hb (λH hO hS=>J w H a ns hlen hO hS) λH e s'=>L w H s₁ e s'
end
variable{qual:Str}{st:Stmt}{f:Wk}
section
abbrev dP(s:Stmt):Arguments:=match s with
 |.FunctionDef _ a _ _ _ _ _ _ _ _=>a
 |_=>{posonlyargs:=[],args:=[],vararg:=N2,kwonlyargs:=[],kw_defaults:=[],kwarg:=N2,defaults:=[]}
abbrev ck(s:Stmt):List Stmt:=match s with
 |.FunctionDef _ _ b _ _ _ _ _ _ _=>b
 |_=>[]
abbrev aE(s:Stmt):Scope:=match s with
 |.FunctionDef _ _ _ _ _ _ sc _ _ _=>sc
 |_=>{kind:=.function,names:=[],isGenerator:=Wj,isCoroutine:=Wj}
noncomputable abbrev CX0:CXT:=λ_ _ _ _ _ _=>False
noncomputable abbrev E0:XK:=λ_ _ _=>False
def A2{X:Cx}:jH CX0 X E0:=λ_ _ _ _ _ _ _ h=>h.elim
structure Fun(K:Frag)(x qual:Str)(st:Stmt)(f:Wk)(fd:PR):Prop where
 ex:∃(oc:q7) (od:Option Wk) (kV doc pm:q7) (an:Option Wk) (cdv ct:q7) (osl:Array (Option q7)),
  fd=Pj x qual (dP st) (ck st) (aE st) .none kV doc pm an cdv ct/\K.lookup f=Z ⟨oc,od,.func fd,osl⟩/\Rt K cdv qual=Wi
 kp:PU K (.ref f)=Wi
section
variable{P:LN}{w:Mq}{K:Frag}{mg:Str->Option q7}{base:Heap}
def Fun.ok {N ps:List Str}{k:Nat}{sp:Sp}(F:Fun K x qual st f fd)(S:io N ps (aE st))(len:∀vs H Q E,sp vs H Q E->vs.length=ps.length)(j:∀(cdv:q7) (A:Mz) (outer:List Env) (s:J4) (H:Hp) (vs:List V) (Q:VK) (E:XK),Room k (A.deeper (T8 qual (aE st) s.heap.objs.size f cdv))->sp vs H Q E->
   ∃t,PSs (jd CX0 P w K mg base N qual (aE st) f cdv A outer s H E).nox (ck st) t/\t {nx:=λ_ H'=>Q .non H',rt:=Q} (de N vs) H):eE P w K mg base CX0 (k+1) f fd ps sp:=by
 let⟨oc,od,kV,doc,pm,an,cdv,ct,osl,rfl,lk,z⟩:=F.ex;calc ES lk z S len λA outer s H vs Q E G B=>?_;let⟨t,h,q⟩:=j cdv A outer s H vs Q E G B;show⟨t,h.nox,q⟩
def Fun.binds{ps:List Str}(F:Fun K x qual st f fd)(h:∀(kV doc pm:q7) (an:Option Wk) (cdv ct:q7) (us:List q7),us.length=ps.length->bindArgs (Pj x qual (dP st) (ck st) (aE st) .none kV doc pm an cdv ct) ⟨us,[]⟩=pure (ps.zip us)):Binds K fd ps []:=by let⟨oc,od,kV,doc,pm,an,cdv,ct,osl,rfl,lk,j⟩:=F.ex;show .all (h kV doc pm an cdv ct)
def af{oc:q7}{od an:Option Wk}{osl:Array (Option q7)}{kV doc pm cdv ct:q7}(l:K.lookup f=Z ⟨oc,od,.func (Pj x qual (dP st) (ck st) (aE st) .none kV doc pm an cdv ct),osl⟩)(c:Rt K cdv qual=Wi)(k:PU K (.ref f)=Wi):Fun K x qual st f (Pj x qual (dP st) (ck st) (aE st) .none kV doc pm an cdv ct):=⟨⟨oc,od,kV,doc,pm,an,cdv,ct,osl,rfl,l,c⟩,k⟩
end
end
end L2
namespace HT
open PySem PySem.Spec PyProof.Rows
section
variable{prog:LN}{w:Mq}{A:Mz}{E:q7->J4->Prop}{s:J4}
def getItem_tuple_whole{t sl:Wk}{items:Array q7}{vl vu:q7}{lo hi:Option Int}{Q:q7->J4->Prop}(j:IsTup s.heap t items)(hs:s.heap.IsSliceOf sl vl vu .none)(pl:Sy vl lo)(pu:Sy vu hi)(hw:sIx items.size 0 lo=0/\sIx items.size items.size hi=items.size)(h:Q (.ref t) s):Lu (model prog w) A (Sz (.ref t) (.ref sl)) Q E s:=by
 let⟨os,q,z,G⟩:=id hs;let B:s.TypeIs (.ref sl) "slice":=⟨os,q,z⟩;unfold Sz
 try with_reducible refine MP ?_
 first|refine gV (KZ ?_)|skip
 refine gV (Ux j.typeIs (·) ?_)
 refine gV (Mj (name:=Mf "__getitem__") j.typeIs O1
  (MA O1 j.typeIs TM ?_ (Uc _ _)))
 change Lu _ _ (Rw (.ref t)>>=_) _ _ s;calc gV (tupleItemsOf_ j ?_);calc gV (OS B ?_);rw[if_pos (·)]
 calc gV (eF hs pl pu ?_);let F:(((sIx items.size 0 lo:Nat):Int)==0&&(1:Int)==1&&(sIx items.size items.size hi-sIx items.size 0 lo)==items.size)=Wi:=by rw[hw.1,hw.2];simp
 change Lu _ _ (if(((sIx items.size 0 lo:Nat):Int)==0&&(1:Int)==1&&(sIx items.size items.size hi-sIx items.size 0 lo)==items.size)=Wi then _ else _) _ _ s
 rw[if_pos F];calc gV (m:=Rx (.ref t)) ?_;unfold Rx;calc gV (OS j.typeIs (KZ ?_));change Lu _ _ (if Wi=Wi then _ else _) _ _ s
 rw[if_pos rfl];show gV (NT (KZ ⟨_,rfl,KZ h⟩))
end
end HT
namespace L2
open PySem PySem.Spec PyProof.Rows
section
section
variable{X:Cx}
abbrev Gf(K:Frag):V->Option Int->Option Int->Hp->VK->Prop:=λx lo hi H Q=>∃a xs,x=.ref a/\SqT K H a xs/\(HT.sIx xs.length 0 lo=0/\HT.sIx xs.length xs.length hi=xs.length)/\Q x H
def ya:SlR X (Gf X.K):=by
 intro pins s σ H x v vl vu lo hi sl Q I rx hs pl pu h;let⟨a,xs,rfl,hx,hw,q⟩:=h
 cases rx
 let⟨its,r,j,z⟩:=I.tuple hx;let hlen:=r.length;calc⟨"tuple",_,slot_tuple_getitem.lookup,j.typeIs,?_⟩;calc HT.getItem_tuple_whole j hs pl pu (by rw[Lo,<-hlen];show hw) ⟨.ref a,H,I,rfl,q⟩
end
end
variable{u:q7}{y:V}{P:LN}{w:Mq}{H H':Hp}{kvs:List (List Key×V)}{xs:List (List Key×Wk×q7)}{b a:Wk}{h':Heap}{t':Nat}{X:Cx}{pos:Pos}{pins:List (Wk×Obj)}{σ:St}{s:J4}
section
section
variable{κ:Type}[DecidableEq κ]
abbrev bZ(kvs:List (κ×V))(k:κ):Option V:=(kvs.find? λkv=>decide (kv.1=k)).map (·.2)
abbrev bE(kvs:List (κ×V))(k:κ)(v:V):List (κ×V):=if(kvs.any λkv=>decide (kv.1=k))=Wi then kvs.map (λkv=>if kv.1=k then(kv.1,v)else kv)else kvs++[(k,v)]
def fT{p:κ×V}{r:List (κ×V)}{k:κ}(e:p.1=k):bZ (p::r) k=Z p.2:=by simp[bZ,O0,e]
def fU{p:κ×V}{r:List (κ×V)}{k:κ}(e:¬p.1=k):bZ (p::r) k=bZ r k:=by simp[bZ,O0,e]
def oF(k:κ):∀kvs:List (κ×V),(kvs.any λkv=>decide (kv.1=k))=(bZ kvs k).isSome
 |[]=>rfl
 |p::r=>by
  rw[PH]
  by_cases e:p.1=k
  ·simp only[fT e,decide_eq_true e,Bool.true_or,Ud]
  ·rw[fU e,decide_eq_false e,S2];show oF k r
def dg(kvs:List (κ×V))(k:κ)(v:V):(bE kvs k v).length<=kvs.length+1:=by
 unfold bE
 split
 ·rw[h7];lia
 ·rw[hH,LB,NN];lia
def RelO.isSome_eq{o:Option V}{u:Option q7}(r:RelO o u):o.isSome=u.isSome:=by
 cases o with
 | none=>cases u with
   |none=>rfl
   |some _=>show(show False from r).elim
 | some _=>cases u with
   |none=>show(show False from r).elim
   |some _=>rfl
def RelO.getD{o:Option V}{u:Option q7}{d:V}{d':q7}(r:RelO o u)(rd:RelV d d'):RelV (o.getD d) (u.getD d'):=by
 cases o with
 | none=>cases u with
   |none=>show rd
   |some _=>show(show False from r).elim
 | some _=>cases u with
   |none=>show(show False from r).elim
   |some _=>show r
def KV.val{kvs:List (κ×V)}{vs:List (κ×q7)}(r:KV kvs vs)(k:κ):RelO (bZ kvs k) (TJ vs k):=by
 unfold KV at r
 induction r with
 |nil=>show OH
 |@cons p q ps qs h t ih=>
  let⟨h1,h2⟩:=h
  by_cases e:p.1=k
  ·let e':q.1=k:=h1.symm.trans e;let b:TJ (q::qs) k=Z q.2:=by simp[TJ,O0,e']
   rw[fT e,b];show h2
  ·let e':¬q.1=k:=λz=>e (h1.trans z);let b:TJ (q::qs) k=TJ qs k:=by simp[TJ,O0,e']
   rw[fU e,b];show ih
def KV.any{kvs:List (κ×V)}{vs:List (κ×q7)}(r:KV kvs vs)(k:κ):(kvs.any λkv=>decide (kv.1=k))=vs.any λkv=>decide (kv.1=k):=by
 unfold KV at r
 induction r with
 |nil=>rfl
 |cons h t ih=>rw[PH,PH,ih,h.1]
def KV.repl{kvs:List (κ×V)}{vs:List (κ×q7)}(r:KV kvs vs)(k:κ)(ry:RelV y u):
 KV (kvs.map λkv=>if kv.1=k then(kv.1,y)else kv) (vs.map λkv=>if kv.1=k then(kv.1,u)else kv):=by
 unfold KV at r⊢
 induction r with
 |nil=>show .nil
 |@cons p q ps qs h t ih=>
  rw[Lj,Lj];calc .cons ?_ ih;let⟨h1,h2⟩:=h
  by_cases e:p.1=k
  ·rw[if_pos e,if_pos (h1.symm.trans e)];show⟨h1,ry⟩
  ·rw[if_neg e,if_neg (λz=>e (h1.trans z))];show⟨h1,h2⟩
def KV.put{kvs:List (κ×V)}{vs:List (κ×q7)}(r:KV kvs vs)(k:κ)(ry:RelV y u):KV (bE kvs k y) (stored vs k u):=by
 unfold bE stored;rw[r.any k]
 by_cases e:(vs.any λkv=>decide (kv.1=k))=Wi
 ·rw[if_pos e,if_pos e];show r.repl k ry
 ·rw[if_neg e,if_neg e];show Paired.snoc r ⟨rfl,ry⟩
def KV.length{kvs:List (κ×V)}{vs:List (κ×q7)}(r:KV kvs vs):kvs.length=vs.length:=NS r
end
def jK{k:Key}(r:RelV (kV k) u):(aJ P w).is k u=Wi:=by
 cases k with
 |inl i=>let⟨t,e⟩:=(show ∃t,u=UP i t from r);subst e;show qU P w i t
 |inr x=>let⟨t,e⟩:=(show ∃t,u=UQ x t from r);subst e;show qV P w x t
def mw{P:LN}{w:Mq}:∀{ks:List Key} {us:List q7},Vals (ks.map kV) us->ItemsAre (aJ P w) ks us
 |[],_,r=>by rw[Np]at r;cases r;show .nil
 |k::ks,_,r=>by
  rw[Lj]at r
  cases r with
  |cons h t=>show .cons (jK h) (mw t)
noncomputable abbrev KT(H:Hp):List (List Key×V)->List (List Key×Wk×q7)->Prop:=Mh λp q=>p.1=q.1/\H q.2.1=Z (.tup (p.1.map kV))/\RelV p.2 q.2.2
def KT.val(r:KT H kvs xs)(k:List Key):RelO (bZ kvs k) ((Ta xs k).map (·.2)):=by
 induction r with
 |nil=>show OH
 |@cons p q ps qs h t ih=>
  let⟨h1,_,h2⟩:=h
  by_cases e:p.1=k
  ·let e':q.1=k:=h1.symm.trans e;let b:Ta (q::qs) k=Z q.2:=by simp[Ta,O0,e']
   rw[fT e,b];show h2
  ·let e':¬q.1=k:=λz=>e (h1.trans z);let b:Ta (q::qs) k=Ta qs k:=by simp[Ta,O0,e']
   rw[fU e,b];show ih
def KT.repl(r:KT H kvs xs)(k:List Key)(ry:RelV y u):
 KT H (kvs.map λkv=>if kv.1=k then(kv.1,y)else kv) (xs.map (putAt k u)):=by
 induction r with
 |nil=>show .nil
 |@cons p q ps qs h t ih=>
  rw[Lj,Lj];calc .cons ?_ ih;let⟨h1,h2,j⟩:=h;unfold putAt
  by_cases e:p.1=k
  ·rw[if_pos e,if_pos (h1.symm.trans e)];show⟨h1,h2,ry⟩
  ·rw[if_neg e,if_neg (λz=>e (h1.trans z))];show⟨h1,h2,j⟩
def KT.put(r:KT H kvs xs)(k:List Key)(j:H b=Z (.tup (k.map kV)))(ry:RelV y u):
 KT H (bE kvs k y) (storedH xs k b u):=by
 let e:(kvs.any λkv=>decide (kv.1=k))=(Ta xs k).isSome:=by rw[oF,(r.val k).isSome_eq,RV]
 unfold bE storedH;rw[e]
 by_cases q:(Ta xs k).isSome=Wi
 ·rw[if_pos q,if_pos q];show r.repl k ry
 ·rw[if_neg q,if_neg q];show Paired.snoc r ⟨rfl,j,ry⟩
def KT.keeps(r:KT H kvs xs)(j:∀b ys,H b=Z (.tup ys)->H' b=Z (.tup ys)):KT H' kvs xs:=W2 r λ_ _ z=>⟨z.1,j _ _ z.2.1,z.2.2⟩
section
variable{P:LN}{w:Mq}{H:Hp}{h:Heap}{a:Wk}
def A3{u:HO}(ok:HOk P w H h)(e:Rd H a u):ObjOk P w H h a u:=e.ok ok
def jL{kvs:List (Key×V)}(ok:HOk P w H h)(e:Rd H a (.dK kvs)):kvs.length<=Lf/\(a==N3)=Wj/\∃vs,KV kvs vs/\h.DictOf (aJ P w) a vs:=show ObjOk P w H h a (.dK kvs)from A3 ok e
def EV{kvs:List (Key×V)}(ok:HOk P w H h)(e:H a=Z (.dK kvs)):kvs.length<=Lf/\(a==N3)=Wj/\∃vs,KV kvs vs/\h.DictOf (aJ P w) a vs:=jL ok (.inl e)
def eG{ks:List Key}(ok:HOk P w H h)(e:H a=Z (.tup (ks.map kV))):(PY (aJ P w)).is h ks a:=by let⟨_,its,r,o,h1,h2,n,j⟩:=(show ObjOk P w H h a (.tup (ks.map kV))from ok a _ e);show⟨o,its.toArray,n,h1,h2,j,by simpa using mw r⟩
def eW(ok:HOk P w H h)(e:Rd H a (.dT kvs)):kvs.length<=Lf/\(a==N3)=Wj /\
 ∃xs,KT H kvs xs/\h.DictOfH (PY (aJ P w)) a xs:=by
 let⟨z,y,xs,r,o,es,ep,h1,h2,j,B,F⟩:=(show ObjOk P w H h a (.dT kvs)from A3 ok e);calc⟨z,y,xs,r,o,es,ep,h1,h2,j,B,λx hx=>?_,F⟩;let all:∀{l:List (List Key×V)} {m:List (List Key×Wk×q7)},KT H l m->∀x∈m,(PY (aJ P w)).is h x.1 x.2.1:=by
  intro l m q
  induction q with
  |nil=>intro x hx;show nomatch hx
  |@cons p q ps qs hq t ih=>
   intro x hx
   rcases Lm.mp hx with e|hx
   ·subst e;show eG ok (by rw[<-hq.1];show hq.2.1)
   ·show ih x hx
 show all r x hx
def tD(ok:HOk P w H h)(e:H a=Z (.dT kvs)):kvs.length<=Lf/\(a==N3)=Wj /\
 ∃xs,KT H kvs xs/\h.DictOfH (PY (aJ P w)) a xs:=eW ok (.inl e)
end
abbrev DGet(H:Hp)(a:Wk)(y:V)(r:Option V):Prop:=(∃kvs k,Rd H a (.dK kvs)/\y=kV k/\r=bZ kvs k)∨∃kvs k b,Rd H a (.dT kvs)/\y=.ref b/\H b=Z (.tup (k.map kV))/\r=bZ kvs k
abbrev DPut(H:Hp)(a:Wk)(y v:V)(H':Hp):Prop:=
 (∃kvs k,H a=Z (.dK kvs)/\y=kV k/\kvs.length<Lf/\H'=upd H a (.dK (bE kvs k v))) ∨
 ∃kvs k b,H a=Z (.dT kvs)/\y=.ref b/\H b=Z (.tup (k.map kV))/\kvs.length<Lf/\H'=upd H a (.dT (bE kvs k v))
def DGet.k{kvs:List (Key×V)}{k:Key}(e:H a=Z (.dK kvs)):DGet H a (kV k) (bZ kvs k):=.inl ⟨kvs,k,.inl e,rfl,rfl⟩
def DPut.k{kvs:List (Key×V)}{k:Key}{v:V}(e:H a=Z (.dK kvs))(j:kvs.length<Lf):DPut H a (kV k) v (upd H a (.dK (bE kvs k v))):=.inl ⟨kvs,k,e,rfl,j,rfl⟩
def DPut.t{k:List Key}{v:V}(e:H a=Z (.dT kvs))(eb:H b=Z (.tup (k.map kV)))(j:kvs.length<Lf):DPut H a (.ref b) v (upd H a (.dT (bE kvs k v))):=.inr ⟨kvs,k,b,e,rfl,eb,j,rfl⟩
section
variable{X:Cx}{pins:List (Wk×Obj)}{σ:St}{H:Hp}{s:J4}{a:Wk}{y v:V}{u r:q7}{o:Option V}{A:Mz}{E:q7->J4->Prop}
def Inv.big(I:Inv X pins σ H s):N3<s.heap.objs.size:=by let h:MW<s.heap.objs.size:=(I.mod.glob.keeps I.bk).lt;show Nat.lt_trans (·) h
def vm{Q:q7->J4->Prop}(q:A.units+1<Ol)(I:Inv X pins σ H s)(g:DGet H a y (Z v))(ry:RelV y u)(h:∀w' s',Inv X pins σ H s'->RelV v w'->Q w' s'):
 Lu (model X.prog X.w) A (Sz (.ref a) u) Q E s:=by
 rcases g with⟨kvs,k,e,ey,l⟩|⟨kvs,k,b,e,ey,eb,l⟩
 ·subst ey;let⟨z,hd,vs,rel,dd⟩:=jL I.hok e;let⟨w',hw,rw'⟩:=We (v:=v) (o:=TJ vs k) (by rw[l];show rel.val k)
  show wpAny_getItem_of (jK ry) dd.mapOf hw (h w' _ (I.tok _) rw')
 ·subst ey
  cases(show u=MV b from ry)
  let⟨z,hd,xs,rel,dd⟩:=eW I.hok e;let⟨w',hw,rw'⟩:=We (v:=v) (o:=(Ta xs k).map (·.2)) (by rw[l];show rel.val k)
  let⟨p,B,j⟩:=OB.mp hw;calc wpAny_getItem_heap (OI q) (eG I.hok eb) dd B ?_;rw[j];show h w' _ (I.tok _) rw'
def AM{Q:q7->J4->Prop}(j:A.units+1<Ol)(I:Inv X pins σ H s)(g:DGet H a y o)(ry:RelV y u)(h:∀s',Inv X pins σ H s'->Q (.bool (!o.isSome)) s'):
 Lu (model X.prog X.w) A (Mt .NotIn u (.ref a)) Q E s:=by
 rcases g with⟨kvs,k,e,ey,l⟩|⟨kvs,k,b,e,ey,eb,l⟩
 ·subst ey;let⟨z,hd,vs,rel,dd⟩:=jL I.hok e;calc wpAny_notIn_of (jK ry) hd dd.mapOf ?_;rw[<-(rel.val k).isSome_eq,<-l];show h _ (I.tok _)
 ·subst ey
  cases(show u=MV b from ry)
  let⟨z,hd,xs,rel,dd⟩:=eW I.hok e;calc wpAny_notIn_heap (OI j) (eG I.hok eb) hd dd ?_;let q:=(rel.val k).isSome_eq;rw[RV]at q;rw[<-q,<-l];show h _ (I.tok _)
def iq{ob:HO}(I:Inv X pins σ H s)(mu:Mut (H a))(hs:NM a s.heap h')(he:∃q,h'.get? a=Z q)(new:ObjOk X.prog X.w (upd H a ob) h' a ob):
 Inv X pins σ (upd H a ob) {s with heap:=h',toks:=t'}:=
 I.write (x:=a) (e:=a) mu (.inl rfl) (λb q j z=>(hs.2 b j).trans z) he new
def CY{kvs:List (Key×V)}{vs:List (Key×q7)}(z:kvs.length<=Lf)(hd:(a==N3)=Wj)(rel:KV kvs vs)(dd:h'.DictOf (aJ P w) a vs):ObjOk P w H' h' a (.dK kvs):=⟨z,hd,vs,rel,dd⟩
def vp{Q:Unit->J4->Prop}(G:A.units+1<Ol)(I:Inv X pins σ H s)(g:DPut H a y v H')(ry:RelV y u)(rv:RelV v r)(h:∀s',Inv X pins σ H' s'->Q () s'):
 Lu (model X.prog X.w) A (setItem (.ref a) u r) Q E s:=by
 rcases g with⟨kvs,k,e,ey,l,eH⟩|⟨kvs,k,b,e,ey,eb,l,eH⟩
 ·subst ey eH;let⟨z,hd,vs,rel,dd⟩:=EV I.hok e;let B:vs.length<=Lf:=by rw[<-rel.length];show z
  let F:(bE kvs k v).length<=Lf:=by let:=dg kvs k v;lia
  calc wpAny_setItem_pairs (hsz:=B) (jK ry) dd λh' dd' hs=>h _ ?_;let he:∃q,h'.get? a=Z q:=let⟨q,_,_,j,_⟩:=dd'; ⟨q,j⟩;show iq I (by rw[e];show OH) hs he (CY F hd (rel.put k rv) dd')
 ·subst ey eH
  cases(show u=MV b from ry)
  let⟨z,hd,xs,rel,dd⟩:=tD I.hok e;let B:xs.length<=Lf:=by rw[<-NS rel];show z
  let F:(bE kvs k v).length<=Lf:=by let:=dg kvs k v;lia
  calc wpAny_setItem_heap (hsz:=B) (OI G) (eG I.hok eb) dd λh' dd' hs=>h _ ?_;let⟨q,es,ep,j,h2,J,L,_,O⟩:=dd';refine iq I (by rw[e];show OH) hs ⟨q,j⟩ ⟨F,hd,_,(rel.put k eb rv).keeps λc ys ec=>?_,q,es,ep,j,h2,J,L,O⟩
  rw[am (sV ec e (λz=>nomatch z))];show ec
end
def yb(h:Heap)(j:N3<h.objs.size):ObjOk P w H (h.push {cls:=.type "dict",data:=.dict #[]}) h.objs.size (.dK []):=⟨N6 _,beq_eq_false_iff_ne.mpr (Ne.symm (Md j)),[],.nil,Heap.DictOf.new h⟩
def je(h:Heap)(j:N3<h.objs.size):ObjOk P w H (h.push {cls:=.type "dict",data:=.dict #[]}) h.objs.size (.dT []):=⟨N6 _,beq_eq_false_iff_ne.mpr (Ne.symm (Md j)),[],.nil,_,#[],0,Lk _ rfl,⟨rfl,rfl,rfl⟩,rfl,rfl,List.nodup_nil⟩
abbrev CZ:TE:=λ_ H Q=>∀p,H p=N2->Q (.ref p) (upd H p (.dK []))
abbrev D3:TE:=λ_ H Q=>∀p,H p=N2->Q (.ref p) (upd H p (.dT []))
section
variable{X:Cx}{pos:Pos}
def yc:PE X (.Dict [] [] pos) CZ:=λpins s σ H Q I h=>UU ⟨.ref s.heap.objs.size,_,I.laid (a:=s.heap.objs.size) (o:=.dK []) (t':=s.toks) (λ_ _ q=>D2 _ q) (L9 _) (yb s.heap I.big),rfl,h _ (I.hok.fresh (L9 _))⟩
def yd:PE X (.Dict [] [] pos) D3:=λpins s σ H Q I h=>UU ⟨.ref s.heap.objs.size,_,I.laid (a:=s.heap.objs.size) (o:=.dT []) (t':=s.toks) (λ_ _ q=>D2 _ q) (L9 _) (je s.heap I.big),rfl,h _ (I.hok.fresh (L9 _))⟩
end
abbrev oG:List (TE×TE)->St->Hp->(List (V×V)->Hp->Prop)->Prop
 |[],_,H,Q=>Q [] H
 |(tk,tv)::r,σ,H,Q=>tk σ H λx H1=>tv σ H1 λy H2=>oG r σ H2 λps H3=>Q ((x,y)::ps) H3
noncomputable abbrev VV:List (V×V)->List (q7×q7)->Prop:=Mh λp q=>RelV p.1 q.1/\RelV p.2 q.2
abbrev PPs(X:Cx)(pos:Pos)(keys:List (Option Expr))(values:List Expr)(trs:List (TE×TE)):Prop:=
 ∀(pins:List (Wk×Obj)) (s:J4) (σ:St) (H:Hp) (Q:List (V×V)->Hp->Prop),Inv X pins σ H s->oG trs σ H Q->
  Lu (model X.prog X.w) X.A (evalPairs (pairTrees keys values X.env pos)) (λvs s'=>∃ps H',Inv X pins σ H' s'/\VV ps vs/\Q ps H') X.xe s
def AN:PPs X pos [] [] []:=λpins s σ H Q I h=>pairTrees_nil_walk ⟨[],H,I,.nil,h⟩
def ye{k v:Expr}{ks:List (Option Expr)}{vs:List Expr}{tk tv:TE}{trs:List (TE×TE)}(j:PE X k tk)(q:PE X v tv)(z:PPs X pos ks vs trs):
 PPs X pos (Z k::ks) (v::vs) ((tk,tv)::trs):=λpins s σ H Q I h=>
 pairTrees_cons_walk (thn (j pins s σ H _ I h) λu s1 ⟨x,H1,B,rx,F⟩=>thn (q pins s1 σ H1 _ B F) λfv s2 ⟨y,H2,G,ry,J⟩=>thn (z pins s2 σ H2 _ G J) λws s3 L=>(by let⟨ps,O,U,rel,Y⟩:=L;show⟨(x,y)::ps,O,U,.cons ⟨rx,ry⟩ rel,Y⟩))
structure M2(X:Cx)(o:Expr)(m:Str)(apos:Pos)(e f:Expr)(cpos:Pos):Prop where
 base:S0 o m X.env (eval o X.env)=eval o X.env
 few:((Qe cpos (LQ [e,f] X.env)).all (λx=>!x.1)&&(backToKw cpos (Vf [] X.env)).all (λx=>x.1.isSome)
  && decide (([e,f]:List Expr).length+([]:List SF).length+(if([]:List SF).isEmpty then 0 else 1)<30))=Wi
 line:(apos.endLine==cpos.line)=Wi
 trees:Qe cpos (LQ [e,f] X.env)=[(Wj,eval e X.env),(Wj,eval f X.env)]
abbrev IsD(H:Hp)(a:Wk):Prop:=(∃kvs,Rd H a (.dK kvs))∨∃kvs,Rd H a (.dT kvs)
def jM(I:Inv X pins σ H s)(d:IsD H a):
 s.TypeIs (.ref a) "dict"/\(∀b,MV a=.ref b->∃ob,s.heap.get? b=Z ob/\ob.dict=N2)/\(a==N3)=Wj:=by
 rcases d with⟨kvs,e⟩|⟨kvs,e⟩
 ·let⟨_,hd,vs,_,dd⟩:=jL I.hok e;refine⟨dd.typeIs,λb q=>?_,hd⟩
  cases q
  let⟨ob,_,_,h1,h2,_⟩:=dd;show⟨ob,h1,h2.2.1⟩
 ·let⟨_,hd,xs,_,dd⟩:=eW I.hok e;refine⟨dd.typeIs,λb q=>?_,hd⟩
  cases q
  let⟨ob,_,_,h1,h2,_⟩:=dd;show⟨ob,h1,h2.2.1⟩
section
variable{X:Cx}{pins:List (Wk×Obj)}{σ:St}{H:Hp}{s:J4}{a:Wk}{y d:V}{u r:q7}{o:Option V}{A:Mz}{E:q7->J4->Prop}
def D4{Q:q7->J4->Prop}(j:A.units+1<Ol)(I:Inv X pins σ H s)(g:DGet H a y o)(ry:RelV y u)(rd:RelV d r)(h:∀w' s',Inv X pins σ H s'->RelV (o.getD d) w'->Q w' s'):
 Lu (model X.prog X.w) A (call (.builtin "dict.get") [.ref a,u,r]) Q E s:=by
 rcases g with⟨kvs,k,e,ey,l⟩|⟨kvs,k,b,e,ey,eb,l⟩
 ·subst ey;let⟨z,hd,vs,rel,dd⟩:=jL I.hok e;calc SG QF dd.typeIs SH (Sg _ _ _) (meets_dict_get_default (aJ X.prog X.w) a (jK ry) hd r) ⟨_,dd.mapOf,h _ _ (I.tok _) ?_⟩;rw[l];show(rel.val k).getD rd
 ·subst ey
  cases(show u=MV b from ry)
  let⟨z,hd,xs,rel,dd⟩:=eW I.hok e;calc SG QF dd.typeIs SH (Sg _ _ _) (meetsH_dict_get_default (PY (aJ X.prog X.w)) a b hd r) ⟨OI j,k,xs,eG I.hok eb,dd,h _ _ (I.tok _) ?_⟩;rw[l];show(rel.val k).getD rd
end
abbrev D5(td ty tx:TE):TE:=λσ H Q=>td σ H λx H1=>∃a,x=.ref a/\IsD H1 a/\ty σ H1 λy H2=>tx σ H2 λz H3=>∃o,DGet H3 a y o/\Q (o.getD z) H3
section
variable{X:Cx}{o e f:Expr}{apos cpos:Pos}{td ty tx:TE}
def yf(q:X.A.units+1<Ol)(ho:PE X o td)(he:PE X e ty)(hf:PE X f tx)(m:M2 X o "get" apos e f cpos):PE X (.Call (.Attribute o "get" apos) [e,f] [] cpos) (D5 td ty tx):=by
 intro pins s σ H Q I h;calc wpAny_Call_method m.base m.few m.line PySem.F.plainAttrs_dict QF PySem.F.type_dict_get (thn (ho pins s σ H _ I h) λu s1 B=>?_);let⟨x,H1,j,rx,a,ex,d,G⟩:=B;subst ex;obtain rfl:u=MV a:=rx;let⟨t1,J,_⟩:=jM j d;calc⟨t1,J,?_⟩;rw[m.trees];refine Qs rfl (T9 (Rr (thn (he pins s1 σ H1 _ j G) λiv s2 ⟨y,H2,L,ry,O⟩=>Rr (thn (hf pins s2 σ H2 _ L O) λfv s3 ⟨z,U,Y,rz,ov,g,fv⟩=>Uu ?_))))
 show D4 q Y g ry rz λw' s4 I4 rw'=>⟨_,U,I4,rw',fv⟩
end
end
variable{d:Nat}{ifs:List Expr}{elt target iter:Expr}{gens:List MQ}{scope:Scope}{acc:q7}{g:TG}{A:Mz}{wi:TI}{pos':Pos}
section
abbrev bo(elt:Expr)(gens:List MQ)(scope:Scope)(pos:Pos)(d:Nat)(acc:q7)(env:Env)(k:Sem Fin):Sem Fin:=
 match gens[d+1]? with
 |some g'=>eval g'.iter env>>=fun x=>RT g'.iter.pos>>=fun _=>Oj g'.iter env x>>=fun x=>holding [x] (Ua x)>>=fun it'=>runOwn (.compStart (.ListComp elt gens scope pos) (d+1) it' acc env) env>>=λ_=>k
 |none=>(eval elt env>>=λx=>call (.builtin "list.append") [acc,x]>>=λ_=>pure ())>>=λ_=>k
abbrev bF(ifs:List Expr)(env:Env):Sem Bool:=forIn ifs Wi λc r=>if r=Wi then do let ok <-isTrue c env (eval c env);pure (Pt ok)else pure (Pt r)
def oH(elt target iter:Expr)(ifs:List Expr)(gens:List MQ)(scope:Scope)(pos:Pos)(d:Nat)(it acc:q7)(env:Env)(hd:gens[d]?=Z ⟨target,iter,ifs,0⟩)(j:∀g',gens[d+1]?=Z g'->g'.is_async=0):
 compTurn (.ListComp elt gens scope pos) d it acc env=(RT iter.pos>>=λ_=>Qo it>>=λr=>match r with
  |none=>pure (.done .next)
  |some v=>R0 target it v>>=fun _=>assign target env v>>=fun _=>bF ifs env>>=fun ok=>(if ok=Wi then bo elt gens scope pos d acc env (again (.compLoop (.ListComp elt gens scope pos) d it acc env))else again (.compLoop (.ListComp elt gens scope pos) d it acc env))):=by
 unfold compTurn;simp only[hd];unfold bo bF
 cases hn:gens[d+1]? with
 |none=>rfl
 |some g'=>let⟨t',i',f',a'⟩:=g';let e:a'=0:=j _ hn;subst e;rfl
noncomputable abbrev TC:=St->Hp->(St->Hp->Prop)->Prop
abbrev cH(J:It)(g:TG)(tb:TC)(N:St->Hp->Prop)(σ:St)(H:Hp):Prop:=
 ∃W:Nat->Nat->St->Hp->Prop,(∃m,W 0 m σ H)/\∀i m σ H,W i m σ H->
  (J.stop i H/\N σ H)∨(J.go i H/\∃N':St->Hp->Prop,(∀σ' H',N' σ' H'->∃m',m'<m/\W (i+1) m' σ' H')/\∀x H',J.yld i H x H'->g x σ H' λσ2 H2=>tb σ2 H2 N')
abbrev PB(X:Cx)(F:Sem Fin->Sem Fin)(t:TC):Prop:=
 ∀(pins:List (Wk×Obj)) (s:J4) (σ:St) (H:Hp) (N:St->Hp->Prop) (k:Sem Fin) (Q:Fin->J4->Prop) (E:q7->J4->Prop),Inv X pins σ H s->t σ H N->
  (∀s' σ' H',Inv X pins σ' H' s'->N σ' H'->Lu (model X.prog X.w) X.A k Q E s')->Lu (model X.prog X.w) X.A (F k) Q E s
section
variable{X:Cx}
def nox{α:Type}{m:Sem α}{Q:α->J4->Prop}{E:q7->J4->Prop}(hx:∀e s,X.xe e s->False)(h:Lu (model X.prog X.w) X.A m Q X.xe s):Lu (model X.prog X.w) X.A m Q E s:=O7 h (λ_ _ q=>q) λe s' q=>(hx e s' q).elim
abbrev jN(ts:List TT)(tb:TC):TC:=match ts with
 |[]=>tb
 |t::r=>λσ H N=>t σ H λb H1=>if b=Wi then jN r tb σ H1 N else N σ H1
def jO{env:Env}{M:QE}{A:Mz}{Q:Bool->J4->Prop}{E:q7->J4->Prop}{s:J4}(h:Q Wj s):∀ifs:List Expr,
 Lu M A (forIn ifs Wj λc r=>if r=Wi then do let ok <-isTrue c env (eval c env);pure (Pt ok)else pure (Pt r)) Q E s
 |[]=>KZ h
 |c::r=>by rw[OP];simp only[NO,if_false];show gV (KZ (jO h r))
def oI(hx:∀e s,X.xe e s->False){tb:TC}{N:St->Hp->Prop}:∀{ifs:List Expr} {ts:List TT},Mh (λc t=>PT X c t) ifs ts->
 ∀(pins:List (Wk×Obj)) (s:J4) (σ:St) (H:Hp) (E:q7->J4->Prop),Inv X pins σ H s->jN ts tb σ H N->
 Lu (model X.prog X.w) X.A (bF ifs X.env) (λok s'=>∃H',Inv X pins σ H' s'/\if ok=Wi then tb σ H' N else N σ H') E s
 |_,_,.nil=>λpins s σ H E I h=>KZ ⟨H,I,by rw[if_pos rfl];show h⟩
 |c::ifs,_,.cons (b:=t) z hr=>by
  intro pins s σ H E I h;let ih:=oI hx hr (tb:=tb) (N:=N) pins;unfold bF at ih⊢;rw[OP];simp only[if_true];calc gV (gV (nox hx (thn (z pins s σ H _ I h) λb s1 B=>?_)));let⟨H1,q,j⟩:=B;refine KZ ?_
  cases b with
  |false=>rw[if_neg Lg]at j;show jO ⟨H1,q,by rw[if_neg Lg];show j⟩ ifs
  |true=>rw[if_pos rfl]at j;show ih s1 σ H1 E q j
def yg(hx:∀e s,X.xe e s->False){F:Sem Fin->Sem Fin}{tb:TC}(z:PB X F tb){ts:List TT}(B:Mh (λc t=>PT X c t) ifs ts):
 PB X (λk=>bF ifs X.env>>=λok=>if ok=Wi then F k else k) (jN ts tb):=by
 intro pins s σ H N k Q E I h hk;calc gV (thn (oI hx B pins s σ H E I h) λok s1 G=>?_);let⟨H1,q,j⟩:=G
 cases ok with
 |false=>rw[if_neg Lg]at j⊢;show hk s1 σ H1 q j
 |true=>rw[if_pos rfl]at j⊢;show z pins s1 σ H1 N k Q E q j hk
abbrev A4(p:Wk)(te:TE):TC:=λσ H N=>te σ H λx H1=>∃xs,H1 p=Z (.lst xs)/\xs.length<Lf/\N σ (upd H1 p (.lst (xs++[x])))
def kT(hx:∀e s,X.xe e s->False){p:Wk}{te:TE}(he:PE X elt te)(hd:gens[d+1]?=N2):
 PB X (bo elt gens scope pos d (.ref p) X.env) (A4 p te):=by
 intro pins s σ H N k Q E I h q;unfold bo;rw[hd];calc gV (gV (nox hx (thn (he pins s σ H _ I h) λu s1 j=>?_)));let⟨x,H1,z,B,xs,F,l1,G⟩:=j;calc gV (nox hx (thn (mn (X:=X) pins s1 σ H1 (.ref p) [x] (.ref p) [u] (λ_ H2=>N σ H2) z rfl (.cons B .nil) ⟨p,xs,x,rfl,rfl,F,l1,G⟩) λv s2 j=>?_));let⟨_,H2,J,_,L⟩:=j;show KZ (q s2 σ H2 J L)
def mz(hx:∀e s,X.xe e s->False)(fv:X.calm=Wi)(hd:gens[d]?=Z ⟨target,iter,ifs,0⟩)(ha:∀g',gens[d+1]?=Z g'->g'.is_async=0)(hg:PG X target g){tb:TC}(j:PB X (λk=>bF ifs X.env>>=λok=>if ok=Wi then bo elt gens scope pos d acc X.env k else k) tb){N:St->Hp->Prop}{it:Wk}{fp:List Wk}{tn:Nat->Heap->Prop}{J:It}(I:Inv X pins σ H s)(T:gO X.prog X.w X.K target J fp it tn)(t0:tn 0 s.heap)(f2:∀b∈fp,cu X pins H b)(h:cH J g tb N σ H):
 QS (model X.prog X.w) X.A (.compLoop (.ListComp elt gens scope pos) d (.ref it) acc X.env) (λr s'=>match r with|.ok _=>∃σ' H',Inv X pins σ' H' s'/\N σ' H'|.error _=>False) s:=by
 let⟨W,⟨m0,w0⟩,turn⟩:=h;let stat:∀{H':Hp},(∀b∈fp,H' b=N2)->∀b∈fp,cu X pins H' b:=λhn b j=>⟨hn b j,(f2 b j).2⟩;calc codeAny_loop rfl (λn s'=>∃i σ' H',Inv X pins σ' H' s'/\tn i s'.heap/\(∀b∈fp,H' b=N2)/\W i n σ' H') ?_ m0 ⟨0,σ,H,I,t0,λb j=>(f2 b j).1,w0⟩;rintro n s3 ⟨i,σ3,G,I3,B,F,w3⟩;change Lu _ _ ((compTurn (.ListComp elt gens scope pos) d (.ref it) acc X.env).onRaise (λx=>do noteFrame x X.env;theTreesLotGoes x)) _ _ s3
 calc wpAny_noted ?_;rw[oH elt target iter ifs gens scope pos d (.ref it) acc X.env hd ha];calc gV (PF (gV ?_));change Lu (model X.prog X.w) X.A _ _ _ s3
 rcases turn i n σ3 G w3 with⟨stop,qn⟩|⟨go,N',hN,step⟩
 ·calc thn (T.done X rfl rfl rfl fv i pins s3 σ3 G _ I3 (stat F) B stop) λr s4 q=>?_;let⟨L,I4⟩:=q;subst L;show KZ ⟨σ3,G,I4,qn⟩
 ·calc thn (T.item X rfl rfl rfl fv i pins s3 σ3 G _ I3 (stat F) B go) λr s4 q=>?_;let⟨u,L,h4⟩:=q;subst L;calc gV (thn h4 λ_ s5 q=>?_);let⟨x,H5,I5,r5,y5,z,O⟩:=q;let U:=I5.pinned (stat O) (T.obj _ _ z);calc gV (nox hx (thn (hg _ s5 σ3 H5 x u _ U r5 (step x H5 y5)) λ_ s6 q=>?_));let⟨σ6,H6,I6,q6⟩:=q;calc j _ s6 σ6 H6 N' (again (.compLoop (.ListComp elt gens scope pos) d (.ref it) acc X.env)) _ _ I6 q6 λs7 σ7 H7 Y n7=>?_;let⟨m',hm,w7⟩:=hN σ7 H7 n7;calc KZ ⟨rfl,m',hm,i+1,σ7,H7,Y.unpinned,T.keep _ _ _ z λb j o e=>(Y.pin (b,o) (LH _ (LH _ (dB j e)))).1,λb j=>?_,w7⟩;let⟨o,e,dd⟩:=T.obj _ _ z b j;show(Y.pin (b,o) (LH _ (LH _ (dB j e)))).2.1
def jP {it:q7}{env:Env}{prog:LN}{R:Result->J4->Prop}(hd:gens[d]?=Z ⟨target,iter,ifs,0⟩)(h0:QS (model prog w) A (.compLoop (.ListComp elt gens scope pos) d it acc env) R s)(h:Lu (model prog w) A (Ua it) (fun it' s'=>QS (model prog w) A (.compLoop (.ListComp elt gens scope pos) d it' acc env) R s')
   (notedBy (model prog w) A env λx s'=>R (.error x) s') s):
 QS (model prog w) A (.compStart (.ListComp elt gens scope pos) d it acc env) R s:=by
 calc codeAny_of_tree ?_;change Lu _ _ ((compStart (.ListComp elt gens scope pos) d it acc env).onRaise (λx=>do noteFrame x env;RT theWindowsPlace)) _ _ s
 calc wpAny_notedAt ?_;unfold compStart;let j:(clausesOf (.ListComp elt gens scope pos))[d]?=Z ⟨target,iter,ifs,0⟩:=hd;rw[j];change Lu _ _ (ask>>=_) _ _ s;refine gV (wpAny_askSetting (wpAny_ite ?_))
 split
 ·first
   |show gV (KZ (KZ (QK rfl h0)))
   |show KZ (QK rfl h0)
 ·first
   |show gV (NT (gV (PF (gV (O7 h (λit' s' h'=>KZ (QK rfl h')) λ_ _ x=>x)))))
   |(calc gV (NT ?_);change Lu _ _ (RT iter.pos>>=_) _ _ s;show gV (PF (gV (O7 h (λit' s' h'=>KZ (QK rfl h')) λ_ _ x=>x))))
def mC(hx:∀e s,X.xe e s->False)(z:X.calm=Wi)(hd:gens[d+1]?=Z ⟨target,iter,ifs,0⟩)(B:∀g',gens[d+1+1]?=Z g'->g'.is_async=0)(hi:PI X target iter wi)(F:PG X target g){tb:TC}(G:PB X (λk=>bF ifs X.env>>=λok=>if ok=Wi then bo elt gens scope pos (d+1) acc X.env k else k) tb)(hs:∀x,Oj iter X.env x=pure x):
 PB X (bo elt gens scope pos d acc X.env) (λσ H N=>wi σ H λJ H1=>cH J g tb N σ H1):=by
 intro pins s σ H N k Q E I h hk;unfold bo;rw[hd];calc gV (nox hx (thn (hi pins s σ H _ I h) λv s1 h1=>?_));calc gV (PF (gV (Pc (hs v) ?_)));calc gV (MP (nox hx (thn h1 λitv s2 h2=>?_)));let⟨it,fp,tn,J,H2,e,L,T,j,f2,hw⟩:=h2;subst e;let loop:=mz (acc:=acc) hx z hd B F G L T j f2 hw;refine gV (wpAny_runOwn (Qp (jP (R:=λr s'=>match r with|.ok _=>∃σ' H',Inv X pins σ' H' s'/\N σ' H'|.error _=>False) hd loop (T.self _ 0 _ _ _ j loop)) λr s3 q=>?_))
 cases r with
 |error e=>show q.elim
 |ok f=>let⟨σ3,O,U,Y⟩:=q;show hk s3 σ3 O U Y
abbrev aZ(cells:List (Str×Wk)):List (Str×P6)->List (Str×Wk)->List (Str×Wk)
 |[],acc=>acc
 |(n,k)::r,acc=>if k==.free then(match cells.lookup n with|some c=>aZ cells r ((n,c)::acc)|none=>aZ cells r acc)else aZ cells r acc
def j6{env:Env}:∀(names:List (Str×P6)) (acc:List (Str×Wk)),(∀x∈names,x.2=.free->(env.cells.lookup x.1).isSome=Wi)->
 (forIn names acc λ(x:Str×P6) (r:List (Str×Wk))=>(match x with|(name,kind)=>if(kind==Mc)=Wi then do let c <-cellOf env name;pure (Pt ((name,c)::r))else pure (Pt r):Sem (ForInStep (List (Str×Wk)))))=(pure (aZ env.cells names acc):Sem (List (Str×Wk)))
 |[],acc,_=>rfl
 |(n,k)::r,acc,h=>by
  rw[OP];let ih:=λacc'=>j6 r acc' λx hx=>h x (L4 _ hx);unfold aZ
  by_cases hk:(k==Mc)=Wi
  ·let⟨c,q⟩:=OY.mp (h (n,k) Ld (beq_iff_eq.mp hk));let j:env.cells.lookup n=Z c:=q;let z:cellOf env n=pure c:=by unfold cellOf;rw[j]
   simp only[hk,if_true,z,j,pure_bind];show ih _
  ·simp only[hk,if_false,pure_bind];show ih _
def jQ{env:Env}(h:∀x∈scope.names,x.2=.free->(env.cells.lookup x.1).isSome=Wi):closureFor scope env=pure (aZ env.cells scope.names []):=by unfold closureFor;let e:=j6 (env:=env) scope.names [] h;simp only[bind_pure];show e
def dC{cells:List (Str×Wk)}{y:Str}{c:Wk}:∀{names:List (Str×P6)} {acc:List (Str×Wk)},(y,c)∈aZ cells names acc->(y,c)∈acc∨(cells.lookup y=Z c/\(y,Mc)∈names)
 |[],acc,h=>.inl h
 |(n,k)::r,acc,h=>by
  unfold aZ at h
  by_cases hk:(k==Mc)=Wi
  ·rw[if_pos hk]at h;let B:k=.free:=beq_iff_eq.mp hk;subst B
   cases F:cells.lookup n with
   |none=>
    rw[F]at h
    rcases dC h with z|⟨j,q⟩
    ·show .inl z
    ·show .inr ⟨j,L4 _ q⟩
   |some c'=>
    rw[F]at h
    rcases dC h with z|⟨j,q⟩
    ·rcases Lm.mp z with e|z
     ·cases e
      show .inr ⟨F,Ld⟩
     ·show .inl z
    ·show .inr ⟨j,L4 _ q⟩
  ·rw[if_neg hk]at h
   rcases dC h with z|⟨j,q⟩
   ·show .inl z
   ·show .inr ⟨j,L4 _ q⟩
def dD{cells:List (Str×Wk)}{y:Str}{c:Wk}(j:cells.lookup y=Z c):∀{names:List (Str×P6)} {acc:List (Str×Wk)},((y,c)∈acc∨(y,Mc)∈names)->(y,c)∈aZ cells names acc
 |[],acc,h=>by
  rcases h with h|h
  ·show h
  ·simp at h
 |(n,k)::r,acc,h=>by
  unfold aZ
  by_cases hk:(k==Mc)=Wi
  ·rw[if_pos hk];let q:k=.free:=beq_iff_eq.mp hk;subst q
   cases hl:cells.lookup n with
   |none=>
    refine dD j ?_
    rcases h with h|h
    ·show .inl h
    ·rcases Lm.mp h with e|h
     ·cases e;rw[hl]at j;cases j
     ·show .inr h
   |some c'=>
    refine dD j ?_
    rcases h with h|h
    ·show .inl (L4 _ h)
    ·rcases Lm.mp h with e|h
     ·cases e;rw[hl]at j;cases j;show .inl Ld
     ·show .inr h
  ·rw[if_neg hk];refine dD j ?_
   rcases h with h|h
   ·show .inl h
   ·rcases Lm.mp h with e|h
    ·cases e;show absurd rfl hk
    ·show .inr h
def dw:∀(names:List (Str×P6)) (n:Nat) (acc acc':List (Str×Wk)),Om n names (acc++acc')=Om n names acc++acc'
 |[],_,_,_=>rfl
 |(x,k)::r,n,acc,acc'=>by
  unfold Om
  by_cases j:(k==Oc)=Wi
  ·rw[if_pos j,if_pos j];show dw r (n+1) ((x,n)::acc) acc'
  ·rw[if_neg j,if_neg j];show dw r n acc acc'
def dy:∀{names:List (Str×P6)} {n:Nat} {acc:List (Str×Wk)} {y:Str} {c:Wk},(y,c)∈Om n names acc->(y,c)∈acc∨(n<=c/\(y,Oc)∈names)
 |[],_,_,_,_,h=>.inl h
 |(x,k)::r,n,acc,y,c,h=>by
  unfold Om at h
  by_cases hk:(k==Oc)=Wi
  ·rw[if_pos hk]at h;let j:k=.cell:=beq_iff_eq.mp hk;subst j
   rcases dy h with z|⟨q,B⟩
   ·rcases Lm.mp z with e|z
    ·cases e;show .inr ⟨L9 _,Ld⟩
    ·show .inl z
   ·show .inr ⟨Nat.le_of_succ_le q,L4 _ B⟩
  ·rw[if_neg hk]at h
   rcases dy h with z|⟨q,B⟩
   ·show .inl z
   ·show .inr ⟨q,L4 _ B⟩
structure bp(sc osc:Scope)(oN N':List Str)(fr:List (Option Nat)):Prop where
 kind:sc.kind=.function
 nd:(sc.names.map (·.1)).Nodup
 ndN:N'.Nodup
 free:∀x∈sc.names,x.2=.free->osc.names.lookup x.1=Z .cell∨osc.names.lookup x.1=Z .free
 len:fr.length=N'.length
 fr:∀(i j:Nat) (x:Str),N'[i]?=Z x->fr[i]?=Z (Z j)->oN[j]?=Z x/\(x,Mc)∈sc.names
abbrev inh(fr:List (Option Nat))(σ:St):St:=fr.map λo=>o.bind λj=>(σ[j]?).join
abbrev bq(X:Cx)(sc:Scope)(L:Wk):Env:={scope:=relabel sc X.env,locals:=L,globals:=X.env.globals,cells:=Om (L+1) sc.names (aZ X.env.cells sc.names []),qual:=X.env.qual,func:=N2,code:=X.env.code,frame:=X.env.frame,builtins:=X.env.builtins}
abbrev aO(X:Cx)(sc:Scope)(N':List Str)(s:J4)(H:Hp)(fp:List Wk):Cx:={X with N:=N',s₀:=s,H₀:=H,env:=bq X sc s.heap.objs.size,outer:=X.stack,stack:=X.stack,ex:=fp,fn:=λx=>sc.names.lookup x==Z .cell,pn:=[],xe:=λ_ _=>False}
def aX:∀{l:List (Str×P6)} {x:Str} {k:P6},(l.map (·.1)).Nodup->(x,k)∈l->l.lookup x=Z k
 |(y,k')::r,x,k,nd,h=>by
  let nd':(y::r.map (·.1)).Nodup:=nd;let⟨q,z⟩:=Na.mp nd';rw[OD]
  rcases Lm.mp h with e|hm
  ·cases e;simp
  ·let j:(x==y)=Wj:=by
    calc beq_eq_false_iff_ne.mpr λe=>?_;subst e;show q (L7.mpr ⟨(x,k),hm,rfl⟩)
   rw[j];show aX z hm
def cI{env:Env}:∀{names:List (Str×P6)} {x:Str},
 (names.map fun (n,k)=>if(k==Mc&&env.scope.kind==.function&&env.kindOf n==Z .cell)then(n,Oc)else(n,k)).lookup x =
   (names.lookup x).map λk=>if(k==Mc&&env.scope.kind==.function&&env.kindOf x==Z .cell)then Oc else k
 |[],_=>rfl
 |(n,k)::r,x=>by
  let ih:=cI (env:=env) (names:=r) (x:=x);change List.lookup x ((if(k==Mc&&env.scope.kind==.function&&env.kindOf n==Z .cell)=Wi then(n,Oc)else(n,k))::_)=_
  rw[OD (a:=x) (b:=k)]
  by_cases hx:x=n
  ·subst hx;simp only[beq_self_eq_true];change _=Z (if(k==Mc&&env.scope.kind==.function&&env.kindOf x==Z .cell)=Wi then Oc else k)
   by_cases j:(k==Mc&&env.scope.kind==.function&&env.kindOf x==Z .cell)=Wi
   ·rw[if_pos j,if_pos j,OD];simp only[beq_self_eq_true]
   ·rw[if_neg j,if_neg j,OD];simp only[beq_self_eq_true]
  ·let q:(x==n)=Wj:=beq_eq_false_iff_ne.mpr hx;rw[q]
   by_cases j:(k==Mc&&env.scope.kind==.function&&env.kindOf n==Z .cell)=Wi
   ·rw[if_pos j,OD,q];show ih
   ·rw[if_neg j,OD,q];show ih
section
variable{pins:List (Wk×Obj)}{σ:St}{H:Hp}{s:J4}{sc:Scope}{N':List Str}{fr:List (Option Nat)}{fp:List Wk}
def gR(I:Inv X pins σ H s)(B:bp sc X.env.scope X.N N' fr):∀x∈sc.names,x.2=.free->(X.env.cells.lookup x.1).isSome=Wi:=λx hx e=>by let⟨c,j⟩:=I.ok.has x.1 (B.free x hx e);rw[j];rfl
def vq(I:Inv X pins σ H s)(f2:∀b∈fp,cu X pins H b)(IK:∀b∈fp,b<s.heap.objs.size)(B:bp sc X.env.scope X.N N' fr):
 Inv (aO X sc N' s H fp) [] (inh fr σ) H {s with heap:=UW (s.heap.push {cls:=.type "dict",data:=.dict #[]}) sc.names}:=by
 let G:∀b o,s.heap.get? b=Z o->(UW (s.heap.push {cls:=.type "dict",data:=.dict #[]}) sc.names).get? b=Z o:=λb o e=>SR _ _ b o (D2 _ e);let ok:=cellsFrom_ok sc.names (s.heap.push {cls:=.type "dict",data:=.dict #[]}) (s.heap.objs.size+1) [] ⟨λ_ _ hm=>(nomatch hm),RU⟩ (by rw[NU];show L9 _)
 rw[NU]at ok;let capp:Om (s.heap.objs.size+1) sc.names (aZ X.env.cells sc.names [])=Om (s.heap.objs.size+1) sc.names []++aZ X.env.cells sc.names []:=dw sc.names _ [] _;let cof:∀x c,(bq X sc s.heap.objs.size).cells.lookup x=Z c->((x,c)∈Om (s.heap.objs.size+1) sc.names []/\s.heap.objs.size<c)∨(X.env.cells.lookup x=Z c/\(x,Mc)∈sc.names):=λx c e=>by
  let m:=NA e;let m':(x,c)∈Om (s.heap.objs.size+1) sc.names (aZ X.env.cells sc.names []):=m;rw[capp]at m'
  rcases Lb.mp m' with z|z
  ·show .inl ⟨z,(ok.empty x c z).2⟩
  ·rcases dC z with q|q
   ·simp at q
   ·show .inr q
 let cOld:∀x c,X.env.cells.lookup x=Z c->c<s.heap.objs.size:=λx c e=>by let⟨v,q⟩:=I.cell x c e;show q.lt
 let kindF:∀x,(x,Mc)∈sc.names->(bq X sc s.heap.objs.size).kindOf x=Z .cell∨(bq X sc s.heap.objs.size).kindOf x=Z .free:=λx hx=>by
  let e1:sc.names.lookup x=Z .free:=aX B.nd hx;let O:(bq X sc s.heap.objs.size).kindOf x=_:=cI (env:=X.env) (names:=sc.names) (x:=x);rw[e1]at O;rw[O]
  by_cases J:(Mc==Mc&&X.env.scope.kind==.function&&X.env.kindOf x==Z .cell)=Wi
  ·show .inl (by simp only[Pu,if_pos J])
  ·show .inr (by simp only[Pu,if_neg J])
 let cellF:∀x c,(x,Mc)∈sc.names->X.env.cells.lookup x=Z c->(bq X sc s.heap.objs.size).cells.lookup x=Z c:=λx c hx J=>by
  let m:=dD (acc:=[]) J (.inr hx);let m2:(x,c)∈(bq X sc s.heap.objs.size).cells:=by change(x,c)∈Om (s.heap.objs.size+1) sc.names (aZ X.env.cells sc.names []);rw[capp];show LH _ m
  cases F:(bq X sc s.heap.objs.size).cells.lookup x with
  |none=>
   exfalso
   let:∀{l:List (Str×Wk)},(x,c)∈l->l.lookup x=N2->False:=by
    intro l
    induction l with
    |nil=>intro h;simp at h
    |cons a r ih=>
     intro h e;let⟨y,d⟩:=a;rw[OD]at e
     rcases Lm.mp h with z|z
     ·cases z;simp at e
     ·by_cases hxy:(x==y)=Wi
      ·rw[hxy]at e;cases e
      ·simp only[QL]at hxy;rw[hxy]at e;show ih z e
   show this m2 F
  |some c'=>
   rcases cof x c' F with⟨z,_⟩|⟨z,_⟩
   ·rcases dy z with q|⟨_,q⟩
    ·simp at q
    ·let a1:=aX B.nd hx;let a2:=aX B.nd q;rw[a1]at a2;cases a2
   ·rw[J]at z;rw[z]
 let kindC:∀x,(bq X sc s.heap.objs.size).kindOf x=Z .cell->(x,Oc)∈sc.names∨(x,Mc)∈sc.names:=λx e=>by
  let O:(bq X sc s.heap.objs.size).kindOf x=_:=cI (env:=X.env) (names:=sc.names) (x:=x);rw[O]at e
  cases F:sc.names.lookup x with
  |none=>rw[F]at e;cases e
  |some k=>
   rw[F]at e;let m:=NA F
   cases k with
   |cell=>show .inl m
   |free=>show .inr m
   |«local»=>simp at e
   |globalImplicit=>simp at e
   |globalExplicit=>simp at e
 let kindFr:∀x,(bq X sc s.heap.objs.size).kindOf x=Z .free->(x,Mc)∈sc.names:=λx e=>by
  let O:(bq X sc s.heap.objs.size).kindOf x=_:=cI (env:=X.env) (names:=sc.names) (x:=x);rw[O]at e
  cases F:sc.names.lookup x with
  |none=>rw[F]at e;cases e
  |some k=>
   rw[F]at e;let m:=NA F
   cases k with
   |free=>show m
   |cell=>simp at e
   |«local»=>simp at e
   |globalImplicit=>simp at e
   |globalExplicit=>simp at e
 refine⟨⟨I.ok.mod,B.kind,I.ok.glob,I.ok.blt,L9 _,λy z c h1 h2=>?_,λy hy=>?_,λy c hf h=>?_,I.ok.hd,I.ok.frames,.inl rfl,λb U=>⟨?_,λx c e=>?_⟩,λb o e=>I.bs b o e,?_,λb o e U=>?_,λb U=>?_,I.stack,I.stkFree⟩,
  rfl,I.bare,Un.kept G,⟨_,(Heap.Ns.new s.heap (.type "dict")).keeps (SR _ _),λi x v h1 h2 h3=>?_⟩,λy c h=>?_,I.hok.fresh (L9 _),λy c h=>?_,λp hp=>absurd (show p∈([]:List (Wk×Obj))from hp) (_),I.hok.kept G,?_⟩
 ·rcases cof y c h1 with⟨a1,a2⟩|⟨a1,a2⟩
  ·rcases cof z c h2 with⟨fv,b2⟩|⟨fv,b2⟩
   ·show name_of_addr ok.apart a1 fv
   ·show absurd (cOld z c fv) (VI.mpr (PZ a2))
  ·rcases cof z c h2 with⟨fv,b2⟩|⟨fv,b2⟩
   ·show absurd (cOld y c a1) (VI.mpr (PZ b2))
   ·show I.ok.inj y z c a1 fv
 ·let IO:(y,Oc)∈sc.names∨(y,Mc)∈sc.names:=by
   rcases hy with hy|hy
   ·show kindC y hy
   ·show .inr (kindFr y hy)
  rcases IO with q|q
  ·show OY.mp (Qq sc.names _ _ (.inl (aX B.nd q)))
  ·let⟨c,J⟩:=OY.mp (gR I B _ q rfl);show⟨c,cellF y c q J⟩
 ·let IP:(sc.names.lookup y==Z .cell)=Wi:=hf;let IM:sc.names.lookup y=Z .cell:=by simpa using IP
  rcases cof y c h with⟨_,a2⟩|⟨_,a2⟩
  ·show PZ a2
  ·rw[aX B.nd a2]at IM;cases IM
 ·show Md (IK b U)
 ·rcases cof x c e with⟨_,a2⟩|⟨a1,_⟩
  ·show OA (Nat.lt_trans (IK b U) a2)
  ·show(f2 b U).2.2.2.2.1 x c a1
 ·show Ml I.ok.bsz I.sz
 ·let⟨f0,f1,f3,f4,f5,f6⟩:=f2 b U
  rcases f4 with z|z
  ·show I.ok.noex b o e z
  ·show absurd (LZ (LZ (Lr e) I.ok.bsz) z) (NJ _)
 ·let⟨f0,f1,f3,f4,f5,f6⟩:=f2 b U;showλz=>(Lm.mp (I.stkSub b z)).elim f1 f3
 ·let hi:∃j,fr[i]?=Z (Z j)/\σ[j]?=Z (Z v):=by
   unfold inh at h2;rw[Lp]at h2
   cases e:fr[i]? with
   |none=>rw[e]at h2;cases h2
   |some o=>
    rw[e]at h2
    cases o with
    |none=>cases h2
    |some j=>
     calc⟨j,rfl,?_⟩;let L:Z ((σ[j]?).join)=Z (Z v):=h2
     cases e':σ[j]? with
     |none=>rw[e']at L;cases L
     |some w=>rw[e']at L;cases L;rfl
  let⟨j,e1,O⟩:=hi;let⟨n1,n2⟩:=B.fr i j x h1 e1;let⟨m,hn,F⟩:=I.loc;let hv:Vis X.env.scope x:=.inr (B.free (x,.free) n2 rfl);let⟨u,ru,lk⟩:=F j x v n1 O hv;refine⟨u,ru,.inr ⟨kindF x n2,?_⟩⟩
  rcases lk with⟨k1,_⟩|⟨_,c,J,Y⟩
  ·let IN:X.env.scope.names.lookup x=Z .local:=k1
   rcases B.free (x,.free) n2 rfl with z|z
   ·rw[IN]at z;cases z
   ·rw[IN]at z;cases z
  ·show⟨c,cellF x c n2 J,Y.keeps G⟩
 ·rcases cof y c h with⟨a1,a2⟩|⟨a1,a2⟩
  ·show⟨_,(ok.empty y c a1).1⟩
  ·let⟨v,q⟩:=I.cell y c a1;show⟨v,q.keeps G⟩
 ·rcases cof y c h with⟨a1,a2⟩|⟨a1,a2⟩
  ·show I.hok.fresh (PZ a2)
  ·show I.freeC y c a1
 ·change(inh fr σ).length=N'.length;unfold inh;rw[h7];show B.len
def mD{σ':St}{s':J4}(I:Inv X pins σ H s)(f2:∀b∈fp,cu X pins H b)(J:Inv (aO X sc N' s H fp) [] σ' H' s')(hs:NM s.heap.objs.size s'.heap h'):
 Inv X pins σ H' {s' with heap:=h'}:=by
 let u:Un (frs X.stack) fp H H' s.heap s'.heap:=J.base;let ne:∀b o,s.heap.get? b=Z o->b≠s.heap.objs.size:=λb o e=>Md (Lr e);refine I.call' (s':={s' with heap:=h'}) (ch:=fp) J.os ⟨λb o e n j hx=>?_,λb o e n j hx=>?_,u.free,λb o e hx=>?_,u.tups,u.frzs,u.tbls⟩ (λb v e=>?_) J.bare λb j=>?_
 ·show(hs.2 b (ne b o e)).trans (u.keep b o e n j hx)
 ·let⟨sl,q⟩:=u.slot b o e n j hx;show⟨sl,(hs.2 b (ne b o e)).trans q⟩
 ·let⟨o',q⟩:=u.there b o e hx;show⟨o',(hs.2 b (ne b o e)).trans q⟩
 ·calc(J.hok b v e).stay (λc w F q=>(hs.2 c ?_).trans q) (λ_ q=>q) λ_ _ q=>q;let fr:H' s.heap.objs.size=N2:=J.free
  rcases F with z|z
  ·rw[z];intro B;rw[B,fr]at e;cases e
  ·intro B;rw[B,fr]at z;cases z
 ·let⟨f0,f1,O,f4,G,L⟩:=f2 b j;show⟨f4,f1,G,L⟩
def nI {Q:Env->J4->Prop}{E:q7->J4->Prop}{M:QE}(h:Q {scope:=sc,locals:=s.heap.objs.size,globals:=X.env.globals,cells:=Om (s.heap.objs.size+1) sc.names (aZ X.env.cells sc.names []),qual:=X.env.qual,func:=N2,code:=X.env.code,frame:=X.env.frame,builtins:=X.env.builtins}
   {s with heap:=UW (s.heap.push {cls:=.type "dict",data:=.dict #[]}) sc.names}):
 Lu M A (Tb sc X.env.globals (aZ X.env.cells sc.names []) [] X.env.qual N2 .none (Z X.env)) Q E s:=by
 simp only[Tb,Ud,if_true];calc gV (wpAny_alloc ?_);refine gV (wpAny_layCells _ (λname kind cells=>by cases hkc:kind==Oc<;>simp[hkc]) _ _ _ _ ?_)
 rw[show({s with heap:=s.heap.push {cls:=.type "dict",data:=.dict #[]}}:J4).heap.objs.size=s.heap.objs.size+1 from NU ..]
 show gV (KZ (KZ h))
def oJ(hc:X.calm=Wi){rest:List MQ}{E:q7->J4->Prop}(hx:∀e s,X.xe e s->False)(B:bp sc X.env.scope X.N N' fr)(ha:∀g',rest[0]?=Z g'->g'.is_async=0)(hi:PI X target iter wi){tb:Wk->TC}(hg:∀s H fp,PG (aO X sc N' s H fp) target g)(j:∀s H fp p,PB (aO X sc N' s H fp) (λk=>bF ifs (aO X sc N' s H fp).env>>=λok=>if ok=Wi then bo elt (⟨target,iter,ifs,0⟩::rest) sc pos 0 (.ref p) (aO X sc N' s H fp).env k else k) (tb p)){Nn:Wk->St->Hp->Prop}{RR:q7->Wk->Result->J4->Prop}(I:Inv X pins σ H s)(h:wi σ H λJ H1=>∀p,H1 p=N2->cH J g (tb p) (Nn p) (inh fr σ) (upd H1 p (.lst [])))(hR:∀p fp s3 L s' σ' H' f,Inv X pins σ L s3->(∀b∈fp,cu X pins L b)->Inv (aO X sc N' s3 L fp) [] σ' H' s'->Nn p σ' H'->RR (.ref p) s3.heap.objs.size (.ok f) s'):
 Lu (model X.prog X.w) X.A (eval iter X.env) (λx s₁=>Lu (model X.prog X.w) X.A (Ua x) (λit s₂=>Lu (model X.prog X.w) X.A (newList []) (λacc s₃=>
  Lu (model X.prog X.w) X.A (Tb sc X.env.globals (aZ X.env.cells sc.names []) [] X.env.qual N2 .none (Z X.env)) (λcenv s₄=>QS (model X.prog X.w) X.A (.compStart (.ListComp elt (⟨target,iter,ifs,0⟩::rest) sc pos) 0 it acc {cenv with scope:=relabel sc X.env}) (RR acc cenv.locals) s₄) E s₃) E s₂) E s₁) E s:=by
 calc nox hx (thn (hi pins s σ H _ I h) λv s1 h1=>nox hx (thn h1 λitv s2 h2=>?_));let⟨it,fp,tn,J,H2,e,fv,T,q,f2,hw⟩:=h2;subst e;let hf:H2 s2.heap.objs.size=N2:=fv.hok.fresh (L9 _);calc S4 ?_;let I3:Inv X pins σ (upd H2 s2.heap.objs.size (.lst [])) {s2 with heap:=s2.heap.push {cls:=.type "list",dict:=N2,data:=.seq ([]:List q7).toArray}}:=fv.laid (t':=s2.toks) (λb u e=>D2 _ e) (L9 _) ⟨N6 _,[],0,.nil,Lk _ rfl⟩
 let fneq:∀b∈fp,b≠s2.heap.objs.size:=λb j z=>by let⟨o,e,_⟩:=T.obj _ _ q b j;show absurd (Lr e) (by rw[z];show NJ _)
 let O:∀b∈fp,cu X pins (upd H2 s2.heap.objs.size (.lst [])) b:=λb j=>⟨by rw[am (fneq b j)];show(f2 b j).1,(f2 b j).2⟩
 let U:∀b∈fp,b<(s2.heap.push {cls:=.type "list",dict:=N2,data:=.seq ([]:List q7).toArray}).objs.size:=λb j=>by let⟨o,e,_⟩:=T.obj _ _ q b j;rw[NU];show Nat.lt_succ_of_lt (Lr e)
 let Y:tn 0 (s2.heap.push {cls:=.type "list",dict:=N2,data:=.seq ([]:List q7).toArray}):=T.keep _ _ _ q λb _ o e=>D2 _ e;calc nI ?_;let G:=vq (N':=N') I3 O U B;let F:=T.keep _ (h':=UW (({s2 with heap:=s2.heap.push {cls:=.type "list",dict:=N2,data:=.seq ([]:List q7).toArray}}:J4).heap.push {cls:=.type "dict",data:=.dict #[]}) sc.names) _ Y λb _ o e=>SR _ _ b o (D2 _ e)
 let f4:∀b∈fp,cu (aO X sc N' {s2 with heap:=s2.heap.push {cls:=.type "list",dict:=N2,data:=.seq ([]:List q7).toArray}} (upd H2 s2.heap.objs.size (.lst [])) fp) [] (upd H2 s2.heap.objs.size (.lst [])) b:=λb j=>⟨(O b j).1,(G.ok.exf b j).1,G.ok.exfs b j,.inl j,(G.ok.exf b j).2,λp hp=>absurd (show p∈([]:List (Wk×Obj))from hp) (_)⟩
 let loop:=mz (X:=aO X sc N' {s2 with heap:=s2.heap.push {cls:=.type "list",dict:=N2,data:=.seq ([]:List q7).toArray}} (upd H2 s2.heap.objs.size (.lst [])) fp) (λ_ _ z=>z) hc
  (elt:=elt) (pos:=pos) (scope:=sc) (gens:=⟨target,iter,ifs,0⟩::rest) (d:=0) (acc:=.ref s2.heap.objs.size) rfl (λg' e=>ha g' (by simpa using e)) (hg _ _ _) (j _ _ _ _) G T F f4 (hw _ hf)
 refine Qp (jP (R:=λr s'=>match r with|.ok _=>∃σ' H',Inv (aO X sc N' {s2 with heap:=s2.heap.push {cls:=.type "list",dict:=N2,data:=.seq ([]:List q7).toArray}} (upd H2 s2.heap.objs.size (.lst [])) fp) [] σ' H' s'/\Nn s2.heap.objs.size σ' H'|.error _=>False)
  (gens:=⟨target,iter,ifs,0⟩::rest) (d:=0) rfl loop (T.self _ 0 _ _ _ F loop)) λr s5 hr=>?_
 cases r with
 |error e=>show hr.elim
 |ok f=>let⟨σ5,H5,I5,n5⟩:=hr;show hR _ fp _ _ s5 σ5 H5 f I3 O I5 n5
abbrev tE(wi:TI)(g:TG)(tb:Wk->TC)(fr:List (Option Nat)):TE:=λσ H Q=>wi σ H λJ H1=>∀p,H1 p=N2->cH J g (tb p) (λ_ H2=>Q (.ref p) H2) (inh fr σ) (upd H1 p (.lst []))
def mF(B:bp sc X.env.scope X.N N' fr):∀x∈sc.names,x.2=.local->sc.names.lookup x.1=Z .local:=λx hx e=>by let⟨n,k⟩:=x;let e':k=.local:=e;subst e';show aX B.nd hx
def j7(z:X.calm=Wi){rest:List MQ}(hx:∀e s,X.xe e s->False)(B:bp sc X.env.scope X.N N' fr)(F:∀g',rest[0]?=Z g'->g'.is_async=0)(hi:PI X target iter wi){tb:Wk->TC}(G:∀s H fp,PG (aO X sc N' s H fp) target g)(L:∀s H fp p,PB (aO X sc N' s H fp) (λk=>bF ifs (aO X sc N' s H fp).env>>=λok=>if ok=Wi then bo elt (⟨target,iter,ifs,0⟩::rest) sc pos 0 (.ref p) (aO X sc N' s H fp).env k else k) (tb p))(hs:∀x,Oj iter X.env x=pure x):
 PE X (.ListComp elt (⟨target,iter,ifs,0⟩::rest) sc pos) (tE wi g tb fr):=by
 intro pins s σ H Q I h;rw[eval_ListComp];calc S8 (use:=N2) rfl hs (jQ (gR I B)) B.kind (mF B) (oJ (Nn:=λp _ H2=>Q (.ref p) H2) (RR:=λacc C=>compPost (model X.prog X.w) X.A X.xe N2 (EP X pins σ Q) acc C) z hx B F hi G L I h ?_);intro p fp s3 fv s' σ' H' f O U J q;let⟨m,Y,_⟩:=J.loc;show⟨m,Y,λh' j=>⟨.ref p,H',mD O U J j,rfl,q⟩⟩
def jR(hc:X.calm=Wi){rest:List MQ}{spos:Pos}{x:Str}{i:Nat}(hx:∀e s,X.xe e s->False)(B:bp sc X.env.scope X.N N' fr)(ha:∀g',rest[0]?=Z g'->g'.is_async=0)(hi:PI X target iter wi){tb:Wk->TC}(hg:∀s H fp,PG (aO X sc N' s H fp) target g)(F:∀s H fp p,PB (aO X sc N' s H fp) (λk=>bF ifs (aO X sc N' s H fp).env>>=λok=>if ok=Wi then bo elt (⟨target,iter,ifs,0⟩::rest) sc pos 0 (.ref p) (aO X sc N' s H fp).env k else k) (tb p))(hs:∀x,Oj iter X.env x=pure x)(G:PG X (.Name x pos') (jE i))(L:Qh (.ListComp elt (⟨target,iter,ifs,0⟩::rest) sc pos) (Z (.Name x pos')) spos.line X.env=pure Wi):
 PS X (.Assign [.Name x pos'] (.ListComp elt (⟨target,iter,ifs,0⟩::rest) sc pos) spos) (sY (tE wi g tb fr) (jE i)):=by
 intro pins s σ H D I h;rw[exec_Assign_Name_used _ _ _ _ L];calc gV (PF (gV ?_));change Lu _ X.A (do let _ <-comprehension (.ListComp elt (⟨target,iter,ifs,0⟩::rest) sc pos) sc X.env _ (newList []) Wj (eval iter X.env) (Z (assign (.Name x pos') X.env))) _ _ s
 refine gV (O7 (S8 (use:=Z (assign (.Name x pos') X.env)) (Q:=λ_ s'=>SP X pins D .next s') rfl hs (jQ (gR I B)) B.kind (mF B)
  (oJ (Nn:=λp _ H2=>D.nx (σ.set i (Z (.ref p))) H2) (RR:=λacc C=>compPost (model X.prog X.w) X.A X.xe (Z (assign (.Name x pos') X.env)) (λ_ s'=>SP X pins D .next s') acc C) hc hx B ha hi hg F I h ?_)) (λ_ s' hq=>KZ (KZ hq)) λ_ _ e=>e)
 intro p fp s3 H3 s' σ' H' f j f3 J q;let⟨m,⟨o,es,ep,ho,hd,hk,hm⟩,_⟩:=J.loc;let I4:Inv X pins σ H' s':=mD (h':=s'.heap) j f3 J ⟨rfl,λ_ _=>rfl⟩;let hL:(aO X sc N' s3 H3 fp).env.locals=s3.heap.objs.size:=rfl;rw[hL]at ho;let O:H' s3.heap.objs.size=N2:=J.free;let neL:s3.heap.objs.size≠X.env.locals:=OA j.lt;let nfs:s3.heap.objs.size∉X.fs:=j.nofs (L9 _);let I5:Inv X (pins++[(s3.heap.objs.size,o)]) σ H' s':=I4.pins_of λpr U=>by
  rcases Lb.mp U with z|z
  ·show I4.pin pr (LH _ z)
  ·let e:pr=(s3.heap.objs.size,o):=by simpa using z
   subst e;show⟨ho,O,neL,nfs,λv z=>by rw[hd]at z;cases z⟩
 change Lu _ X.A (assign (.Name x pos') X.env (.ref p)) _ _ _;calc thn (G _ s' σ H' (.ref p) (.ref p) D.nx I5 rfl q) λ_ s6 g9=>?_;let⟨σ6,H6,I6,q6⟩:=g9;let⟨Y,fv,_⟩:=I6.pin (s3.heap.objs.size,o) (LH _ (LH _ (_)))
 calc⟨m,⟨o,es,ep,Y,hd,hk,hm⟩,λh' IK=>⟨σ6,H6,?_,q6⟩⟩;refine(I6.unpinned).turned (t':=s6.toks) (it:=s3.heap.objs.size) (λb o F e=>(IK.2 b F).trans e) fv neL (.inr j.sz) (λy c e z=>?_) λpr U z=>?_
 ·let⟨v,q⟩:=j.cell y c e;show absurd q.lt (by rw[z];show NJ _)
 ·show absurd (Lr (j.pin pr U).1) (by rw[z];show NJ _)
end
end
end
namespace Zp
abbrev At(t:Bool)(h:Heap)(i l:Wk)(k:Nat):Prop:=match t with|true=>h.IsTupleIter i l k|false=>h.IsListIter i l k
abbrev Sq(t:Bool)(h:Heap)(l:Wk)(xs:Array q7):Prop:=match t with|true=>h.IsTuple l xs|false=>h.IsList l xs
variable{h:Heap}{i l:Wk}
def At.up{t:Bool}{h':Heap}{k:Nat}(x:At t h i l k)(e:∀o,h.get? i=Z o->h'.get? i=Z o):At t h' i l k:=by cases t<;>(let⟨o,ho,r⟩:=x;show⟨o,e o ho,r⟩)
variable{xs:Array q7}
def Sq.up{t:Bool}{h':Heap}(x:Sq t h l xs)(e:∀o,h.get? l=Z o->h'.get? l=Z o):Sq t h' l xs:=by cases t<;>(let⟨o,ho,r⟩:=x;show⟨o,e o ho,r⟩)
def At.lt{t:Bool}{k:Nat}(x:At t h i l k):∃o,h.get? i=Z o/\∀v,o.data≠.cell v:=by cases t<;>(let⟨o,ho,j,hd⟩:=x;show⟨o,ho,λv z=>by rw[hd]at z;cases z⟩)
variable{x r:q7}{z T j a b:Wk}{u:Bool}{ys:Array q7}
section
variable{prog:LN}{w:Mq}{A:Mz}{E:q7->J4->Prop}{s:J4}
open Builtin.SmallTypes in
def yh{k:Nat}{Q:q7->J4->Prop}(hi:s.heap.IsTupleIter i l k)(L:s.heap.IsTuple l xs)(hx:xs[k]?=Z x)(q:∀h',h'.IsTupleIter i l (k+1)->NM i s.heap h'->Q x {s with heap:=h'}):Lu (model prog w) A (nextOf (.ref i)) Q E s:=by
 let⟨ob,z,B,j⟩:=id hi;let⟨oq,G,_,nq,J⟩:=L;unfold nextOf;calc gV (Mj (name:=Mf "__next__") hi.typeIs OJ (MA OJ hi.typeIs Rc ?_ (R5 _)));calc gV (m:=field (.ref i) 0) (MM z j (x:=.ref l) rfl ?_);calc(if_neg (c:=(MV l==Pg)=Wi) Lg)▸?_;calc gV (m:=field (.ref i) 1) (MM z j (x:=.int k 0) rfl ?_);calc gV (m:=seqItems? (.ref l)) (Of G J ?_);simp only[Li,hx];refine gV (wpAny_setField z j (_) (KZ ⟨x,rfl,KZ (q _ ⟨_,SY _ z (Obj.isFreed_of_fields (Ue j _)),(Obj.cls_mapFields ..).trans B,?_⟩ (TN ..))⟩))
 rw[Ue j];simp[RZ]
open Builtin.SmallTypes in
def AO{k:Nat}{Q:q7->J4->Prop}(J:A.handled=N2)(hi:s.heap.IsTupleIter i l k)(L:s.heap.IsTuple l xs)(hx:xs[k]?=N2)(q:∀h' e,Vg i s.heap h'->(∃o,h'.get? e=Z o/\o.cls=.type "StopIteration")->E (.ref e) {s with heap:=h'}):Lu (model prog w) A (nextOf (.ref i)) Q E s:=by
 let⟨ob,j,O,z⟩:=id hi;let⟨oq,B,_,nq,G⟩:=L;unfold nextOf;calc gV (Mj (name:=Mf "__next__") hi.typeIs OJ (MA OJ hi.typeIs Rc ?_ (R5 _)));calc gV (m:=field (.ref i) 0) (MM j z (x:=.ref l) rfl ?_);calc(if_neg (c:=(MV l==Pg)=Wi) Lg)▸?_;calc gV (m:=field (.ref i) 1) (MM j z (x:=.int k 0) rfl ?_);calc gV (m:=seqItems? (.ref l)) (Of B G ?_);simp only[Li,hx];refine gV (NT (gV (wpAny_setField j z (_) ?_)))
 calc gV (m:=newExc (.type "StopIteration") []) ?_;simp only[newExc,newTuple];refine gV (ND ?_ (by size_fits))
 refine gV (m:=Ry _ _) (Pc (a:=Pg) (by first|rfl|(simp only[Ry];rfl)) (ND ?_ (by size_fits)))
 simp only[raiseNew];refine gV (wpAny_handled ?_)
 first|rw[show A.in1.handled=N2 from J]|rw[J]
 show gV (KZ (Vh (q _ _ (((TN ..).extBut.push _).push _) ⟨_,Lk _ rfl,rfl⟩)))
open Builtin.SmallTypes in
def nx_item{t:Bool}{k:Nat}{Q:q7->J4->Prop}(hi:At t s.heap i l k)(j:Sq t s.heap l xs)(hx:xs[k]?=Z x)(q:∀h',At t h' i l (k+1)->NM i s.heap h'->Q x {s with heap:=h'}):Lu (model prog w) A (nextOf (.ref i)) Q E s:=by
 cases t with
 |true=>show yh hi j hx q
 |false=>show wpAny_nextOf_list_item hi j hx q
open Builtin.SmallTypes in
def nx_end{t:Bool}{k:Nat}{Q:q7->J4->Prop}(j:A.handled=N2)(hi:At t s.heap i l k)(z:Sq t s.heap l xs)(hx:xs[k]?=N2)(q:∀h' e,Vg i s.heap h'->(∃o,h'.get? e=Z o/\o.cls=.type "StopIteration")->E (.ref e) {s with heap:=h'}):Lu (model prog w) A (nextOf (.ref i)) Q E s:=by
 cases t with
 |true=>show AO j hi z hx q
 |false=>show wpAny_nextOf_list_end j hi z hx q
open Builtin.SmallTypes in
def D6 {O:Wk}{t:Bool}{k:Nat}{y p:q7}{Q:q7->J4->Prop}(D:Tc z T O i j a b)(G:RW s.heap z T O .none)(hT:P1 s.heap T (.ref i) (.ref j))(hO:P1 s.heap O p r)(hi:At t s.heap i a k)(hj:At u s.heap j b k)(ha:Sq t s.heap a xs)(hb:Sq u s.heap b ys)(hx:xs[k]?=Z x)(hy:ys[k]?=Z y)(q:∀h',RW h' z T O (RZ s.heap.objs.size)->P1 h' O x y->At t h' i a (k+1)->At u h' j b (k+1)->P1 h' s.heap.objs.size x y->
   (∀c o,c≠z->c≠O->c≠i->c≠j->s.heap.get? c=Z o->h'.get? c=Z o)->Q (.ref s.heap.objs.size) {s with heap:=h'}):
 Lu (model prog w) A (Oq.«zip.__next__» ⟨[.ref z],[]⟩) (λfin s'=>∃v,fin=.done (.ret v)/\Q v s') E s:=by
 calc gV (m:=field (.ref z) 2) (MM G rfl (x:=.bool Wj) rfl ?_);calc gV (m:=field (.ref z) 3) (MM G rfl (x:=.ref T) rfl ?_);calc gV (Of hT rfl ?_);calc gV (m:=ownedTupleIsFree (.ref z)) ?_;unfold ownedTupleIsFree;calc gV (MM G rfl (x:=.none) rfl (KZ ?_));simp only[if_true];refine gV (NT (gV (MM G rfl (x:=.ref O) rfl (gV (Mu G (_) λg1 z1 s1=>?_)))))
 let Z1:RW g1 z T O .ellipsis:=z1;clear z1;calc gV ?_;simp only[Si,Vt,OP,Td];calc gV (gV (S9 (gV (m:=nextOf (.ref i)) ?_)));calc nx_item (hi.up λo e=>s1.extBut _ o D.i1z e) (ha.up λo e=>s1.extBut _ o D.l1z e) hx λg2 U s2=>KZ ?_;let O2:P1 g2 O p r:=s2.extBut _ _ D.TOi1 (s1.extBut _ _ D.TOz hO);calc gV (Of O2 rfl (gV (QV O2 λg3 o3 s3=>?_)));let O3:P1 g3 O x r:=o3;clear o3;calc gV (RX (KZ (gV (gV (S9 (gV (m:=nextOf (.ref j)) ?_))))));calc nx_item (hj.up λo e=>s3.extBut _ o D.TOi2.symm (s2.extBut _ o D.i12.symm (s1.extBut _ o D.i2z e))) (hb.up λo e=>s3.extBut _ o D.l2TO (s2.extBut _ o D.l2i1 (s1.extBut _ o D.l2z e))) hy λg4 Y s4=>KZ ?_;let O4:P1 g4 O x r:=s4.extBut _ _ D.TOi2 O3;calc gV (Of O4 rfl (gV (QV O4 λB o5 s5=>?_)));let O5:P1 B O x y:=o5;clear o5;calc gV (RX (KZ (KZ (gV (Of O5 rfl (gV (Te ?_)))))));let sz:B.objs.size=s.heap.objs.size:=by rw[s5.1,s4.1,s3.1,s2.1,s1.1]
 let k5:∀c o,c≠z->c≠O->c≠i->c≠j->s.heap.get? c=Z o->B.get? c=Z o:=λc o F J fv c4 e=>s5.extBut _ _ J (s4.extBut _ _ c4 (s3.extBut _ _ J (s2.extBut _ _ fv (s1.extBut _ _ F e))))
 let Z5:RW B z T O .ellipsis:=s5.extBut _ _ D.TOz.symm (s4.extBut _ _ D.i2z.symm (s3.extBut _ _ D.TOz.symm (s2.extBut _ _ D.i1z.symm Z1)));let I5:At t B i a (k+1):=U.up λo e=>s5.extBut _ o D.TOi1.symm (s4.extBut _ o D.i12 (s3.extBut _ o D.TOi1.symm e));let J5:At u B j b (k+1):=Y.up λo e=>s5.extBut _ o D.TOi2.symm e;let zl:z<B.objs.size:=Lr Z5;calc gV (m:=ownedTupleHandOut (.ref z) (.ref B.objs.size)) ?_;unfold ownedTupleHandOut;refine gV (Mu (D2 _ Z5) (_) λg7 z7 s7=>?_)
 let Z7:RW g7 z T O (RZ B.objs.size):=z7;clear z7;refine Mu Z7 (_) λL z8 s8=>?_
 let Z8:RW L z T O (RZ B.objs.size):=z8;clear z8;let up:∀c o,c≠z->B.get? c=Z o->L.get? c=Z o:=λc o F e=>s8.extBut _ _ F (s7.extBut _ _ F (D2 _ e));let P8:P1 L B.objs.size x y:=s8.extBut _ _ (OA zl) (s7.extBut _ _ (OA zl) (Lk _ rfl));rw[sz]at Z8 P8;calc KZ ⟨_,rfl,?_⟩;change Q (.ref B.objs.size) _;rw[sz];show q L Z8 (up _ _ D.TOz O5) (I5.up λo e=>up _ o D.i1z e) (J5.up λo e=>up _ o D.i2z e) P8 λc o F J fv c4 e=>up c o F (k5 c o F J fv c4 e)
open Builtin.SmallTypes in
def EW{O:Wk}{t:Bool}{k:Nat}{p:q7}{Q:Fin->J4->Prop}(hn:A.handled=N2)(D:Tc z T O i j a b)(G:RW s.heap z T O .none)(hT:P1 s.heap T (.ref i) (.ref j))(hO:P1 s.heap O p r)(hi:At t s.heap i a k)(hj:At u s.heap j b k)(ha:Sq t s.heap a xs)(hb:Sq u s.heap b ys)(J:xs[k]?=N2∨ys[k]?=N2)(q:∀h' e,(∀c o,c≠z->c≠O->c≠i->c≠j->s.heap.get? c=Z o->h'.get? c=Z o)->(∃o,h'.get? e=Z o/\o.cls=.type "StopIteration")->E (.ref e) {s with heap:=h'}):
 Lu (model prog w) A (Oq.«zip.__next__» ⟨[.ref z],[]⟩) Q E s:=by
 calc gV (m:=field (.ref z) 2) (MM G rfl (x:=.bool Wj) rfl ?_);calc gV (m:=field (.ref z) 3) (MM G rfl (x:=.ref T) rfl ?_);calc gV (Of hT rfl ?_);calc gV (m:=ownedTupleIsFree (.ref z)) ?_;unfold ownedTupleIsFree;calc gV (MM G rfl (x:=.none) rfl (KZ ?_));simp only[if_true];refine gV (NT (gV (MM G rfl (x:=.ref O) rfl (gV (Mu G (_) λg1 z1 s1=>?_)))))
 let Z1:RW g1 z T O .ellipsis:=z1;clear z1;calc gV ?_;simp only[Si,Vt,OP,Td];calc gV (gV (S9 (gV (m:=nextOf (.ref i)) ?_)));let L:At t g1 i a k:=hi.up λo e=>s1.extBut _ o D.i1z e;let U:Sq t g1 a xs:=ha.up λo e=>s1.extBut _ o D.l1z e
 cases hx:xs[k]? with
 |none=>
  calc nx_end hn L U hx λg2 e s2 he=>?_;let⟨oe,B,F⟩:=he;let Z2:RW g2 z T O .ellipsis:=s2 _ _ D.i1z.symm Z1;let ez:e≠z:=λx=>by subst x;rw[Z2]at B;cases B;simp at F
  show Mu Z2 (_) λg3 _ s3=>q g3 e (λc o Y _ fv _ x=>s3.extBut _ _ Y (s2 _ _ fv (s1.extBut _ _ Y x))) ⟨oe,s3.extBut _ _ ez B,F⟩
 |some x=>
  let hy:ys[k]?=N2:=J.elim (λz=>by rw[hx]at z;cases z) id
  calc nx_item L U hx λg2 IK s2=>KZ ?_;let O2:P1 g2 O p r:=s2.extBut _ _ D.TOi1 (s1.extBut _ _ D.TOz hO);calc gV (Of O2 rfl (gV (QV O2 λg3 o3 s3=>?_)));calc gV (RX (KZ (gV (gV (S9 (gV (m:=nextOf (.ref j)) ?_))))));calc nx_end hn (hj.up λo e=>s3.extBut _ o D.TOi2.symm (s2.extBut _ o D.i12.symm (s1.extBut _ o D.i2z e))) (hb.up λo e=>s3.extBut _ o D.l2TO (s2.extBut _ o D.l2i1 (s1.extBut _ o D.l2z e))) hy λg4 e s4 he=>?_;let⟨oe,B,F⟩:=he;let Z4:RW g4 z T O .ellipsis:=s4 _ _ D.i2z.symm (s3.extBut _ _ D.TOz.symm (s2.extBut _ _ D.i1z.symm Z1));let ez:e≠z:=λx=>by subst x;rw[Z4]at B;cases B;simp at F
  show Mu Z4 (_) λg5 _ s5=>q g5 e (λc o Y c2 fv c4 x=>s5.extBut _ _ Y (s4 _ _ c4 (s3.extBut _ _ c2 (s2.extBut _ _ fv (s1.extBut _ _ Y x))))) ⟨oe,s5.extBut _ _ ez B,F⟩
def nxt_item {O:Wk}{t:Bool}{k:Nat}{y p:q7}{Q:Option q7->J4->Prop}(D:Tc z T O i j a b)(B:RW s.heap z T O .none)(G:P1 s.heap T (.ref i) (.ref j))(J:P1 s.heap O p r)(hi:At t s.heap i a k)(L:At u s.heap j b k)(U:Sq t s.heap a xs)(Y:Sq u s.heap b ys)(hx:xs[k]?=Z x)(fv:ys[k]?=Z y)(q:∀h',RW h' z T O (RZ s.heap.objs.size)->P1 h' O x y->At t h' i a (k+1)->At u h' j b (k+1)->P1 h' s.heap.objs.size x y->
   (∀c o,c≠z->c≠O->c≠i->c≠j->s.heap.get? c=Z o->h'.get? c=Z o)->Q (Z (.ref s.heap.objs.size)) {s with heap:=h'}):
 Lu (model prog w) A (Qo (.ref z)) Q E s:=by
 let ty:s.TypeIs (.ref z) "zip":=⟨_,B,rfl⟩;unfold Qo;show gV (P2 (Mj (name:=Mf "__next__") ty R6 (MA R6 ty UX
  (D6 D B G J hi L U Y hx fv λh' a1 a2 a3 a4 a5 a6=>KZ (q h' a1 a2 a3 a4 a5 a6)) (UB _))))
def nxt_end{O:Wk}{t:Bool}{k:Nat}{p:q7}{Q:Option q7->J4->Prop}(J:A.handled=N2)(D:Tc z T O i j a b)(G:RW s.heap z T O .none)(L:P1 s.heap T (.ref i) (.ref j))(U:P1 s.heap O p r)(hi:At t s.heap i a k)(Y:At u s.heap j b k)(fv:Sq t s.heap a xs)(hb:Sq u s.heap b ys)(B:xs[k]?=N2∨ys[k]?=N2)(q:∀h',(∀c o,c≠z->c≠O->c≠i->c≠j->s.heap.get? c=Z o->h'.get? c=Z o)->Q N2 {s with heap:=h'}):Lu (model prog w) A (Qo (.ref z)) Q E s:=by
 let ty:s.TypeIs (.ref z) "zip":=⟨_,G,rfl⟩;unfold Qo;refine gV (P2 (Mj (name:=Mf "__next__") ty R6 (MA R6 ty UX
  (EW J D G L U hi Y fv hb B λh' e hk he=>?_) (UB _))))
 let⟨o,ho,hc⟩:=he;show gV (OE (T:="StopIteration") (b:=Wi) ⟨o,ho,hc⟩ Tf (KZ (q _ hk)))
abbrev itO(t:Bool)(l:Wk):Obj:=match t with|true=>{cls:=.type "tuple_iterator",data:=.fields #[.ref l,.int 0 0]}|false=>{cls:=.type "list_iterator",data:=.fields #[.ref l,.int 0 0]}
abbrev zH1(h:Heap)(t:Bool)(a:Wk):Heap:=h.push (itO t a)
abbrev zH2(h:Heap)(t u:Bool)(a b:Wk):Heap:=(zH1 h t a).push (itO u b)
abbrev zH3(h:Heap)(t u:Bool)(a b:Wk):Heap:=(zH2 h t u a b).push {cls:=.type "tuple",data:=.seq #[.ref h.objs.size,.ref (zH1 h t a).objs.size]}
abbrev zH4(h:Heap)(t u:Bool)(a b:Wk):Heap:=(zH3 h t u a b).push {cls:=.type "tuple",data:=.seq #[.none,.none]}
abbrev zH5(h:Heap)(t u:Bool)(a b:Wk):Heap:=(zH4 h t u a b).push {cls:=.type "zip",data:=.fields #[.none,.bool Wj,.bool Wj,.ref (zH2 h t u a b).objs.size,.ref (zH3 h t u a b).objs.size]}
def vt(t u:Bool)(a b:Wk)(xs ys:Array q7):
 Meets (Oq.«zip.__new__» ⟨[.type "zip",.ref a,.ref b],[]⟩) (λ_ R s=>Sq t s.heap a xs/\Sq u s.heap b ys/\R (.ok (.ret (.ref (zH4 s.heap t u a b).objs.size))) {s with heap:=zH5 s.heap t u a b}):=
 .of_wp λprog w A R s h=>by
  let⟨j,g,d,tk,os⟩:=s;let⟨B,F,h⟩:=h;let hs:=sub_zip
  cases t<;>cases u
  ·let q:Tg (Pe ⟨j,g,d,tk,os⟩) a xs:=B;let z:Tg (Pe ⟨j.push {cls:=.type "list_iterator",data:=.fields #[.ref a,.int 0 0]},g,d,tk,os⟩) b ys:=UY F _
   wp_walk using Ot q,Ot z
   show⟨_,rfl,h⟩
  ·let q:Tg (Pe ⟨j,g,d,tk,os⟩) a xs:=B;let z:Rf (Pe ⟨j.push {cls:=.type "list_iterator",data:=.fields #[.ref a,.int 0 0]},g,d,tk,os⟩) b ys:=UC F _
   wp_walk using Ot q,NP z
   show⟨_,rfl,h⟩
  ·let q:Rf (Pe ⟨j,g,d,tk,os⟩) a xs:=B;let z:Tg (Pe ⟨j.push {cls:=.type "tuple_iterator",data:=.fields #[.ref a,.int 0 0]},g,d,tk,os⟩) b ys:=UY F _
   wp_walk using NP q,Ot z
   show⟨_,rfl,h⟩
  ·let q:Rf (Pe ⟨j,g,d,tk,os⟩) a xs:=B;let z:Rf (Pe ⟨j.push {cls:=.type "tuple_iterator",data:=.fields #[.ref a,.int 0 0]},g,d,tk,os⟩) b ys:=UC F _
   wp_walk using NP q,NP z
   show⟨_,rfl,h⟩
def at_new{t:Bool}(e:h.get? i=Z (itO t l)):At t h i l 0:=by cases t<;>show⟨_,e,rfl,rfl⟩
def call_zip {t:Bool}{Q:q7->J4->Prop}(ha:Sq t s.heap a xs)(hb:Sq u s.heap b ys)(q:∀h',RW h' (s.heap.objs.size+4) (s.heap.objs.size+2) (s.heap.objs.size+3) .none->P1 h' (s.heap.objs.size+2) (.ref s.heap.objs.size) (.ref (s.heap.objs.size+1))->
   P1 h' (s.heap.objs.size+3) .none .none->At t h' s.heap.objs.size a 0->At u h' (s.heap.objs.size+1) b 0->h'.objs.size=s.heap.objs.size+5->
   (∀c o,s.heap.get? c=Z o->h'.get? c=Z o)->Q (.ref (s.heap.objs.size+4)) {s with heap:=h'}):
 Lu (model prog w) A (call (.type "zip") [.ref a,.ref b]) Q E s:=by
 refine callType_new F.called_zip (·) (F.typeCall_zip_2 _ _) (F.newCall_zip_2 _ _) (λobj=>F.args_object_init_3 obj _ _) F.entry_zip_new (vt t u a b xs ys) ⟨ha,hb,?_⟩
 let B:(zH1 s.heap t a).objs.size=s.heap.objs.size+1:=NU ..;let G:(zH2 s.heap t u a b).objs.size=s.heap.objs.size+2:=by unfold zH2;rw[NU,B]
 let J:(zH3 s.heap t u a b).objs.size=s.heap.objs.size+3:=by unfold zH3;rw[NU,G]
 let L:(zH4 s.heap t u a b).objs.size=s.heap.objs.size+4:=by unfold zH4;rw[NU,J]
 let z5:(zH5 s.heap t u a b).objs.size=s.heap.objs.size+5:=by unfold zH5;rw[NU,L]
 let j:∀{c o},(zH4 s.heap t u a b).get? c=Z o->(zH5 s.heap t u a b).get? c=Z o:=λe=>D2 _ e;let z:∀{c o},(zH3 s.heap t u a b).get? c=Z o->(zH4 s.heap t u a b).get? c=Z o:=λe=>D2 _ e;let O:∀{c o},(zH2 s.heap t u a b).get? c=Z o->(zH3 s.heap t u a b).get? c=Z o:=λe=>D2 _ e;let Y:∀{c o},(zH1 s.heap t a).get? c=Z o->(zH2 s.heap t u a b).get? c=Z o:=λe=>D2 _ e;let k1:∀{c o},s.heap.get? c=Z o->(zH1 s.heap t a).get? c=Z o:=λe=>D2 _ e;let f:∀t l,(itO t l).isFreed=Wj:=λt l=>by cases t<;>rfl
 let U:(zH5 s.heap t u a b).get? (zH4 s.heap t u a b).objs.size=Z _:=Lk _ rfl;let fv:(zH5 s.heap t u a b).get? (zH3 s.heap t u a b).objs.size=Z _:=j (Lk _ rfl);let g3:(zH5 s.heap t u a b).get? (zH2 s.heap t u a b).objs.size=Z _:=j (z (Lk _ rfl));let g2:(zH5 s.heap t u a b).get? (zH1 s.heap t a).objs.size=Z _:=j (z (O (Lk _ (f u b))));let g1:(zH5 s.heap t u a b).get? s.heap.objs.size=Z _:=j (z (O (Y (Lk _ (f t a)))));change _/\_;rw[G,J,L]at U;rw[B,G]at g3;rw[J]at fv;rw[B]at g2;rw[L];show⟨⟨_,U,rfl⟩,q _ U g3 fv (at_new g1) (at_new g2) z5 λc o x=>j (z (O (Y (k1 x))))⟩
end
end Zp
variable{K:Frag}{elts:List Expr}
section
section
variable{X:Cx}{pins:List (Wk×Obj)}{σ:St}{H:Hp}{s:J4}{h':Heap}
def Inv.turnedL{fp:List Wk}(I:Inv X pins σ H s)(hf:∀b∈fp,cu X pins H b)(k:∀b o,b∉fp->s.heap.get? b=Z o->h'.get? b=Z o):Inv X pins σ H {s with heap:=h',toks:=t'}:=by
 let nit:∀b u,H b=Z u->b∉fp:=λb u e z=>by rw[(hf b z).1]at e;cases e
 refine I.step (g':=s.gens) (d':=s.drawn) (ch:=fp) (λb B=>?_) (λb o _ _ j e _=>k b o j e) (λb o _ _ j e _=>⟨o.slots,k b o j e⟩) (λ_ _ _ _ n=>n)
  (λb o j e=>⟨o,k b o j e⟩) (λ_ _ e=>e) (λ_ _ _ e=>e) (λb ps e=>⟨#[],by rw[e];simp⟩) (λm hm=>?_) (λb u e=>?_) I.bare
 ·let⟨_,f1,_,F,f4,G⟩:=hf b B;show⟨F,f1,f4,G⟩
 ·let⟨o,es,ep,ho,r⟩:=hm;show⟨o,es,ep,k _ o (λz=>(hf _ z).2.1 rfl) ho,r⟩
 ·refine(I.hok b u e).stay (λc v j q=>k c v ?_ q) (λ_ q=>q) λ_ _ q=>q
  rcases j with z|z
  ·rw[z];show nit b u e
  ·show nit c _ z
end
abbrev SqV(K:Frag)(t:Bool)(H:Hp)(a:Wk)(xs:List V):Prop:=match t with|true=>SqT K H a xs|false=>SqL K H a xs
def Inv.sqv{t:Bool}{xs:List V}(I:Inv X pins σ H s)(h:SqV X.K t H a xs):∃its:List q7,Vals xs its/\Zp.Sq t s.heap a its.toArray:=by
 cases t with
 |true=>let⟨its,r,p,_⟩:=I.tuple h;show⟨its,r,p⟩
 |false=>let⟨its,r,p,_⟩:=I.list h;show⟨its,r,p.isList⟩
def Inv.sqv_inj{t:Bool}{xs ys:List V}(I:Inv X pins σ H s)(h:SqV X.K t H a xs)(h':SqV X.K t H a ys):xs=ys:=by
 cases t with
 |true=>show I.tuple_inj h h'
 |false=>show I.list_inj h h'
abbrev Itz(K:Frag)(t u:Bool)(a b:Wk):It:=
 ⟨λi H=>∃xs ys x y,SqV K t H a xs/\SqV K u H b ys/\xs[i]?=Z x/\ys[i]?=Z y,
  λi H v H'=>∃p x y,H p=N2/\v=.ref p/\H'=upd H p (.tup [x,y])/\∀xs ys,SqV K t H a xs->SqV K u H b ys->xs[i]?=Z x/\ys[i]?=Z y,
  λi H=>∃xs ys,SqV K t H a xs/\SqV K u H b ys/\(xs.length<=i∨ys.length<=i)⟩
def yi{cx}{t u:Bool}{z T O i j:Wk}(D:Tc z T O i j a b):
 gO P w K (.Tuple elts cx pos) (Itz K t u a b) [z,T,O,i,j] z (λk h=>RW h z T O .none/\P1 h T (.ref i) (.ref j)/\(∃p r,P1 h O p r)/\Zp.At t h i a k/\Zp.At u h j b k) where
 mem:=by simp
 obj:=λk h ⟨B,F,⟨p,r,G⟩,hi,J⟩ c q=>by
  simp only[Lm,Me,or_false]at q
  rcases q with rfl|rfl|rfl|rfl|rfl
  ·show⟨_,B,λv e=>by cases e⟩
  ·show⟨_,F,λv e=>by cases e⟩
  ·show⟨_,G,λv e=>by cases e⟩
  ·show hi.lt
  ·show J.lt
 keep:=λk h h' g9 kk=>(by let⟨B,F,⟨p,r,G⟩,hi,J⟩:=g9;show⟨kk z (_) _ B,kk T (_) _ F,⟨p,r,kk O (_) _ G⟩,hi.up λo e=>kk i (_) o e,J.up λo e=>kk j (_) o e⟩)
 item:=by
  intro X Y hw fv q k pins s σ H E I hf st hg;subst Y hw fv;let⟨B,F,⟨p,r,G⟩,hi,J⟩:=st;let⟨xs,ys,x,y,qx,qy,ex,ey⟩:=hg;let⟨is,rx,px⟩:=I.sqv qx;let⟨js,ry,py⟩:=I.sqv qy;let⟨ux,IK,rux⟩:=rx.get ex;let⟨uy,IM,ruy⟩:=ry.get ey;refine Zp.nxt_item D B F G hi J px py (by simpa using IK) (by simpa using IM) λh1 z1 o1 i1 j1 p1 U=>⟨_,rfl,?_⟩
  refine wpAny_letOwnedTupleGo_zip (s:={s with heap:=h1}) z1 λh2 z2 s2=>?_
  let lt:∀{c o},s.heap.get? c=Z o->c≠s.heap.objs.size:=λe=>Md (Lr e);let nz:s.heap.objs.size≠z:=(lt B).symm;let IN:∃o,s.heap.get? i=Z o:=hi.lt.imp λ_ h=>h.1;let IO:∃o,s.heap.get? j=Z o:=J.lt.imp λ_ h=>h.1;let up:∀c o,c≠z->h1.get? c=Z o->h2.get? c=Z o:=λc o n e=>s2.extBut _ _ n e;let IL:Inv X pins σ (upd H s.heap.objs.size (.tup [x,y])) {s with heap:=s.heap.push {cls:=.type "tuple",data:=.seq #[ux,uy]},toks:=s.toks}:=I.laid (λb o e=>D2 _ e) (L9 _) ⟨by rw[D0];simp,[ux,uy],.cons rux (.cons ruy .nil),Rl _ _⟩
  let fr:∀c∈[z,T,O,i,j],c≠s.heap.objs.size:=λc q=>by
   simp only[Lm,Me,or_false]at q
   rcases q with rfl|rfl|rfl|rfl|rfl
   ·show lt B
   ·show lt F
   ·show lt G
   ·let⟨o,e⟩:=IN;show lt e
   ·let⟨o,e⟩:=IO;show lt e
  let un:∀c∈[z,T,O,i,j],upd H s.heap.objs.size (.tup [x,y]) c=N2:=λc q=>by rw[am (fr c q)];show(hf c q).1
  let kk:∀c o,c∉[z,T,O,i,j]->(s.heap.push {cls:=.type "tuple",data:=.seq #[ux,uy]}).get? c=Z o->h2.get? c=Z o:=λc o q e=>by
   simp only[Lm,Me,or_false,not_or]at q
   rcases Th e with⟨rfl,rfl⟩|e
   ·show up _ _ nz p1
   ·show up _ _ q.1 (U c o q.1 q.2.2.1 q.2.2.2.1 q.2.2.2.2 e)
  let I2:Inv X pins σ (upd H s.heap.objs.size (.tup [x,y])) {s with heap:=h2,toks:=s.toks}:=(Inv.turnedL (s:={s with heap:=s.heap.push {cls:=.type "tuple",data:=.seq #[ux,uy]},toks:=s.toks}) (h':=h2) (t':=s.toks) (fp:=[z,T,O,i,j]) IL (λc q=>⟨un c q,(hf c q).2⟩) kk)
  calc⟨.ref s.heap.objs.size,_,I2,rfl,⟨_,x,y,I.hok.fresh (L9 _),rfl,rfl,λxs' ys' q1 q2=>?_⟩,⟨z2,up _ _ D.TIz (U _ _ D.TIz D.TITO D.TIi1 D.TIi2 F),⟨_,_,up _ _ D.TOz o1⟩,i1.up λo e=>up _ o D.i1z e,j1.up λo e=>up _ o D.i2z e⟩,un⟩;rw[I.sqv_inj q1 qx,I.sqv_inj q2 qy];show⟨ex,ey⟩
 done:=by
  intro X Y hw fv q k pins s σ H E I hf st hg;subst Y hw fv;let⟨B,F,⟨p,r,G⟩,hi,J⟩:=st;let⟨xs,ys,qx,qy,L⟩:=hg;let⟨is,rx,px⟩:=I.sqv qx;let⟨js,ry,py⟩:=I.sqv qy;let lx:=rx.length;let ly:=ry.length;refine Zp.nxt_end (I.ok.hd q) D B F G hi J px py (L.imp (λe=>by simp;lia) (λe=>by simp;lia)) λh1 U=>⟨rfl,I.turnedL (t':=s.toks) hf λc o q e=>?_⟩
  simp only[Lm,Me,or_false,not_or]at q;show U c o q.1 q.2.2.1 q.2.2.2.1 q.2.2.2.2 e
 self:=λA k s Q E st h=>UZ st.1 h
section
variable{X:Cx}
abbrev Gg(K:Frag)(ta:TA):TI:=λσ H R=>ta σ H λvs H1=>∃a b t u xs ys,vs=[.ref a,.ref b]/\SqV K t H1 a xs/\SqV K u H1 b ys/\R (Itz K t u a b) H1
def D7{cx}{p:Pos}{a b:Expr}{ta:TA}(G:Gl X "zip")(hm:X.mg "zip"=N2)(J:PA X [a,b] ta)(hs:LQ [a,b] X.env=[(Wj,eval a X.env),(Wj,eval b X.env)])(j:LQ [b] X.env=[(Wj,eval b X.env)]):
 PI X (.Tuple elts cx pos) (.Call (.Name "zip" p) [a,b] [] pos') (Gg X.K ta):=by
 intro pins s σ H R I h;calc Call_ (eC I G hm (u:=.type "zip") (by decide +kernel) (NR (thn (J pos' pins s σ H _ I h) λus s1 g9=>?_) (by rw[hs,j]) (by rw[j];rfl)));let⟨vs,H1,z,L,O⟩:=g9
 let⟨a',b',t,u,xs,ys,rfl,qx,qy,q⟩:=O
 cases L with
 |cons r rr=>
  cases rr with
  |cons r' rr=>
   cases rr
   cases r
   cases r'
   let⟨is,rx,px⟩:=z.sqv qx;let⟨js,ry,py⟩:=z.sqv qy;calc Zp.call_zip px py λh1 B t1 U Y fv sz k1=>?_;calc UZ B ?_;let la:a'<s1.heap.objs.size:=by cases t<;>(let⟨o,e,_⟩:=px;show Lr e)
   let lb:b'<s1.heap.objs.size:=by cases u<;>(let⟨o,e,_⟩:=py;show Lr e)
   let D:Tc (s1.heap.objs.size+4) (s1.heap.objs.size+2) (s1.heap.objs.size+3) s1.heap.objs.size (s1.heap.objs.size+1) a' b':=by constructor<;>(intro e;subst_vars;first|lia|(simp only[Wk]at *;lia))
   calc⟨_,_,_,_,H1,rfl,z.kept (t':=s1.toks) k1,yi (t:=t) (u:=u) D,⟨B,t1,⟨_,_,U⟩,Y,fv⟩,λc F=>?_,q⟩;let hle:s1.heap.objs.size<=c:=by
    simp only[Lm,Me,or_false]at F
    rcases F with rfl|rfl|rfl|rfl|rfl<;>lia
   show z.fpOk hle (z.hok.fresh hle)
end
end
namespace Zp
end Zp
namespace En
variable{z i a:Wk}{xs:Array q7}{old:q7}
section
variable{prog:LN}{w:Mq}{A:Mz}{E:q7->J4->Prop}{s:J4}
open Builtin.SmallTypes Zp in
def D8 {t:Bool}{k:Nat}{x:q7}{Q:q7->J4->Prop}(U:SI s.heap z i k old)(hi:At t s.heap i a k)(ha:Sq t s.heap a xs)(hx:xs[k]?=Z x)(j:z≠i)(q:∀h',V0 h' z i ((k:Int)+1) x s.heap.objs.size->At t h' i a (k+1)->h'.get? s.heap.objs.size=Z {cls:=.type "tuple",data:=.seq #[.int k s.toks,x]}->
   (∀b o,b≠z->b≠i->s.heap.get? b=Z o->h'.get? b=Z o)->Q (.ref s.heap.objs.size) {s with heap:=h',toks:=s.toks+1}):
 Lu (model prog w) A (Oq.«enumerate.__next__» ⟨[.ref z],[]⟩) (λfin s'=>∃v,fin=.done (.ret v)/\Q v s') E s:=by
 let⟨B,g,d,tk,os⟩:=s;calc gV (m:=field (.ref z) 2) (MM U rfl (x:=.ref i) rfl (gV (nx_item hi ha hx λg1 i1 s1=>?_)));let S1:NM i B g1:=s1;clear s1;let Y:SI g1 z i k old:=(S1.2 z j).trans U;calc gV (m:=field (.ref z) 3) (MM (s:=⟨g1,g,d,tk,os⟩) Y rfl (x:=RZ k) rfl ?_);calc gV (m:=field (.ref z) 4) (MM (s:=⟨g1,g,d,tk,os⟩) Y rfl (x:=.none) rfl ?_);calc gV (m:=mkInt k) (wpAny_mkInt ?_);refine gV (m:=setField (.ref z) 3 (RZ ((k:Int)+1))) (Mu (s:=⟨g1,g,d,tk+1,os⟩) Y (_) λg2 z2 s2=>?_)
 let fv:NM z g1 g2:=s2;let Z2:SI g2 z i ((k:Int)+1) old:=z2;clear s2 z2;refine gV (m:=setField (.ref z) 4 .none) (Mu (s:=⟨g2,g,d,tk+1,os⟩) Z2 (_) λg3 z3 s3=>?_)
 let S3:NM z g2 g3:=s3;let Z3:SI g3 z i ((k:Int)+1) old:=z3;clear s3 z3;calc gV (m:=newTuple [.int k tk,x]) (Te ?_);let G:SI (g3.push {cls:=.type "tuple",data:=.seq #[.int k tk,x]}) z i ((k:Int)+1) old:=D2 _ Z3;let sz:g3.objs.size=B.objs.size:=by rw[S3.1,fv.1,S1.1]
 let zl:z<B.objs.size:=Lr U;let T4:(g3.push {cls:=.type "tuple",data:=.seq #[.int k tk,x]}).get? B.objs.size=Z {cls:=.type "tuple",data:=.seq #[.int k tk,x]}:=by rw[<-sz];show Lk _ rfl
 let K4:∀b o,b≠z->b≠i->B.get? b=Z o->(g3.push {cls:=.type "tuple",data:=.seq #[.int k tk,x]}).get? b=Z o:=λb o bz bi e=>D2 _ (S3.extBut b o bz (fv.extBut b o bz (S1.extBut b o bi e)))
 let I4:At t (g3.push {cls:=.type "tuple",data:=.seq #[.int k tk,x]}) i a (k+1):=i1.up λo e=>D2 _ (S3.extBut i o j.symm (fv.extBut i o j.symm e));rw[sz];generalize g3.push {cls:=.type "tuple",data:=.seq #[.int k tk,x]}=F at G T4 K4 I4;calc gV (m:=ownedTupleIsFree (.ref z)) ?_;unfold ownedTupleIsFree;calc gV (MM (s:=⟨F,g,d,tk+1,os⟩) G rfl (x:=.none) rfl (KZ ?_));simp only[if_true];refine gV (NT (gV (MM (s:=⟨F,g,d,tk+1,os⟩) G rfl (x:=old) rfl (gV (Mu (s:=⟨F,g,d,tk+1,os⟩) G (_) λJ z5 s5=>?_)))))
 let S5:NM z F J:=s5;let Z5:SI J z i ((k:Int)+1) x:=z5;clear s5 z5;calc gV (m:=ownedTupleHandOut (.ref z) (.ref B.objs.size)) ?_;unfold ownedTupleHandOut;refine gV (Mu (s:=⟨J,g,d,tk+1,os⟩) Z5 (_) λL z6 s6=>?_)
 let S6:NM z J L:=s6;let Z6:V0 L z i ((k:Int)+1) x B.objs.size:=z6;clear s6 z6;refine Mu (s:=⟨L,g,d,tk+1,os⟩) Z6 (_) λO z7 s7=>?_
 let S7:NM z L O:=s7;let Z7:V0 O z i ((k:Int)+1) x B.objs.size:=z7;clear s7 z7;let up:∀b o,b≠z->F.get? b=Z o->O.get? b=Z o:=λb o bz e=>S7.extBut b o bz (S6.extBut b o bz (S5.extBut b o bz e));show gV (RX (KZ ⟨_,rfl,q O Z7 (I4.up λo e=>up i o j.symm e) (up _ _ (OA zl) T4) λb o bz bi e=>up b o bz (K4 b o bz bi e)⟩))
def nxt_item {t:Bool}{k:Nat}{x:q7}{Q:Option q7->J4->Prop}(B:SI s.heap z i k old)(hi:Zp.At t s.heap i a k)(G:Zp.Sq t s.heap a xs)(hx:xs[k]?=Z x)(j:z≠i)(q:∀h',V0 h' z i ((k:Int)+1) x s.heap.objs.size->Zp.At t h' i a (k+1)->h'.get? s.heap.objs.size=Z {cls:=.type "tuple",data:=.seq #[.int k s.toks,x]}->
   (∀b o,b≠z->b≠i->s.heap.get? b=Z o->h'.get? b=Z o)->Q (Z (.ref s.heap.objs.size)) {s with heap:=h',toks:=s.toks+1}):
 Lu (model prog w) A (Qo (.ref z)) Q E s:=by
 let ty:s.TypeIs (.ref z) "enumerate":=⟨_,B,rfl⟩;unfold Qo;show gV (P2 (Mj (name:=Mf "__next__") ty PJ (MA PJ ty SJ
  (D8 B hi G hx j λh' a1 a2 J L=>KZ (q h' a1 a2 J L)) (Sj _))))
def nxt_end{t:Bool}{k:Nat}{Q:Option q7->J4->Prop}(B:A.handled=N2)(j:SI s.heap z i k old)(hi:Zp.At t s.heap i a k)(G:Zp.Sq t s.heap a xs)(hx:xs[k]?=N2)(q:∀h',Vg i s.heap h'->Q N2 {s with heap:=h'}):Lu (model prog w) A (Qo (.ref z)) Q E s:=by let ty:s.TypeIs (.ref z) "enumerate":=⟨_,j,rfl⟩;unfold Qo;calc gV (P2 (Mj (name:=Mf "__next__") ty PJ (MA PJ ty SJ ?_ (Sj _))));calc gV (m:=field (.ref z) 2) (MM j rfl (x:=.ref i) rfl (gV (Zp.nx_end B hi G hx λh' x he hs=>?_)));let⟨o,ho,J⟩:=hs;show gV (OE (T:="StopIteration") (b:=Wi) ⟨o,ho,J⟩ Tf (KZ (q _ he)))
open AutoSeq1 (wpAny_loadPart') in
def AQ(l:Wk)(items:Array q7)(n:Nat)(dct:Option Wk)(sl:Array (Option q7)):
 Meets (Oq.«enumerate.__new__» ⟨[.type "enumerate",.ref l],[]⟩) (λ_ R s=>s.heap.get? l=Z {cls:=.type "tuple",dict:=dct,data:=.seq items n,slots:=sl} /\
  R (.ok (.ret (.ref (s.heap.push (Zp.itO Wi l)).objs.size))) {s with heap:=(s.heap.push (Zp.itO Wi l)).push {cls:=.type "enumerate",data:=.fields #[.none,.bool Wj,.ref s.heap.objs.size,RZ 0,.none,.none]}}):=
 .of_wp λprog w A R s h=>by
  let⟨B,g,d,tk,os⟩:=s;let⟨j,h⟩:=h;let q:=sub_enumerate;let z:Rf (Pe ⟨B,g,d,tk,os⟩) l items:=⟨_,j,rfl,n,rfl⟩
  wp_walk using Pw j
  refine wpAny_stack_any λst=>KZ ?_
  split
  ·rename_i c _ _ _ _ _
   cases(c==Nt "enumerate")<;>(wp_walk using Pw j,NP z;show⟨_,rfl,h⟩)
  ·wp_walk using Pw j,NP z
   show⟨_,rfl,h⟩
def call_enum{t:Bool}{l:Wk}{items:Array q7}{Q:q7->J4->Prop}(B:Zp.Sq t s.heap l items)(q:∀h',SI h' (s.heap.objs.size+1) s.heap.objs.size 0 .none->Zp.At t h' s.heap.objs.size l 0->(∀b o,s.heap.get? b=Z o->h'.get? b=Z o)->Q (.ref (s.heap.objs.size+1)) {s with heap:=h'}):
 Lu (model prog w) A (call (.type "enumerate") [.ref l]) Q E s:=by
 cases t with
 |false=>show call_enumerate_list B λh' a b _ k=>q h' a b k
 |true=>
  let⟨⟨c,dct,dt,sl⟩,J,L,n,hd⟩:=B;let j:c=.type "tuple":=L;let z:dt=.seq items n:=hd;subst j z;refine callType_new F.called_enumerate (·) (F.typeCall_enumerate_1 _) (F.newCall_enumerate_1 _) (λobj=>F.args_object_init_2 obj _) F.entry_enumerate_new (AQ l items n dct sl) ⟨J,?_⟩
  let G:(s.heap.push (Zp.itO Wi l)).objs.size=s.heap.objs.size+1:=NU ..;let e:((s.heap.push (Zp.itO Wi l)).push {cls:=.type "enumerate",data:=.fields #[.none,.bool Wj,.ref s.heap.objs.size,RZ 0,.none,.none]}).get? (s.heap.push (Zp.itO Wi l)).objs.size=Z _:=Lk _ rfl;rw[G]at e;change _/\_;rw[G];show⟨⟨_,e,rfl⟩,q _ e (Zp.at_new (D2 _ (Lk _ rfl))) λb o x=>D2 _ (D2 _ x)⟩
end
end En
abbrev Ite(K:Frag)(t:Bool)(a:Wk):It:=
 ⟨λi H=>∃xs x,SqV K t H a xs/\xs[i]?=Z x,
  λi H v H'=>∃p x,H p=N2/\v=.ref p/\H'=upd H p (.tup [.int (i:Nat),x])/\∀xs,SqV K t H a xs->xs[i]?=Z x,
  λi H=>∃xs,SqV K t H a xs/\xs.length<=i⟩
def vw{cx}{t:Bool}{z i:Wk}(B:z≠i):
 gO P w K (.Tuple elts cx pos) (Ite K t a) [z,i] z (λk h=>(∃old,SI h z i k old)/\Zp.At t h i a k) where
 mem:=by simp
 obj:=λk h ⟨⟨old,q⟩,hi⟩ c j=>by
  simp only[Lm,Me,or_false]at j
  rcases j with rfl|rfl
  ·show⟨_,q,λv e=>by cases e⟩
  ·show hi.lt
 keep:=λk h h' F kk=>(by let⟨⟨old,q⟩,hi⟩:=F;show⟨⟨old,kk z (_) _ q⟩,hi.up λo e=>kk i (_) o e⟩)
 item:=by
  intro X G hw J j k pins s σ H E I hf st hg;subst G hw J;let⟨⟨old,q⟩,hi⟩:=st;let⟨xs,x,qx,ex⟩:=hg;let⟨is,rx,px⟩:=I.sqv qx;let⟨ux,L,rux⟩:=rx.get ex;refine En.nxt_item q hi px (by simpa using L) B λh1 fv i1 p1 O=>⟨_,rfl,?_⟩
  refine wpAny_letOwnedTupleGo_enum (s:={s with heap:=h1,toks:=s.toks+1}) fv λh2 z2 s2=>?_
  let lt:∀{c o},s.heap.get? c=Z o->c≠s.heap.objs.size:=λe=>Md (Lr e);let nz:s.heap.objs.size≠z:=(lt q).symm;let U:∃o,s.heap.get? i=Z o:=hi.lt.imp λ_ h=>h.1;let up:∀c o,c≠z->h1.get? c=Z o->h2.get? c=Z o:=λc o n e=>s2.extBut _ _ n e;let IL:Inv X pins σ (upd H s.heap.objs.size (.tup [.int (k:Nat),x])) {s with heap:=s.heap.push {cls:=.type "tuple",data:=.seq #[.int k s.toks,ux]},toks:=s.toks+1}:=I.laid (λb o e=>D2 _ e) (L9 _) ⟨by rw[D0];simp,[.int k s.toks,ux],.cons ⟨_,rfl⟩ (.cons rux .nil),Rl _ _⟩
  let fr:∀c∈[z,i],c≠s.heap.objs.size:=λc j=>by
   simp only[Lm,Me,or_false]at j
   rcases j with rfl|rfl
   ·show lt q
   ·let⟨o,e⟩:=U;show lt e
  let un:∀c∈[z,i],upd H s.heap.objs.size (.tup [.int (k:Nat),x]) c=N2:=λc j=>by rw[am (fr c j)];show(hf c j).1
  let kk:∀c o,c∉[z,i]->(s.heap.push {cls:=.type "tuple",data:=.seq #[.int k s.toks,ux]}).get? c=Z o->h2.get? c=Z o:=λc o j e=>by
   simp only[Lm,Me,or_false,not_or]at j
   rcases Th e with⟨rfl,rfl⟩|e
   ·show up _ _ nz p1
   ·show up _ _ j.1 (O c o j.1 j.2 e)
  let I2:Inv X pins σ (upd H s.heap.objs.size (.tup [.int (k:Nat),x])) {s with heap:=h2,toks:=s.toks+1}:=Inv.turnedL (s:={s with heap:=s.heap.push {cls:=.type "tuple",data:=.seq #[.int k s.toks,ux]},toks:=s.toks+1}) (h':=h2) (t':=s.toks+1) (fp:=[z,i]) IL (λc j=>⟨un c j,(hf c j).2⟩) kk
  refine⟨.ref s.heap.objs.size,_,I2,rfl,⟨_,x,I.hok.fresh (L9 _),rfl,rfl,λxs' q1=>?_⟩,⟨⟨ux,by simpa using z2⟩,i1.up λo e=>up _ o B.symm e⟩,un⟩
  rw[I.sqv_inj q1 qx];show ex
 done:=by
  intro X G hw J j k pins s σ H E I hf st hg;subst G hw J;let⟨⟨old,q⟩,hi⟩:=st;let⟨xs,qx,Y⟩:=hg;let⟨is,rx,px⟩:=I.sqv qx;let lx:=rx.length;refine En.nxt_end (I.ok.hd j) q hi px (by simp;lia) λh1 O=>⟨rfl,I.turnedL (t':=s.toks) hf λc o j e=>?_⟩
  simp only[Lm,Me,or_false,not_or]at j;show O c o j.2 e
 self:=λA k s Q E F h=>(by let⟨⟨old,q⟩,_⟩:=F;show UD q h)
section
variable{X:Cx}
abbrev EX(K:Frag)(ta:TA):TI:=λσ H R=>ta σ H λvs H1=>∃a t xs,vs=[.ref a]/\SqV K t H1 a xs/\R (Ite K t a) H1
def AR{cx}{p:Pos}{a:Expr}{ta:TA}(F:Gl X "enumerate")(hm:X.mg "enumerate"=N2)(G:PA X [a] ta)(hs:LQ [a] X.env=[(Wj,eval a X.env)]):
 PI X (.Tuple elts cx pos) (.Call (.Name "enumerate" p) [a] [] pos') (EX X.K ta):=by
 intro pins s σ H R I h;calc Call_ (eC I F hm (u:=.type "enumerate") boot_enumerate (NR (thn (G pos' pins s σ H _ I h) λus s1 g9=>?_) hs rfl));let⟨vs,H1,j,J,L⟩:=g9;let⟨a',t,xs,rfl,qx,q⟩:=L
 cases J with
 |cons r rr=>
  cases rr
  cases r
  let⟨is,rx,px⟩:=j.sqv qx;calc En.call_enum px λh1 z O U=>?_;calc UD z ?_;refine⟨_,_,_,_,H1,rfl,j.kept (t':=s1.toks) U,vw (t:=t) (a:=a') (_),⟨⟨_,z⟩,O⟩,λc B=>?_,q⟩
  let hle:s1.heap.objs.size<=c:=by
   simp only[Lm,Me,or_false]at B
   rcases B with rfl|rfl<;>lia
  show j.fpOk hle (j.hok.fresh hle)
end
namespace Rv
end Rv
section
noncomputable abbrev NK:=List (Int ⊕ List Int)
abbrev EY(ks:List Int):Int:=reduceHash (RH (ks.map hashInt))
abbrev EZ:Int ⊕ List Int->Int
 |.inl i=>hashInt i
 |.inr ks=>EY ks
abbrev F1(ks:NK):Int:=reduceHash (RH (ks.map EZ))
abbrev A5(a:Wk)(xs:List (NK×Wk×q7)):Heap->Prop:=λh=>xs.length<=Lf/\(a==N3)=Wj /\
 ∃o es ep,h.get? a=Z o/\o.ExactDict/\o.data=.dict es ep/\es.toList=xs.map (λx=>(⟨F1 x.1,.ref x.2.1,x.2.2⟩:Oo))/\(xs.map (·.1)).Nodup
abbrev Kt1(H:Hp):Int ⊕ List Int->V->Prop
 |.inl i,v=>v=.int i
 |.inr ks,v=>∃b,v=.ref b/\H b=Z (.tup (ks.map V.int))
abbrev Kt(H:Hp)(k:NK)(b:Wk):Prop:=∃vs,H b=Z (.tup vs)/\Mh (Kt1 H) k vs
def Kt.keeps{k:NK}(x:Kt H k b)(j:∀b ys,H b=Z (.tup ys)->H' b=Z (.tup ys)):Kt H' k b:=by
 let⟨vs,e,p⟩:=x;refine⟨vs,j _ _ e,W2 p λq v z=>?_⟩
 cases q with
 |inl i=>show z
 |inr ks=>let⟨c,e,q⟩:=z;show⟨c,e,j _ _ q⟩
end
namespace Mi
variable{a:Wk}{K:Frag}{H H':Hp}{xs vs:List V}{i:Nat}{v:V}{x:Str}{σ:St}{ho:HO}{X:Cx}{e:Expr}
section
inductive D where
 |non|bl (b:Bool)|int (i:Int)|str (x:Str)|tup (ds:List D)|con (ds:List D)|ref (a:Wk)|fn (x:Str)
inductive O where
 |lst (ds:List D)
 |dct (t:Bool) (kvs:List (D×D))
 |fdc (kvs:List (D×D))
 |dcn (kvs:List (NK×D))
 |fdn (kvs:List (NK×D))
noncomputable abbrev Mem:=Wk->Option O
abbrev fz:Option O->Bool
 |some (.lst _)=>Wj
 |some (.dct _ _)=>Wj
 |some (.dcn _)=>Wj
 |_=>Wi
noncomputable abbrev ar:=List (Option D)
abbrev ag(M:Mem)(a:Wk)(o:O):Mem:=λb=>if b=a then Z o else M b
def aa{M:Mem}{o:O}:ag M a o a=Z o:=by unfold ag;rw[if_pos rfl]
def av{M:Mem}{b:Wk}{o:O}(h:b≠a):ag M a o b=M b:=by unfold ag;rw[if_neg h]
abbrev SqF(K:Frag)(H:Hp)(a:Wk)(xs:List V):Prop:=
 (∃o,H a=Z (.frz o (.lst xs))) ∨
  ∃(o:Obj) (its:Array q7) (n:Nat),K.lookup a=Z o/\o.cls=.type "list"/\o.dict=N2/\o.data=.seq its n/\its.size<=Lf/\Vals xs its.toList
def SqF.sq(h:SqF K H a xs):SqL K H a xs:=by
 rcases h with⟨o,h⟩|h
 ·show .inl (.inr ⟨o,h⟩)
 ·show .inr h
abbrev fk2:Bool:=Wi
abbrev fk3:Bool:=Wi
abbrev fk:List D->Bool
 |[.int _,.int _,.int _]=>Wi
 |[.tup _,_]=>Wi
 |[.int _,_]=>fk2
 |[]=>Wj
 |_=>fk3
abbrev TupR(K:Frag)(H:Hp)(ds:List D)(a:Wk)(vs:List V):Prop:=H a=Z (.tup vs)∨(fk ds=Wj/\SqT K H a vs)
def TupR.sq{ds:List D}(h:TupR K H ds a vs):SqT K H a vs:=h.elim SqT.of (·.2)
mutual
noncomputable def RD(K:Frag)(H:Hp):D->V->Prop
 |.non,v=>v=.non
 |.bl b,v=>v=.bl b
 |.int i,v=>v=.int i
 |.str x,v=>v=.str x
 |.tup ds,v=>∃a vs,v=.ref a/\TupR K H ds a vs/\RDs K H ds vs
 |.con ds,v=>∃a vs,v=.ref a/\SqF K H a vs/\RDs K H ds vs
 |.ref a,v=>v=.ref a
 |.fn x,v=>∃f,v=.ref f/\OT K MW x=Z (Z (.ref f))
noncomputable def RDs(K:Frag)(H:Hp):List D->List V->Prop
 |[],vs=>vs=[]
 |d::ds,vs=>∃v r,vs=v::r/\RD K H d v/\RDs K H ds r
end
structure Stab(H H':Hp):Prop where
 tup:∀a xs,H a=Z (.tup xs)->H' a=Z (.tup xs)
 frz:∀a o u,H a=Z (.frz o u)->H' a=Z (.frz o u)
def Stab.sqT(st:Stab H H')(h:SqT K H a xs):SqT K H' a xs:=by
 rcases h with(h|⟨o,h⟩)|h
 ·show .inl (.inl (st.tup _ _ h))
 ·show .inl (.inr ⟨o,st.frz _ _ _ h⟩)
 ·show .inr h
def Stab.sqF(st:Stab H H')(h:SqF K H a xs):SqF K H' a xs:=by
 rcases h with⟨o,h⟩|h
 ·show .inl ⟨o,st.frz _ _ _ h⟩
 ·show .inr h
mutual
theorem RD.mono{K:Frag}{H H':Hp}(st:Stab H H'):∀{d:D} {v:V},RD K H d v->RD K H' d v
 |.non,_,h=>h
 |.bl _,_,h=>h
 |.int _,_,h=>h
 |.str _,_,h=>h
 |.tup ds,v,h=>by unfold RD at h⊢;let⟨a,vs,e,q,r⟩:=h;show⟨a,vs,e,q.imp (st.tup _ _) (λz=>⟨z.1,st.sqT z.2⟩),RDs.mono st r⟩
 |.con ds,v,h=>by unfold RD at h⊢;let⟨a,vs,e,q,r⟩:=h;show⟨a,vs,e,st.sqF q,RDs.mono st r⟩
 |.ref _,_,h=>h
 |.fn _,_,h=>by unfold RD at h⊢;show h
theorem RDs.mono{K:Frag}{H H':Hp}(st:Stab H H'):∀{ds:List D} {vs:List V},RDs K H ds vs->RDs K H' ds vs
 |[],_,h=>h
 |d::ds,vs,h=>by unfold RDs at h⊢;let⟨v,r,e,h1,h2⟩:=h;show⟨v,r,e,RD.mono st h1,RDs.mono st h2⟩
end
section
variable{K:Frag}{H H':Hp}
def VY{i:Int}:RD K H (.int i) v↔v=.int i:=by unfold RD;show TK
def W0{b:Bool}:RD K H (.bl b) v↔v=.bl b:=by unfold RD;show TK
def W5:RD K H .non v↔v=.non:=by unfold RD;show TK
def W4:RD K H (.str x) v↔v=.str x:=by unfold RD;show TK
def VZ:RD K H (.ref a) v↔v=.ref a:=by unfold RD;show TK
def Wg:RD K H (.fn x) v↔∃f,v=.ref f/\OT K MW x=Z (Z (.ref f)):=by rw[RD]
def W8{ds:List D}:RD K H (.tup ds) v↔∃a vs,v=.ref a/\TupR K H ds a vs/\RDs K H ds vs:=by rw[RD]
def Wa{ds:List D}(h:∃a vs,v=.ref a/\H a=Z (.tup vs)/\RDs K H ds vs):RD K H (.tup ds) v:=W8.mpr (let⟨a,vs,e,h,r⟩:=h; ⟨a,vs,e,.inl h,r⟩)
def W6{ds:List D}(h:RD K H (.tup ds) v):∃a vs,v=.ref a/\SqT K H a vs/\RDs K H ds vs:=let⟨a,vs,e,h,r⟩:=W8.mp h; ⟨a,vs,e,h.sq,r⟩
def Wc{ds:List D}(f:fk ds=Wi)(h:RD K H (.tup ds) v):∃a vs,v=.ref a/\H a=Z (.tup vs)/\RDs K H ds vs:=let⟨a,vs,e,h,r⟩:=W8.mp h; ⟨a,vs,e,h.elim id λz=>(by rw[f]at z;cases z.1),r⟩
def W3{ds:List D}:RD K H (.con ds) v↔∃a vs,v=.ref a/\SqF K H a vs/\RDs K H ds vs:=by rw[RD]
def RDs.nil_iff:RDs K H [] vs↔vs=[]:=by rw[RDs]
def W1{d:D}{ds:List D}:RDs K H (d::ds) vs↔∃v r,vs=v::r/\RD K H d v/\RDs K H ds r:=by rw[RDs]
def RDs.nil:RDs K H [] []:=RDs.nil_iff.mpr rfl
def RDs.cons{d:D}{ds:List D}{v:V}{vs:List V}(h:RD K H d v)(r:RDs K H ds vs):RDs K H (d::ds) (v::vs):=W1.mpr ⟨v,vs,rfl,h,r⟩
def RDs.length:∀{ds:List D} {vs:List V},RDs K H ds vs->vs.length=ds.length
 |[],_,h=>by rw[RDs.nil_iff.mp h];rfl
 |d::ds,_,h=>by let⟨v,r,rfl,_,h2⟩:=W1.mp h;simp[RDs.length h2]
def RDs.get:∀{ds:List D} {vs:List V} {i:Nat} {d:D},RDs K H ds vs->ds[i]?=Z d->∃v,vs[i]?=Z v/\RD K H d v
 |[],_,_,_,_,e=>by simp at e
 |d::ds,_,0,d',h,e=>by let⟨v,r,rfl,h1,h2⟩:=W1.mp h;simp at e;subst e;show⟨v,rfl,h1⟩
 |d::ds,_,i+1,d',h,e=>by
  let⟨v,r,rfl,h1,h2⟩:=W1.mp h;let⟨u,j,q⟩:=RDs.get (i:=i) (d:=d') h2 (by simpa using e)
  show⟨u,by simpa using j,q⟩
def RDs.getV{ds:List D}(h:RDs K H ds vs)(e:vs[i]?=Z v):∃d,ds[i]?=Z d/\RD K H d v:=by
 let z:=h.length;let hi:i<vs.length:=(L5.mp e).1;obtain⟨d,hd⟩:∃d,ds[i]?=Z d:=⟨ds[i]'∅,z4 ∅⟩
 let⟨u,j,q⟩:=h.get hd;rw[e]at j;cases j;show⟨d,hd,q⟩
def RDs.append:∀{ds es:List D} {vs us:List V},RDs K H ds vs->RDs K H es us->RDs K H (ds++es) (vs++us)
 |[],_,_,_,h,q=>by rw[RDs.nil_iff.mp h];show q
 |d::ds,_,_,_,h,q=>by let⟨v,r,rfl,h1,h2⟩:=W1.mp h;show RDs.cons h1 (RDs.append h2 q)
def RDs.take:∀{ds:List D} {vs:List V} (n:Nat),RDs K H ds vs->RDs K H (ds.take n) (vs.take n)
 |[],_,n,h=>by rw[RDs.nil_iff.mp h];simp;show RDs.nil
 |_::_,_,0,h=>by simp;show RDs.nil
 |d::ds,_,n+1,h=>by let⟨v,r,rfl,h1,h2⟩:=W1.mp h;show RDs.cons h1 (RDs.take n h2)
def RDs.drop:∀{ds:List D} {vs:List V} (n:Nat),RDs K H ds vs->RDs K H (ds.drop n) (vs.drop n)
 |[],_,n,h=>by rw[RDs.nil_iff.mp h];simp;show RDs.nil
 |d::ds,_,0,h=>h
 |d::ds,_,n+1,h=>by let⟨v,r,rfl,h1,h2⟩:=W1.mp h;show RDs.drop n h2
def RDs.set:∀{ds:List D} {vs:List V} (n:Nat) {d:D} {v:V},RD K H d v->RDs K H ds vs->RDs K H (ds.set n d) (vs.set n v)
 |[],_,n,_,_,_,h=>by rw[RDs.nil_iff.mp h];show RDs.nil
 |d::ds,_,0,_,_,q,h=>by let⟨v,r,rfl,h1,h2⟩:=W1.mp h;show RDs.cons q h2
 |d::ds,_,n+1,_,_,q,h=>by let⟨v,r,rfl,h1,h2⟩:=W1.mp h;show RDs.cons h1 (RDs.set n q h2)
def RDs.rep{ds:List D}(h:RDs K H ds vs):∀k:Nat,RDs K H (I7 k ds).flatten (I7 k vs).flatten
 |0=>RDs.nil
 |k+1=>by rw[N7,N7,MX,MX];show h.append (h.rep k)
def RDs.ints:∀(ns:List Int),RDs K H (ns.map D.int) (ns.map V.int)
 |[]=>RDs.nil
 |n::ns=>RDs.cons (VY.mpr rfl) (RDs.ints ns)
end
mutual
noncomputable def D.eqb:D->D->Bool
 |.non,.non=>Wi
 |.bl a,.bl b=>a==b
 |.int a,.int b=>decide (a=b)
 |.str a,.str b=>decide (a=b)
 |.tup a,.tup b=>D.eqbs a b
 |.con a,.con b=>D.eqbs a b
 |.ref a,.ref b=>decide (a=b)
 |.fn a,.fn b=>decide (a=b)
 |_,_=>Wj
noncomputable def D.eqbs:List D->List D->Bool
 |[],[]=>Wi
 |a::r,b::s=>D.eqb a b&&D.eqbs r s
 |_,_=>Wj
end
mutual
theorem Wh:∀(a b:D),D.eqb a b=Wi->a=b
 |.non,b,h=>by cases b<;>first|rfl|cases h
 |.bl a,b,h=>by cases b<;>first|show congrArg D.bl (OO h)|cases h
 |.int a,b,h=>by cases b<;>first|show congrArg D.int (of_decide_eq_true h)|cases h
 |.str a,b,h=>by cases b<;>first|show congrArg D.str (of_decide_eq_true h)|cases h
 |.tup a,b,h=>by cases b<;>first|show congrArg D.tup (Wd a _ h)|cases h
 |.con a,b,h=>by cases b<;>first|show congrArg D.con (Wd a _ h)|cases h
 |.ref a,b,h=>by cases b<;>first|show congrArg D.ref (of_decide_eq_true h)|cases h
 |.fn a,b,h=>by cases b<;>first|show congrArg D.fn (of_decide_eq_true h)|cases h
theorem Wd:∀(a b:List D),D.eqbs a b=Wi->a=b
 |[],b,h=>by cases b<;>first|rfl|cases h
 |a::r,b,h=>by
  cases b with
  |nil=>cases h
  |cons b s=>let h:=(D1 _ _).mp h;rw[Wh a b h.1,Wd r s h.2]
end
mutual
theorem Wf:∀(a:D),D.eqb a a=Wi
 |.non=>rfl
 |.bl a=>beq_self_eq_true a
 |.int _=>decide_eq_true rfl
 |.str _=>decide_eq_true rfl
 |.tup a=>Wb a
 |.con a=>Wb a
 |.ref _=>decide_eq_true rfl
 |.fn _=>decide_eq_true rfl
theorem Wb:∀(a:List D),D.eqbs a a=Wi
 |[]=>rfl
 |a::r=>(D1 _ _).mpr ⟨Wf a,Wb r⟩
end
noncomputable instance:DecidableEq D:=λa b=>if h:D.eqb a b=Wi then isTrue (Wh a b h)else isFalse λe=>h (by rw[e];show Wf b)
abbrev RKey:D->Key->Prop
 |.int i,k=>k=.inl i
 |.str x,k=>k=.inr x
 |_,_=>False
abbrev RKeys:D->List Key->Prop
 |.tup ds,ks=>Mh RKey ds ks
 |_,_=>False
abbrev dget(kvs:List (D×D))(k:D):Option D:=(kvs.find? λp=>decide (p.1=k)).map (·.2)
abbrev ca(kvs:List (D×D))(k v:D):List (D×D):=if(kvs.any λp=>decide (p.1=k))=Wi then kvs.map (λp=>if p.1=k then(p.1,v)else p)else kvs++[(k,v)]
abbrev dE:D->Bool
 |.int _=>Wi
 |.str _=>Wi
 |_=>Wj
abbrev bO:D->Bool
 |.tup ds=>ds.all dE&&fk ds
 |_=>Wj
abbrev fV(t:Bool)(k:D):Bool:=if t then bO k else dE k
def oK{k:D}(h:dE k=Wi):∃q,RKey k q:=by cases k<;>first|(simp[dE]at h;done)|show⟨_,rfl⟩
def rK:∀{ds:List D},ds.all dE=Wi->∃ks,Mh RKey ds ks
 |[],_=>⟨[],.nil⟩
 |d::ds,h=>by simp only[P4,D1]at h;let⟨k,j⟩:=oK h.1;let⟨ks,hs⟩:=rK h.2;show⟨k::ks,.cons j hs⟩
def ir{k:D}(h:bO k=Wi):∃q,RKeys k q:=by cases k<;>first|(simp[bO]at h;done)|show rK (Ti.mp h).1
def iu{ds:List D}(h:bO (.tup ds)=Wi):fk ds=Wi:=(Ti.mp h).2
abbrev RO(K:Frag)(H:Hp)(a:Wk):O->Prop
 |.lst ds=>∃vs,H a=Z (.lst vs)/\RDs K H ds vs
 |.dct Wj kvs=>∃ps,H a=Z (.dK ps)/\Mh (λ(p:D×D) (q:Key×V)=>RKey p.1 q.1/\RD K H p.2 q.2) kvs ps
 |.dct Wi kvs=>∃ps,H a=Z (.dT ps)/\Mh (λ(p:D×D) (q:List Key×V)=>RKeys p.1 q.1/\RD K H p.2 q.2) kvs ps
 |.fdc kvs=>∃o ps,H a=Z (.frz o (.dT ps))/\Mh (λ(p:D×D) (q:List Key×V)=>RKeys p.1 q.1/\RD K H p.2 q.2) kvs ps
 |.dcn kvs=>∃xs,H a=Z (.ext (A5 a xs))/\Mh (λ(p:NK×D) (q:NK×Wk×q7)=>p.1=q.1/\Kt H q.1 q.2.1/\∃v,RelV v q.2.2/\RD K H p.2 v) kvs xs
 |.fdn kvs=>∃o xs,H a=Z (.frz o (.ext (A5 a xs)))/\Mh (λ(p:NK×D) (q:NK×Wk×q7)=>p.1=q.1/\Kt H q.1 q.2.1/\∃v,RelV v q.2.2/\RD K H p.2 v) kvs xs
abbrev RM(K:Frag)(M:Mem)(H:Hp):Prop:=∀a o,M a=Z o->RO K H a o
abbrev RS(K:Frag)(H:Hp)(σ:St)(ρ:ar):Prop:=σ.length=ρ.length/\∀(i:Nat) (d:D),ρ[i]?=Z (Z d)->∃v,σ[i]?=Z (Z v)/\RD K H d v
structure Ext(M:Mem)(H:Hp)(M':Mem)(H':Hp):Prop where
 kp:∀a o,fz (M a)=Wi->H a=Z o->H' a=Z o
 nw:∀a o,fz (M a)=Wi->H a=Z o->M' a=M a
section
variable{K:Frag}{M M' M'':Mem}{H H' H'':Hp}
def Ext.keep(x:Ext M H M' H')(a:Wk)(o:HO)(n:M a=N2)(e:H a=Z o):H' a=Z o:=x.kp a o (by rw[n];rfl) e
def Ext.new(x:Ext M H M' H')(a:Wk)(o:HO)(n:M a=N2)(e:H a=Z o):M' a=N2:=(x.nw a o (by rw[n];rfl) e).trans n
def Ext.refl:Ext M H M H:=⟨λ_ _ _ h=>h,λ_ _ _ _=>rfl⟩
def Ext.trans(a:Ext M H M' H')(b:Ext M' H' M'' H''):Ext M H M'' H'':=⟨λc o n h=>b.kp c o (by rw[a.nw c o n h];show n) (a.kp c o n h),λc o n h=>(b.nw c o (by rw[a.nw c o n h];show n) (a.kp c o n h)).trans (a.nw c o n h)⟩
def RM.mut(r:RM K M H){o:O}(h:M a=Z o):∃ho,H a=Z ho/\(∀xs,ho≠.tup xs)/\(fz (Z o)=Wj->Mut (Z ho)/\∀ob u,ho≠.frz ob u):=by
 let q:=r a o h
 cases o with
 |lst ds=>let⟨vs,e,_⟩:=q;show⟨_,e,λ_ z=>(by cases z),λ_=>⟨trivial,λ_ _ z=>(by cases z)⟩⟩
 |dct t kvs=>
  cases t with
  |false=>let⟨ps,e,_⟩:=q;show⟨_,e,λ_ z=>(by cases z),λ_=>⟨trivial,λ_ _ z=>(by cases z)⟩⟩
  |true=>let⟨ps,e,_⟩:=q;show⟨_,e,λ_ z=>(by cases z),λ_=>⟨trivial,λ_ _ z=>(by cases z)⟩⟩
 |fdc kvs=>let⟨ob,ps,e,_⟩:=q;show⟨_,e,λ_ z=>(by cases z),λz=>(by cases z)⟩
 |fdn kvs=>let⟨ob,ps,e,_⟩:=q;show⟨_,e,λ_ z=>(by cases z),λz=>(by cases z)⟩
 |dcn kvs=>let⟨xs,e,_⟩:=q;show⟨_,e,λ_ z=>(by cases z),λ_=>⟨trivial,λ_ _ z=>(by cases z)⟩⟩
def RM.fzT(r:RM K M H)(e:H a=Z (.tup xs)):M a=N2:=by
 cases q:M a with
 |none=>rfl
 |some o=>let⟨ho,j,z,_⟩:=r.mut q;rw[e]at j;cases j;show absurd rfl (z xs)
def RM.fzF(r:RM K M H){ob:Obj}{u:HO}(e:H a=Z (.frz ob u)):fz (M a)=Wi:=by
 cases q:M a with
 |none=>rfl
 |some o=>
  let⟨ho,j,_,B⟩:=r.mut q;rw[e]at j;cases j
  cases z:fz (Z o)with
  |true=>rfl
  |false=>show absurd rfl ((B z).2 ob u)
def RM.out(r:RM K M H)(h:H a=N2):M a=N2:=by
 cases e:M a with
 |none=>rfl
 |some o=>let⟨ho,q,_⟩:=r.mut e;rw[h]at q;cases q
def Ext.stab(r:RM K M H)(x:Ext M H M' H'):Stab H H' where
 tup:=λa xs e=>x.keep a _ (r.fzT e) e
 frz:=λa o u e=>x.kp a _ (r.fzF e) e
def RS.mono(st:Stab H H'){ρ:ar}(h:RS K H σ ρ):RS K H' σ ρ:=⟨h.1,λi d e=>let⟨v,q,r⟩:=h.2 i d e; ⟨v,q,r.mono st⟩⟩
def RS.set{ρ:ar}(h:RS K H σ ρ)(i:Nat){d:D}(r:RD K H d v):RS K H (σ.set i (Z v)) (ρ.set i (Z d)):=by
 refine⟨by simp[h.1],λj e q=>?_⟩
 by_cases hij:i=j
 ·subst hij;let hi:i<ρ.length:=by
   let:=(L5.mp q).1;simpa using this
  rw[Nx hi]at q
  cases q
  show⟨v,by rw[Nx (by rw[h.1];show hi)],r⟩
 ·rw[Oe hij]at q⊢;show h.2 j e q
abbrev tF(fr:List (Option Nat))(ρ:ar):ar:=fr.map λo=>o.bind λj=>(ρ[j]?).join
def RS.inh{ρ:ar}(h:RS K H σ ρ)(fr:List (Option Nat)):RS K H (inh fr σ) (tF fr ρ):=by
 refine⟨by simp[L2.inh,tF],λi d e=>?_⟩
 unfold tF at e;unfold L2.inh;rw[Lp]at e⊢
 cases q:fr[i]? with
 |none=>rw[q]at e;cases e
 |some o=>
  rw[q]at e
  cases o with
  |none=>cases e
  |some j=>
   let e':Z ((ρ[j]?).join)=Z (Z d):=e
   cases q':ρ[j]? with
   |none=>rw[q']at e';cases e'
   |some w=>
    rw[q']at e'
    cases e'
    let⟨v,v1,v2⟩:=h.2 j d q';show⟨v,by simp[v1],v2⟩
def RO.mono(st:Stab H H'){o:O}(h:RO K H a o)(e:∀ho,H a=Z ho->H' a=Z ho):RO K H' a o:=by
 cases o with
 |lst ds=>let⟨vs,q,r⟩:=h;show⟨vs,e _ q,r.mono st⟩
 |dct t kvs=>
  cases t with
  |false=>let⟨ps,q,r⟩:=h;show⟨ps,e _ q,W2 r λ_ _ z=>⟨z.1,z.2.mono st⟩⟩
  |true=>let⟨ps,q,r⟩:=h;show⟨ps,e _ q,W2 r λ_ _ z=>⟨z.1,z.2.mono st⟩⟩
 |fdc kvs=>let⟨ob,ps,q,r⟩:=h;show⟨ob,ps,e _ q,W2 r λ_ _ z=>⟨z.1,z.2.mono st⟩⟩
 |fdn kvs=>let⟨ob,xs,q,r⟩:=h;show⟨ob,xs,e _ q,W2 r λ_ _ j=>(by let⟨B,F,v,G,J⟩:=j;show⟨B,F.keeps st.tup,v,G,J.mono st⟩)⟩
 |dcn kvs=>let⟨xs,q,r⟩:=h;show⟨xs,e _ q,W2 r λ_ _ j=>(by let⟨B,F,v,G,J⟩:=j;show⟨B,F.keeps st.tup,v,G,J.mono st⟩)⟩
def RM.new{p:Wk}(r:RM K M H)(n:H p=N2):RM K M (upd H p ho):=λa o e=>by
 let ne:a≠p:=λz=>by subst z;let⟨_,q,_⟩:=r.mut e;rw[n]at q;cases q
 refine(r a o e).mono ⟨λb xs q=>?_,λb o u q=>?_⟩ λj q=>by rw[am ne];show q
 ·rw[am (ba q n)];show q
 ·rw[am (ba q n)];show q
def W9{p:Wk}(n:H p=N2):Ext M H M (upd H p ho):=⟨λa o _ e=>by rw[am (ba e n)];show e,λ_ _ _ _=>rfl⟩
def RM.lay{p:Wk}{o:O}(r:RM K M H)(n:H p=N2)(h:RO K (upd H p ho) p o):RM K (ag M p o) (upd H p ho):=λa o' e=>by
 by_cases z:a=p
 ·subst z;rw[aa]at e;cases e;show h
 ·rw[av z]at e;show r.new n a o' e
def Ext.lay{p:Wk}{o:O}(n:H p=N2):Ext M H (ag M p o) (upd H p ho):=⟨λa u _ e=>by rw[am (ba e n)];show e,λa u m e=>by rw[av (ba e n)]⟩
def RM.put{p:Wk}{o o0:O}(r:RM K M H)(m:M p=Z o0)(h:RO K (upd H p ho) p o)(w:fz (Z o0)=Wj:=by rfl):RM K (ag M p o) (upd H p ho):=λa o' e=>by
 by_cases z:a=p
 ·subst z;rw[aa]at e;cases e;show h
 ·rw[av z]at e;let⟨J,j,B,F⟩:=r.mut m;refine(r a o' e).mono ⟨λb xs q=>?_,λb o u q=>?_⟩ λG q=>by rw[am z];show q
  ·rw[am (λz=>by subst z;rw[j]at q;cases q;show B xs rfl)];show q
  ·rw[am (λz=>by subst z;rw[j]at q;cases q;show(F w).2 o u rfl)];show q
def Ext.put{p:Wk}{o o0:O}(m:M p=Z o0)(w:fz (Z o0)=Wj:=by rfl):Ext M H (ag M p o) (upd H p ho):=⟨λa u n e=>by rw[am (λz=>by subst z;rw[m,w]at n;cases n)];show e,λa u n e=>av (λz=>by subst z;rw[m,w]at n;cases n)⟩
def RM.stabPut{p:Wk}{o0:O}(r:RM K M H)(m:M p=Z o0)(w:fz (Z o0)=Wj:=by rfl):Stab H (upd H p ho):=(Ext.put (o:=o0) (ho:=ho) m w).stab r
end
noncomputable abbrev QD:=D->Mem->Prop
noncomputable abbrev TEd:=ar->Mem->QD->Prop
noncomputable abbrev TTd:=ar->Mem->(Bool->Mem->Prop)->Prop
noncomputable abbrev TAd:=ar->Mem->(List D->Mem->Prop)->Prop
structure bh where
 nx:ar->Mem->Prop
 rt:QD
 bk:ar->Mem->Prop:=λ_ _=>False
 ct:ar->Mem->Prop:=λ_ _=>False
noncomputable abbrev TSd:=bh->ar->Mem->Prop
abbrev ae(T:TEd):Prop:=∀ρ M Q Q',(∀d M',Q d M'->Q' d M')->T ρ M Q->T ρ M Q'
abbrev aM(T:TTd):Prop:=∀ρ M Q Q',(∀d M',Q d M'->Q' d M')->T ρ M Q->T ρ M Q'
abbrev bj(T:TAd):Prop:=∀ρ M Q Q',(∀d M',Q d M'->Q' d M')->T ρ M Q->T ρ M Q'
structure LeD(a b:bh):Prop where
 nx:∀ρ M,a.nx ρ M->b.nx ρ M
 rt:∀d M,a.rt d M->b.rt d M
 bk:∀ρ M,a.bk ρ M->b.bk ρ M
 ct:∀ρ M,a.ct ρ M->b.ct ρ M
abbrev aN(T:TSd):Prop:=∀a b ρ M,LeD a b->T a ρ M->T b ρ M
abbrev KE'(K:Frag)(M:Mem)(H:Hp)(Q:VK):QD:=λd M'=>∀v H',Ext M H M' H'->RM K M' H'->RD K H' d v->Q v H'
abbrev KT'(K:Frag)(M:Mem)(H:Hp)(Q:Bool->Hp->Prop):Bool->Mem->Prop:=λb M'=>∀H',Ext M H M' H'->RM K M' H'->Q b H'
abbrev KA'(K:Frag)(M:Mem)(H:Hp)(Q:List V->Hp->Prop):List D->Mem->Prop:=λds M'=>∀vs H',Ext M H M' H'->RM K M' H'->RDs K H' ds vs->Q vs H'
abbrev lE(K:Frag)(T:TEd):TE:=λσ H Q=>∃ρ M,RS K H σ ρ/\RM K M H/\T ρ M (KE' K M H Q)
abbrev lT(K:Frag)(T:TTd):TT:=λσ H Q=>∃ρ M,RS K H σ ρ/\RM K M H/\T ρ M (KT' K M H Q)
abbrev lA(K:Frag)(T:TAd):TA:=λσ H Q=>∃ρ M,RS K H σ ρ/\RM K M H/\T ρ M (KA' K M H Q)
structure Link(K:Frag)(M:Mem)(H:Hp)(a:bh)(b:bR):Prop where
 nx:∀ρ M' σ H',Ext M H M' H'->RS K H' σ ρ->RM K M' H'->a.nx ρ M'->b.nx σ H'
 rt:∀d M' v H',Ext M H M' H'->RM K M' H'->RD K H' d v->a.rt d M'->b.rt v H'
 bk:∀ρ M' σ H',Ext M H M' H'->RS K H' σ ρ->RM K M' H'->a.bk ρ M'->b.bk σ H'
 ct:∀ρ M' σ H',Ext M H M' H'->RS K H' σ ρ->RM K M' H'->a.ct ρ M'->b.ct σ H'
abbrev lS(K:Frag)(T:TSd):TS:=λD σ H=>∃ρ M A,RS K H σ ρ/\RM K M H/\Link K M H A D/\T A ρ M
def Link.ext{M M':Mem}{a:bh}{b:bR}(l:Link K M H a b)(x:Ext M H M' H'):Link K M' H' a b:=⟨λρ M2 σ H2 y=>l.nx ρ M2 σ H2 (x.trans y),λd M2 v H2 y=>l.rt d M2 v H2 (x.trans y),λρ M2 σ H2 y=>l.bk ρ M2 σ H2 (x.trans y),λρ M2 σ H2 y=>l.ct ρ M2 σ H2 (x.trans y)⟩
def PE.imp{t t':TE}(h:PE X e t)(i:∀σ H Q,t' σ H Q->t σ H Q):PE X e t':=λpins s σ H Q I q=>h pins s σ H Q I (i _ _ _ q)
def PT.imp{t t':TT}(h:PT X e t)(i:∀σ H Q,t' σ H Q->t σ H Q):PT X e t':=λpins s σ H Q I q=>h pins s σ H Q I (i _ _ _ q)
def PW.imp{t t':TT}(h:PW X e t)(i:∀σ H Q,t' σ H Q->t σ H Q):PW X e t':=λwh pins s σ H Q I q=>h wh pins s σ H Q I (i _ _ _ q)
def PA.imp{e:List Expr}{t t':TA}(h:PA X e t)(i:∀σ H Q,t' σ H Q->t σ H Q):PA X e t':=λp pins s σ H Q I q=>h p pins s σ H Q I (i _ _ _ q)
def PS.imp{e:Stmt}{t t':TS}(h:PS X e t)(i:∀D σ H,t' D σ H->t D σ H):PS X e t':=λpins s σ H D I q=>h pins s σ H D I (i _ _ _ q)
def PSs.imp{e:List Stmt}{t t':TS}(h:PSs X e t)(i:∀D σ H,t' D σ H->t D σ H):PSs X e t':=λpins s σ H D I q=>h pins s σ H D I (i _ _ _ q)
end
variable{M M':Mem}{ds:List D}{d:D}{Q:VK}{ta:TEd}{tr:TAd}{j:Nat}{es:List Expr}
section
def KE'.ext{M2:Mem}{H2:Hp}(x:Ext M H M2 H2)(h:KE' K M H Q d M'):KE' K M2 H2 Q d M':=λv H' y=>h v H' (x.trans y)
def KT'.ext{M2:Mem}{H2:Hp}{Q:Bool->Hp->Prop}{d:Bool}(x:Ext M H M2 H2)(h:KT' K M H Q d M'):KT' K M2 H2 Q d M':=λH' y=>h H' (x.trans y)
noncomputable abbrev R2d:=D->D->Mem->QD->Prop
noncomputable abbrev R1d:=D->Mem->QD->Prop
noncomputable abbrev RAd:=List D->Mem->QD->Prop
abbrev ay(r:R2d):Prop:=∀x y M Q Q',(∀d M',Q d M'->Q' d M')->r x y M Q->r x y M Q'
abbrev tG(r:R1d):Prop:=∀x M Q Q',(∀d M',Q d M'->Q' d M')->r x M Q->r x M Q'
abbrev aV(r:RAd):Prop:=∀x M Q Q',(∀d M',Q d M'->Q' d M')->r x M Q->r x M Q'
abbrev l2(K:Frag)(rd:R2d):R2:=λv u H Q=>∃x y M,RM K M H/\RD K H x v/\RD K H y u/\rd x y M (KE' K M H Q)
abbrev l1(K:Frag)(rd:R1d):V->Hp->VK->Prop:=λv H Q=>∃x M,RM K M H/\RD K H x v/\rd x M (KE' K M H Q)
abbrev lR(K:Frag)(rd:RAd):List V->Hp->VK->Prop:=λvs H Q=>∃ds M,RM K M H/\RDs K H ds vs/\rd ds M (KE' K M H Q)
abbrev lMt(K:Frag)(rd:D->List D->Mem->QD->Prop):V->List V->Hp->VK->Prop:=λv vs H Q=>∃x ds M,RM K M H/\RD K H x v/\RDs K H ds vs/\rd x ds M (KE' K M H Q)
abbrev aY(i:Nat):TEd:=λρ M Q=>∃d,ρ[i]?=Z (Z d)/\Q d M
abbrev wC(d:D):TEd:=λ_ M Q=>Q d M
abbrev wOp(rd:R2d)(ta tb:TEd):TEd:=λρ M Q=>ta ρ M λx M1=>tb ρ M1 λy M2=>rd x y M2 Q
abbrev wUn(rd:R1d)(ta:TEd):TEd:=λρ M Q=>ta ρ M λx M1=>rd x M1 Q
abbrev bx:TAd:=λ_ M Q=>Q [] M
abbrev aP(ta:TEd)(tr:TAd):TAd:=λρ M Q=>ta ρ M λx M1=>tr ρ M1 λxs M2=>Q (x::xs) M2
abbrev wAr(rd:RAd)(t:TAd):TEd:=λρ M Q=>t ρ M λds M1=>rd ds M1 Q
def yj:ae (aY i):=λ_ _ _ _ h j=>(by let⟨d,e,q⟩:=j;show⟨d,e,h _ _ q⟩)
def gS:ae (wC d):=λ_ _ _ _ h q=>h _ _ q
def fB{rd:R2d}{tb:TEd}(j:ay rd)(z:ae ta)(B:ae tb):ae (wOp rd ta tb):=λρ M Q Q' h q=>z _ _ _ _ (λx J F=>B _ _ _ _ (λy M2 G=>j _ _ _ _ _ h G) F) q
def AS{rd:R1d}(j:tG rd)(z:ae ta):ae (wUn rd ta):=λρ M Q Q' h q=>z _ _ _ _ (λx F B=>j _ _ _ _ h B) q
def aB:bj bx:=λ_ _ _ _ h q=>h _ _ q
def aw(j:ae ta)(z:bj tr):bj (aP ta tr):=λρ M Q Q' h q=>j _ _ _ _ (λx G B=>z _ _ _ _ (λxs M2 F=>h _ _ F) B) q
def iw{rd:RAd}{t:TAd}(j:aV rd)(z:bj t):ae (wAr rd t):=λρ M Q Q' h q=>z _ _ _ _ (λds F B=>j _ _ _ _ h B) q
section
variable{X:Cx}{a b:Expr}{ta tb:TEd}{pos:Pos}
def D9(B:X.N[i]?=Z x)(j:Vis X.env.scope x)(hd:(x==("__debug__":Str))=Wj)(z:(x==("__classdict__":Str))=Wj):PE X (.Name x pos) (lE X.K (aY i)):=by calc PE.imp (Cl B j hd z) λσ H Q h=>?_;let⟨ρ,M,rs,rm,d,e,q⟩:=h;let⟨v,j,rd⟩:=rs.2 i d e;show⟨v,j,q v H Ext.refl rm rd⟩
def le_int{i:Int}:PE X (.Constant (.int i) j pos) (lE X.K (wC (.int i))):=PE.imp Cn λσ H Q g9=>(by let⟨ρ,M,rs,rm,q⟩:=g9;show q _ H Ext.refl rm (VY.mpr rfl))
def F3{i:Bool}:PE X (.Constant (.bool i) j pos) (lE X.K (wC (.bl i))):=PE.imp EC λσ H Q g9=>(by let⟨ρ,M,rs,rm,q⟩:=g9;show q _ H Ext.refl rm (W0.mpr rfl))
def Da:PE X (.Constant .none j pos) (lE X.K (wC .non)):=PE.imp Co λσ H Q g9=>(by let⟨ρ,M,rs,rm,q⟩:=g9;show q _ H Ext.refl rm (W5.mpr rfl))
def Db:PE X (.Constant (.str x) j pos) (lE X.K (wC (.str x))):=PE.imp Cp λσ H Q g9=>(by let⟨ρ,M,rs,rm,q⟩:=g9;show q _ H Ext.refl rm (W4.mpr rfl))
def iy{rd:R2d}(L:ay rd)(ma:ae ta)(mb:ae tb)(σ:St)(H:Hp)(Q:VK)(h:lE K (wOp rd ta tb) σ H Q):tOp (l2 K rd) (lE K ta) (lE K tb) σ H Q:=by let⟨ρ,M,rs,rm,q⟩:=h;calc⟨ρ,M,rs,rm,ma _ _ _ _ (λx O U v H1 G j z=>?_) q⟩;calc⟨ρ,O,rs.mono (G.stab rm),j,mb _ _ _ _ (λy M2 Y u H2 J B F=>?_) U⟩;show⟨x,y,M2,B,z.mono (J.stab j),F,L _ _ _ _ _ (λd M' k=>k.ext (G.trans J)) Y⟩
def F4{op:Qn}{rd:R2d}(ho:OpR X (NL op) (l2 X.K rd))(j:ay rd)(ma:ae ta)(mb:ae tb)(q:PE X a (lE X.K ta))(z:PE X b (lE X.K tb)):PE X (.BinOp a op b pos) (lE X.K (wOp rd ta tb)):=PE.imp (EL ho q z) (iy j ma mb)
def Dc{op:TX}{rd:R2d}(ho:OpR X (Mt op) (l2 X.K rd))(j:ay rd)(ma:ae ta)(mb:ae tb)(q:PE X a (lE X.K ta))(z:PE X b (lE X.K tb))(hm:Q7 op b=Wj):PE X (.Compare a [op] [b] pos) (lE X.K (wOp rd ta tb)):=PE.imp (AF ho q z hm) (iy j ma mb)
abbrev fj(t:TEd):TTd:=λρ M Q=>t ρ M λx M1=>∃k,x=.bl k/\Q k M1
def oM{t:TEd}(h:ae t):aM (fj t):=λρ M Q Q' i q=>h _ _ _ _ (λx B j=>(by let⟨k,e,z⟩:=j;show⟨k,e,i _ _ z⟩)) q
def oO{t:TEd}(m:ae t)(σ:St)(H:Hp)(Q:Bool->Hp->Prop)(h:lT K (fj t) σ H Q):t8 (lE K t) σ H Q:=by let⟨ρ,M,rs,rm,q⟩:=h;calc⟨ρ,M,rs,rm,m _ _ _ _ (λx G g9 v H1 F j z=>?_) q⟩;let⟨k,e,B⟩:=g9;subst e;show⟨k,W0.mp z,B H1 F j⟩
def Dd{op:TX}{rd:R2d}(ho:OpR X (Mt op) (l2 X.K rd))(j:ay rd)(ma:ae ta)(mb:ae tb)(q:PE X a (lE X.K ta))(z:PE X b (lE X.K tb))(hm:Q7 op b=Wj):
 PT X (.Compare a [op] [b] pos) (lT X.K (fj (wOp rd ta tb))):=
 PT.imp (AG ho q z hm) λσ H Q h=>by let h1:=oO (fB j ma mb) σ H Q h;show iy j ma mb σ H _ h1
def F5{op:UnaryOp}{rd:R1d}(ho:UnR X (unaryOp op) (l1 X.K rd))(B:tG rd)(ma:ae ta)(F:PE X a (lE X.K ta)):PE X (.UnaryOp op a pos) (lE X.K (wUn rd ta)):=PE.imp (EM ho F) λσ H Q g9=>(by let⟨ρ,M,rs,rm,q⟩:=g9;show⟨ρ,M,rs,rm,ma _ _ _ _ (λx G J v H1 L j z=>⟨x,G,j,z,B _ _ _ _ (λd M' k=>k.ext L) J⟩) q⟩)
def F6{rd:R2d}(ho:IxR X (l2 X.K rd))(j:ay rd)(ma:ae ta)(mb:ae tb)(q:PE X a (lE X.K ta))(z:PE X b (lE X.K tb))(hs:kS b):PE X (.Subscript a b pos) (lE X.K (wOp rd ta tb)):=PE.imp (EU ho q z hs) (iy j ma mb)
def eI:PA X [] (lA X.K bx):=PA.imp v9 λσ H Q g9=>(by let⟨ρ,M,rs,rm,q⟩:=g9;show q _ H Ext.refl rm RDs.nil)
def vx(ma:ae ta)(mr:bj tr)(σ:St)(H:Hp)(Q:List V->Hp->Prop)(h:lA K (aP ta tr) σ H Q):zX (lE K ta) (lA K tr) σ H Q:=by let⟨ρ,M,rs,rm,q⟩:=h;calc⟨ρ,M,rs,rm,ma _ _ _ _ (λx L O v H1 G j z=>?_) q⟩;calc⟨ρ,L,rs.mono (G.stab rm),j,mr _ _ _ _ (λxs M2 U vs H2 J B F=>?_) O⟩;show U (v::vs) H2 (G.trans J) B (RDs.cons (z.mono (J.stab j)) F)
def bX(ma:ae ta)(mr:bj tr)(j:PE X e (lE X.K ta))(q:PA X es (lA X.K tr))(hs:LQ (e::es) X.env=(Wj,eval e X.env)::LQ es X.env):PA X (e::es) (lA X.K (aP ta tr)):=PA.imp (kR j q hs) (vx ma mr)
def bC{rd:RAd}{t:TAd}(B:aV rd)(mt:bj t)(σ:St)(H:Hp)(Q:VK)(h:lE K (wAr rd t) σ H Q):tCB (lR K rd) (lA K t) σ H Q:=by let⟨ρ,M,rs,rm,q⟩:=h;show⟨ρ,M,rs,rm,mt _ _ _ _ (λds F G vs H1 J j z=>⟨ds,F,j,z,B _ _ _ _ (λd M' k=>k.ext J) G⟩) q⟩
abbrev oP:RAd:=λds M Q=>ds.length<=Lf/\Q (.tup ds) M
abbrev tH:RAd:=λds M Q=>ds.length<=Lf/\∀p,M p=N2->Q (.ref p) (ag M p (.lst ds))
def vy:aV oP:=λ_ _ _ _ h j=>(by let⟨z,q⟩:=j;show⟨z,h _ _ q⟩)
def vz:aV tH:=λ_ _ _ _ h j=>(by let⟨z,q⟩:=j;show⟨z,λp n=>h _ _ (q p n)⟩)
def dQ{p:Wk}(rm:RM K M H)(rd:RDs K H ds vs)(q:KE' K M H Q (.tup ds) M)(n:H p=N2):Q (.ref p) (upd H p (.tup vs)):=by let x:Ext M H M (upd H p (.tup vs)):=W9 n;show q (.ref p) _ x (rm.new n) (Wa ⟨p,vs,rfl,aA,rd.mono (x.stab rm)⟩)
def cO{p:Wk}(rm:RM K M H)(rd:RDs K H ds vs)(q:∀p,M p=N2->KE' K M H Q (.ref p) (ag M p (.lst ds)))(n:H p=N2):Q (.ref p) (upd H p (.lst vs)):=by let x:Ext M H (ag M p (.lst ds)) (upd H p (.lst vs)):=Ext.lay n;let x0:Ext M H M (upd H p (.lst vs)):=W9 n;show q p (rm.out n) (.ref p) _ x (rm.lay n ⟨vs,aA,rd.mono (x0.stab rm)⟩) (VZ.mpr rfl)
def De{t:TAd}{k:Nat}(mt:bj t)(h:PA X es (lA X.K t)):PE X (.Tuple es k pos) (lE X.K (wAr oP t)):=PE.imp (CS h) λσ H Q B=>(by let⟨ρ,M,rs,rm,q⟩:=B;show⟨ρ,M,rs,rm,mt _ _ _ _ (λds L B vs H1 G F j=>(by let⟨z,J⟩:=B;show⟨by rw[j.length];show z,λp n=>dQ F j (J.ext G) n⟩)) q⟩)
def Df{t:TAd}(mt:bj t)(h:PA X es (lA X.K t)):PE X (.List es pos) (lE X.K (wAr tH t)):=PE.imp (CT h) λσ H Q B=>(by let⟨ρ,M,rs,rm,q⟩:=B;show⟨ρ,M,rs,rm,mt _ _ _ _ (λds L B vs H1 G F j=>(by let⟨z,J⟩:=B;show⟨by rw[j.length];show z,λp n=>cO F j (λp' n'=>(J p' n').ext G) n⟩)) q⟩)
end
end
end Mi
namespace Mi
end Mi
section
def jf:fillsNumberSlot (.type "tuple") "mul"=pure Wj:=PyProof.Rows.fillsNumberSlot_seq (id:="tuple.__mul__") (r:=Z (.builtin "tuple.__rmul__")) F.slot_tuple_mul.lookup (by decide +kernel) F.slot_tuple_rmul.lookup (by decide +kernel)
def oQ:seqRepeat? (.type "tuple")=pure (Z (.builtin "tuple.__mul__")):=by
 unfold seqRepeat?;rw[Sk (T:="tuple") (name:="__mul__") (id:="tuple.__mul__") F.slot_tuple_mul.lookup (by decide +kernel),Sk (T:="tuple") (name:="__rmul__") (id:="tuple.__rmul__") F.slot_tuple_rmul.lookup (by decide +kernel)]
 rfl
def kU(a:Int)(t:Tok)(l:Wk)(items:Array q7)(n:Nat)(d:Option Wk)(sl:Array (Option q7)):
 Meets (Oq.«int.__rmul__» ⟨[.int a t,.ref l],[]⟩) (λ_ R s=>s.heap.get? l=Z {cls:=.type "tuple",dict:=d,data:=.seq items n,slots:=sl}/\R (.ok (.ret Value.notImplemented)) s):=
 .of_wp λprog w A R s h=>by let⟨j,g,d,tk,os⟩:=s;let⟨q,h⟩:=h;wp_walk;show⟨_,rfl,h⟩
open AutoSeq1 (wpAny_loadPart') in
def vA(l:Wk)(items:Array q7)(n:Nat)(dd:Option Wk)(sl:Array (Option q7))(x:Int)(u:Tok)(h1:-(2^63)<=x)(h2:x<2^63)(B:items.size*x.toNat<=Lf):
 Meets (Oq.«tuple.__mul__» ⟨[.ref l,.int x u],[]⟩) (λ_ R s=>s.heap.get? l=Z {cls:=.type "tuple",dict:=dd,data:=.seq items n,slots:=sl} /\
  (if items.isEmpty || x==1 then R (.ok (.ret (.ref l))) s else R (.ok (.ret (.ref s.heap.objs.size))) {s with heap:=s.heap.push {cls:=.type "tuple",data:=.seq ((I7 x.toNat items).foldl (· ++ ·) #[])}})):=
 .of_wp λprog w A R s h=>by
  let⟨U,g,d,tk,os⟩:=s;let⟨q,h⟩:=h;let f1:=AutoSeq1.idx_int;let F:(decide (x < -(2^63)) || decide (x≥2^63))=Wj:=by rw[decide_eq_false ∅,decide_eq_false ∅];rfl
  wp_walk using Pw q
  refine SS (decide_eq_false (by rw[F];decide)) ?_
  dsimp only
  by_cases j:(items.isEmpty || x==1)=Wi
  ·rw[if_pos j]at h
   wp_walk using Pw q
   show⟨_,rfl,h⟩
  ·rw[if_neg j]at h
   wp_walk using Pw q
   simp only[SU,not_or]at j
   by_cases e2:x<=0
   ·let z:(decide (x<=0) || items.isEmpty)=Wi:=by rw[decide_eq_true e2];rfl
    rw[if_pos z];let G:x.toNat=0:=∅
    rw[G]at h
    wp_walk
    show⟨_,rfl,h⟩
   ·let z:¬(decide (x<=0) || items.isEmpty)=Wi:=by simp;show⟨∅,by simpa using j.1⟩
    rw[if_neg z];let hx:((items.size:Nat):Int)*x=((items.size*x.toNat:Nat):Int):=by rw[Px,Q4 ∅]
    let hs:Lf=16777216:=D0;let J:¬((items.size:Nat):Int)*x > (2^63-1) / 8:=by rw[hx];lia
    rw[if_neg J];let L:¬Rz (((items.size:Nat):Int)*x)=Wi:=by rw[hx];unfold Rz;intro O;let Y:=of_decide_eq_true O;lia
    rw[if_neg L]
    wp_walk
    let hsz:((I7 x.toNat items).foldl (· ++ ·) #[]).size<=Lf:=by
     let:∀(k:Nat) (a:Array q7),((I7 k items).foldl (· ++ ·) a).size=a.size+items.size*k:=by
      intro k;induction k with
      |zero=>intro a;simp
      |succ k ih=>intro a;rw[N7,Nl,ih,PN,Nat.mul_succ];lia
     rw[this];simpa using B
    refine SS (decide_eq_false (VI.mpr hsz)) ?_
    wp_walk
    show⟨_,rfl,h⟩
end
section
section
variable{X:Cx}
abbrev A6(K:Frag):R2:=λx y H Q=>∃l k xs,x=.ref l/\y=.int k/\SqT K H l xs /\ -(2^63)<=k/\k<2^63/\xs.length*k.toNat<=Lf /\
 ((xs=[]∨k=1)->Q (.ref l) H)/\(¬(xs=[]∨k=1)->∀p,H p=N2->Q (.ref p) (upd H p (.tup (I7 k.toNat xs).flatten)))
def AT:OpR X (NL .Mult) (A6 X.K):=by
 intro pins s σ H x y v u Q I rx ry h;let⟨l,k,xs,rfl,rfl,G,h1,h2,j,J,L⟩:=h
 cases rx
 let⟨t,rfl⟩:=ry;let⟨its,r,O,_⟩:=I.tuple G;let Y:=r.length;let⟨⟨cls,dd,dat,sl⟩,e,B,n,hd⟩:=O;dsimp only at B hd;subst B hd;let hlen:its.toArray.size*k.toNat<=Lf:=by rw[Lo,<-Y];show j
 let f0:∀m:Nat,QI (λfv x2=>fv++x2) #[] (I7 m its.toArray)=(I7 m its).flatten.toArray:=λm=>by let:=gQ its m [];rw[R3]at this;show this
 refine RG (T:="tuple") (U:="int") (·) ⟨_,e,rfl⟩ (λs'=>SE s' k t) jf Vs R4 oQ F.slot_int_index.lookup
  (QJ R4 (SE s k t) UT (UA _ _) (kU k t l its.toArray n dd sl)
    ⟨e,rfl,⟨_,e,rfl⟩,QJ F.slot_tuple_mul ⟨_,e,rfl⟩ F.entry_tuple_mul (F.args_tuple_mul_2 _ _) (vA l its.toArray n dd sl k t h1 h2 hlen) ⟨e,?_⟩⟩)
 let hi:(its.toArray.isEmpty || k==1)=Wi↔(xs=[]∨k=1):=by rw[<-r.nil_iff];simp
 split
 ·next c=>show⟨.ref l,H,I,rfl,J (hi.mp c)⟩
 ·next c=>rw[f0];calc⟨.ref s.heap.objs.size,_,I.laid (t':=s.toks) (o:=.tup (I7 k.toNat xs).flatten) (λb ob q=>D2 _ q) (L9 _) ?_,rfl,L (λz=>c (hi.mpr z)) _ (I.hok.fresh (L9 _))⟩;show⟨by rw[rJ,Q0];show j,_,r.rep k.toNat,Rl _ _⟩
end
end
section
section
variable{X:Cx}
def AU:OpR X (NL .Add) (λx y H Q=>∃a b ys,x=.ref a/\y=.ref b/\SqT X.K H a []/\SqT X.K H b ys/\Q (.ref b) H):=by
 intro pins s σ H x y v u Q I rx ry h;let⟨a,b,ys,rfl,rfl,U,Y,q⟩:=h
 cases rx
 cases ry
 let⟨its,fv,p1,_⟩:=I.tuple U;let⟨j,r2,p2,_⟩:=I.tuple Y;let e0:its=[]:=fv.nil_iff.mpr rfl;let⟨⟨cls,dd,data,sl⟩,ho,L,n,hd⟩:=id p1;let⟨⟨O,G,data2,J⟩,z,B,n2,hd2⟩:=id p2;simp only at L hd B hd2;subst L hd B hd2;show Uw ⟨_,ho,rfl⟩ ⟨_,z,rfl⟩ Sf TY Qr Qj (Q8 _ _)
  (tuple_addW0 a b its.toArray j.toArray n n2 dd G sl J (by simp[e0])) ⟨ho,z,⟨.ref b,H,I,rfl,q⟩⟩
end
end
namespace Mi
variable{K:Frag}{M:Mem}{H:Hp}{Q:VK}{v:V}
section
abbrev MulOk(i j:Int):Prop:=(-(2^64)<i/\i<2^64)∨(-(2^64)<j/\j<2^64)∨(TQ i<=2^20/\TQ j<=2^20)
def MulOk.ok{i j:Int}(h:MulOk i j):IntMulOk i j:=by
 rcases h with h|h|h
 ·show IntMulOk.of_left (intBits_le_64 h.1 h.2)
 ·show IntMulOk.of_right (intBits_le_64 h.1 h.2)
 ·show IntMulOk.of_bits h.1 h.2
abbrev fu:R2d
 |.int i,.int j,M,Q=>Q (.int (i+j)) M
 |.tup a,.tup b,M,Q=>(a≠[]∨True)/\a.length+b.length<=Lf/\Q (.tup (a++b)) M
 |.ref a,.ref b,M,Q=>∃xs ys,M a=Z (.lst xs)/\M b=Z (.lst ys)/\xs.length+ys.length<=Lf/\∀p,M p=N2->Q (.ref p) (ag M p (.lst (xs++ys)))
 |.str x,.str y,M,Q=>x.length+y.length<=Lf/\Q (.str (x++y)) M
 |_,_,_,_=>False
abbrev kW:R2d
 |.int i,.int j,M,Q=>Q (.int (i-j)) M
 |_,_,_,_=>False
abbrev fw:R2d
 |.int i,.int j,M,Q=>MulOk i j/\Q (.int (i*j)) M
 |.ref a,.int k,M,Q=>∃xs,M a=Z (.lst xs) /\ -(2^63)<=k/\k<2^63/\xs.length*k.toNat<=Lf/\∀p,M p=N2->Q (.ref p) (ag M p (.lst (I7 k.toNat xs).flatten))
 |.tup ds,.int k,M,Q=>-(2^63)<=k/\k<2^63/\ds.length*k.toNat<=Lf/\Q (.tup (I7 k.toNat ds).flatten) M
 |_,_,_,_=>False
abbrev jS:R2d
 |.int i,.int j,M,Q=>0<j/\j<2^256/\Q (.int (i / j)) M
 |_,_,_,_=>False
abbrev gT:R2d
 |.int i,.int j,M,Q=>0<j/\Q (.int (i%j)) M
 |_,_,_,_=>False
abbrev oR:R2d
 |.int i,.int j,M,Q=>0<=j/\j<=1000000/\i.natAbs<2^64/\Q (.int (i^j.toNat)) M
 |_,_,_,_=>False
def yk:ay fu:=by
 intro x y M Q Q' h q
 cases x<;>cases y<;>first
  |show q.elim
  |show h _ _ q
  |show⟨q.1,h _ _ q.2⟩
  |show⟨q.1,q.2.1,h _ _ q.2.2⟩
  |(let⟨xs,ys,j,B,z,q⟩:=q;show⟨xs,ys,j,B,z,λp n=>h _ _ (q p n)⟩)
def ym:ay kW:=by
 intro x y M Q Q' h q
 cases x<;>cases y<;>first|show q.elim|show h _ _ q
def yn:ay fw:=by
 intro x y M Q Q' h q
 cases x<;>cases y<;>first
  |show q.elim
  |show⟨q.1,h _ _ q.2⟩
  |show⟨q.1,q.2.1,q.2.2.1,h _ _ q.2.2.2⟩
  |(let⟨xs,j,z,B,F,q⟩:=q;show⟨xs,j,z,B,F,λp n=>h _ _ (q p n)⟩)
def vB:ay jS:=by
 intro x y M Q Q' h q
 cases x<;>cases y<;>first|show q.elim|show⟨q.1,q.2.1,h _ _ q.2.2⟩
def yo:ay gT:=by
 intro x y M Q Q' h q
 cases x<;>cases y<;>first|show q.elim|show⟨q.1,h _ _ q.2⟩
def yp:ay oR:=by
 intro x y M Q Q' h q
 cases x<;>cases y<;>first|show q.elim|show⟨q.1,q.2.1,q.2.2.1,h _ _ q.2.2.2⟩
section
variable{X:Cx}
def OpR.of{f:q7->q7->Sem q7}{r r':R2}(h:OpR X f r)(i:∀v u H Q,r' v u H Q->r v u H Q):OpR X f r':=λpins s σ H x y v u Q I rx ry q=>h pins s σ H x y v u Q I rx ry (i _ _ _ _ q)
def IxR.of{r r':R2}(h:IxR X r)(i:∀v u H Q,r' v u H Q->r v u H Q):IxR X r':=λa b pins s σ H x y v u Q I rx ry q=>h a b pins s σ H x y v u Q I rx ry (i _ _ _ _ q)
def CallR.of{f:q7}{r r':List V->Hp->VK->Prop}(h:CallR X f r)(i:∀vs H Q,r' vs H Q->r vs H Q):CallR X f r':=λpins s σ H xs us Q I rx q=>h pins s σ H xs us Q I rx (i _ _ _ q)
def F7{a b:List D}{u:V}(rm:RM K M H)(rx:RD K H (.tup a) v)(ry:RD K H (.tup b) u)(q:fu (.tup a) (.tup b) M (KE' K M H Q)):zZ K v u H Q∨∃a b ys,v=.ref a/\u=.ref b/\SqT K H a []/\SqT K H b ys/\Q (.ref b) H:=by
 let⟨a',vs,rfl,z,j⟩:=W6 rx;let⟨b',us,rfl,B,F⟩:=W6 ry;let⟨_,J,q⟩:=q;let l1:=j.length;let l2:=F.length
 by_cases G:a=[]
 ·subst G;let:vs=[]:=RDs.nil_iff.mp j;subst this;show .inr ⟨a',b',us,rfl,rfl,z,B,q _ H Ext.refl rm ry⟩
 refine .inl ⟨a',b',vs,us,rfl,rfl,z,B,λe=>G (LV.mp (by rw[<-l1,e];rfl)),∅,λe=>?_,λ_ p n=>dQ rm (j.append F) q n⟩
 let eb:b=[]:=LV.mp (by rw[<-l2,e];rfl)
 subst eb;rw[MB]at q;show q _ H Ext.refl rm rx
def yq:OpR X (NL .Add) (l2 X.K fu):=by
 calc OpR.of (op_add.or ((op_catT.or AU).or (op_cat.or tf))) λv u H Q h=>?_;let⟨x,y,M,rm,rx,ry,q⟩:=h
 cases x<;>cases y<;>first
  |show q.elim
  |(cases VY.mp rx;cases VY.mp ry;show .inl ⟨_,_,rfl,rfl,q _ H Ext.refl rm (VY.mpr rfl)⟩)
  |show .inr (.inl (F7 rm rx ry q))
  | (cases VZ.mp rx;cases VZ.mp ry
     let⟨xs,ys,F,G,z,q⟩:=q;let⟨vs,h1,j⟩:=rm _ _ F;let⟨us,h2,B⟩:=rm _ _ G;let l1:=j.length;let l2:=B.length;calc .inr (.inr (.inl ⟨_,_,vs,us,rfl,rfl,h1,h2,∅,λp n=>cO rm (j.append B) q n⟩)))
  |(cases W4.mp rx;cases W4.mp ry;show .inr (.inr (.inr ⟨_,_,rfl,rfl,q.1,q.2 _ H Ext.refl rm (W4.mpr rfl)⟩)))
def yr:OpR X (NL .Sub) (l2 X.K kW):=by
 calc OpR.of CL λv u H Q h=>?_;let⟨x,y,M,rm,rx,ry,q⟩:=h
 cases x<;>cases y<;>first
  |show q.elim
  |(cases VY.mp rx;cases VY.mp ry;show⟨_,_,rfl,rfl,q _ H Ext.refl rm (VY.mpr rfl)⟩)
def op_mul_i:OpR X (NL .Mult) (rI MulOk λi j=>.int (i*j)):=opI λ_ _ _ _ _ _ _ z q=>mul_int q z.ok
def F8{a:List D}{k:Int}{u:V}(rm:RM K M H)(rx:RD K H (.tup a) v)(ry:RD K H (.int k) u)(q:fw (.tup a) (.int k) M (KE' K M H Q)):A6 K v u H Q:=by
 let⟨a',vs,rfl,z,j⟩:=W6 rx
 cases VY.mp ry
 let⟨B,F,G,q⟩:=q;let l1:=j.length;refine⟨a',k,vs,rfl,rfl,z,B,F,by rw[l1];show G,λe=>?_,λ_ p n=>dQ rm (j.rep _) q n⟩
 let ea:(I7 k.toNat a).flatten=a:=by
  rcases e with e|e
  ·let:a=[]:=LV.mp (by rw[<-l1,e];rfl)
   subst this;simp
  ·subst e;simp
 rw[ea]at q;show q _ H Ext.refl rm rx
def yt:OpR X (NL .Mult) (l2 X.K fw):=by
 calc OpR.of (op_mul_i.or (op_rep.or AT)) λv u H Q h=>?_;let⟨x,y,M,rm,rx,ry,q⟩:=h
 cases x<;>cases y<;>first
  |show q.elim
  |(cases VY.mp rx;cases VY.mp ry;show .inl ⟨_,_,rfl,rfl,q.1,q.2 _ H Ext.refl rm (VY.mpr rfl)⟩)
  | (cases VZ.mp rx;cases VY.mp ry
     let⟨xs,z,B,F,G,q⟩:=q;let⟨vs,h1,j⟩:=rm _ _ z;let l1:=j.length;show .inr (.inl ⟨_,_,vs,rfl,rfl,h1,B,F,by rw[l1];show G,λp n=>cO rm (j.rep _) q n⟩))
  |show .inr (.inr (F8 rm rx ry q))
def yu:OpR X (NL .FloorDiv) (rI (λ_ j=>0<j/\j<2^256) λi j=>.int (i / j)):=L2.opI λi j _ _ _ _ _ z q=>by
 let h1:(0:Int)<j:=z.1;let h2:j<2^256:=z.2;let B:j.natAbs.log2<256:=(Nat.log2_lt ∅).mpr ∅
 show floordiv_int ∅ (by rw[Int.fdiv_eq_ediv_of_nonneg i ∅];show q) (.inl (PyProof.noPylong_of_log2 ∅))
def vC:OpR X (NL .FloorDiv) (l2 X.K jS):=by
 calc OpR.of yu λv u H Q h=>?_;let⟨x,y,M,rm,rx,ry,q⟩:=h
 cases x<;>cases y<;>first
  |show q.elim
  |(cases VY.mp rx;cases VY.mp ry;show⟨_,_,rfl,rfl,⟨q.1,q.2.1⟩,q.2.2 _ H Ext.refl rm (VY.mpr rfl)⟩)
def yv:OpR X (NL .Mod) (l2 X.K gT):=by
 calc OpR.of CM λv u H Q h=>?_;let⟨x,y,M,rm,rx,ry,q⟩:=h
 cases x<;>cases y<;>first
  |show q.elim
  |(cases VY.mp rx;cases VY.mp ry;show⟨_,_,rfl,rfl,q.1,q.2 _ H Ext.refl rm (VY.mpr rfl)⟩)
def yw:OpR X (NL .Pow) (l2 X.K oR):=by
 calc OpR.of CN λv u H Q h=>?_;let⟨x,y,M,rm,rx,ry,q⟩:=h
 cases x<;>cases y<;>first
  |show q.elim
  |(cases VY.mp rx;cases VY.mp ry;show⟨_,_,rfl,rfl,⟨q.1,q.2.1,q.2.2.1⟩,q.2.2.2 _ H Ext.refl rm (VY.mpr rfl)⟩)
abbrev oS:R1d
 |.int i,M,Q=>Q (.int (-i)) M
 |_,_,_=>False
def oT:tG oS:=by
 intro x M Q Q' h q
 cases x<;>first|show q.elim|show h _ _ q
def UnR.of{f:q7->Sem q7}{r r':V->Hp->VK->Prop}(h:UnR X f r)(i:∀v H Q,r' v H Q->r v H Q):UnR X f r':=λpins s σ H x v Q I rx q=>h pins s σ H x v Q I rx (i _ _ _ q)
def yz:UnR X (unaryOp .USub) (l1 X.K oS):=by
 calc UnR.of CO λv H Q h=>?_;let⟨x,M,rm,rx,q⟩:=h
 cases x<;>first
  |show q.elim
  |(cases VY.mp rx;show⟨_,rfl,q _ H Ext.refl rm (VY.mpr rfl)⟩)
abbrev ax{α β:Type}(f:α->Option β):List α->Option (List β)
 |[]=>Z []
 |x::xs=>(f x).bind λy=>(ax f xs).map (y :: ·)
abbrev rb:Nat->Mem->D->Option Ni
 |_,_,.non=>Z .none
 |_,_,.bl b=>Z (.bool b)
 |_,_,.int i=>Z (.int i)
 |_,_,.str x=>if UE x=Wi then Z (.str x)else N2
 |n+1,M,.tup ds=>(ax (rb n M) ds).map PyData.tuple
 |n+1,M,.con ds=>(ax (rb n M) ds).map Vi
 | n+1,M,.ref a=>match M a with
   |some (.lst ds)=>(ax (rb n M) ds).map Vi
   |_=>N2
 |0,_,.tup _=>N2
 |0,_,.con _=>N2
 |0,_,.ref _=>N2
 |_,_,.fn _=>N2
def dF{n:Nat}{M:Mem}(ih:∀d p,rb n M d=Z p->p.depth<=n/\p.canLay0=Wi):∀{ds:List D} {ps:List Ni},ax (rb n M) ds=Z ps->Ow ps<=n/\Nq ps=Wi
 |[],ps,h=>by simp[ax]at h;subst h;show⟨N6 _,rfl⟩
 |d::ds,ps,h=>by
  simp only[ax]at h
  cases e1:rb n M d with
  |none=>rw[e1]at h;cases h
  |some p=>
   rw[e1]at h
   cases e2:ax (rb n M) ds with
   |none=>simp[e2]at h
   |some qs=>
    simp[e2]at h;subst h;let⟨a1,a2⟩:=ih d p e1;let⟨q,j⟩:=dF ih e2;refine⟨?_,?_⟩
    ·change max p.depth (Ow qs)<=n;lia
    ·change(p.canLay0&&Nq qs)=Wi;rw[a2,j];rfl
def cD{M:Mem}:∀(n:Nat) (d:D) (p:Ni),rb n M d=Z p->p.depth<=n/\p.canLay0=Wi
 |n,.non,p,h=>by simp[rb]at h;subst h;show⟨N6 _,rfl⟩
 |n,.bl b,p,h=>by simp[rb]at h;subst h;show⟨N6 _,rfl⟩
 |n,.int b,p,h=>by simp[rb]at h;subst h;show⟨N6 _,rfl⟩
 |n,.str x,p,h=>by simp[rb]at h;let⟨h1,h2⟩:=h;subst h2;show⟨N6 _,h1⟩
 |0,.tup _,p,h=>by simp[rb]at h
 |0,.con _,p,h=>by simp[rb]at h
 |0,.ref _,p,h=>by simp[rb]at h
 |n,.fn _,p,h=>by simp[rb]at h
 |n+1,.tup ds,p,h=>by
  simp only[rb]at h
  cases e:ax (rb n M) ds with
  |none=>rw[e]at h;cases h
  |some ps=>rw[e]at h;cases h;let⟨a,b⟩:=dF (cD n) e;show⟨Sl a,b⟩
 |n+1,.con ds,p,h=>by
  simp only[rb]at h
  cases e:ax (rb n M) ds with
  |none=>rw[e]at h;cases h
  |some ps=>rw[e]at h;cases h;let⟨a,b⟩:=dF (cD n) e;show⟨Sl a,b⟩
 |n+1,.ref a,p,h=>by
  simp only[rb]at h
  cases e0:M a with
  |none=>rw[e0]at h;cases h
  |some o=>
   rw[e0]at h
   cases o with
   |dct _ _=>cases h
   |fdc _=>cases h
   |dcn _=>cases h
   |fdn _=>cases h
   |lst ds=>
    simp only at h
    cases e:ax (rb n M) ds with
    |none=>rw[e]at h;cases h
    |some ps=>rw[e]at h;cases h;let⟨a,b⟩:=dF (cD n) e;show⟨Sl a,b⟩
def dG{K:Frag}{H:Hp}{n:Nat}{M:Mem}{h:Heap}(ih:∀d p v u,rb n M d=Z p->RD K H d v->RelV v u->∃as,Qt h u p as):
 ∀{ds:List D} {ps:List Ni} {vs:List V} {us:List q7},ax (rb n M) ds=Z ps->RDs K H ds vs->Vals vs us->∃as,Tj h us ps as
 |[],ps,vs,us,hm,r,rv=>by
  simp[ax]at hm;subst hm;rw[RDs.nil_iff.mp r]at rv
  cases rv
  show⟨_,.nil⟩
 |d::ds,ps,vs,us,hm,r,rv=>by
  let⟨v,vr,rfl,j,q⟩:=W1.mp r
  cases rv with
  |cons z B=>
   simp only[ax]at hm
   cases e1:rb n M d with
   |none=>rw[e1]at hm;cases hm
   |some p=>
    rw[e1]at hm
    cases e2:ax (rb n M) ds with
    |none=>simp[e2]at hm
    |some qs=>simp[e2]at hm;subst hm;let⟨as,ra⟩:=ih d p v _ e1 j z;let⟨bs,rbs⟩:=dG ih e2 q B;show⟨_,.cons ra rbs⟩
def cc{pins:List (Wk×Obj)}{σ:St}{H:Hp}{s:J4}{M:Mem}(I:Inv X pins σ H s)(rm:RM X.K M H):∀(n:Nat) (d:D) (p:Ni) (v:V) (u:q7),rb n M d=Z p->RD X.K H d v->RelV v u->∃as,Qt s.heap u p as
 |n,.non,p,v,u,h,r,q=>by simp[rb]at h;subst h;cases W5.mp r;cases q;show⟨_,.none⟩
 |n,.bl b,p,v,u,h,r,q=>by simp[rb]at h;subst h;cases W0.mp r;cases q;show⟨_,.bool b⟩
 |n,.int b,p,v,u,h,r,q=>by simp[rb]at h;subst h;cases VY.mp r;let⟨t,rfl⟩:=q;show⟨_,.int b t⟩
 |n,.str x,p,v,u,h,r,q=>by simp[rb]at h;let⟨_,h2⟩:=h;subst h2;cases W4.mp r;let⟨t,rfl⟩:=q;show⟨_,.str x t⟩
 |0,.tup _,p,_,_,h,_,_=>by simp[rb]at h
 |0,.con _,p,_,_,h,_,_=>by simp[rb]at h
 |0,.ref _,p,_,_,h,_,_=>by simp[rb]at h
 |n,.fn _,p,_,_,h,_,_=>by simp[rb]at h
 |n+1,.tup ds,p,v,u,h,r,q=>by
  simp only[rb]at h
  cases e:ax (rb n M) ds with
  |none=>rw[e]at h;cases h
  |some ps=>
   rw[e]at h;cases h;let⟨a,vs,rfl,j,rs⟩:=W6 r
   cases q
   let⟨its,rv,⟨o,ho,z,k,hd⟩,_⟩:=I.tuple j;let⟨as,ra⟩:=dG (cc I rm n) e rs rv;show⟨_,.tuple ho z hd (by simpa using ra)⟩
 |n+1,.con ds,p,v,u,h,r,q=>by
  simp only[rb]at h
  cases e:ax (rb n M) ds with
  |none=>rw[e]at h;cases h
  |some ps=>
   rw[e]at h;cases h;let⟨a,vs,rfl,j,rs⟩:=W3.mp r
   cases q
   let⟨its,rv,⟨o,k,ho,z,_,hd⟩,_⟩:=I.list j.sq;let⟨as,ra⟩:=dG (cc I rm n) e rs rv;show⟨_,.list ho z hd (by simpa using ra)⟩
 |n+1,.ref a,p,v,u,h,r,q=>by
  simp only[rb]at h
  cases e0:M a with
  |none=>rw[e0]at h;cases h
  |some o=>
   rw[e0]at h
   cases o with
   |dct _ _=>cases h
   |fdc _=>cases h
   |dcn _=>cases h
   |fdn _=>cases h
   |lst ds=>
    simp only at h
    cases e:ax (rb n M) ds with
    |none=>rw[e]at h;cases h
    |some ps=>
     rw[e]at h;cases h
     cases VZ.mp r
     cases q
     let⟨vs,j,rs⟩:=rm _ _ e0;let⟨its,rv,⟨o,k,ho,z,_,hd⟩,_⟩:=I.list (SqL.of j);let⟨as,ra⟩:=dG (cc I rm n) e rs rv;show⟨_,.list ho z hd (by simpa using ra)⟩
abbrev wEq:R2d:=λx y M Q=>∃p q,rb 16 M x=Z p/\rb 16 M y=Z q/\Q (.bl (Mr p q)) M
abbrev wNe:R2d:=λx y M Q=>∃p q,rb 16 M x=Z p/\rb 16 M y=Z q/\Q (.bl (!PyData.eqv p q)) M
def AV:ay wEq:=λ_ _ _ _ _ h j=>(by let⟨p,q,a,b,c⟩:=j;show⟨p,q,a,b,h _ _ c⟩)
def AW:ay wNe:=λ_ _ _ _ _ h j=>(by let⟨p,q,a,b,c⟩:=j;show⟨p,q,a,b,h _ _ c⟩)
def AX(F:X.A.units+16<Ol):OpR X (Mt .Eq) (l2 X.K wEq):=by intro pins s σ H x y v u Q I rx ry h;let⟨d,e,M,rm,rd,re,p,q,j,z,k⟩:=h;let⟨as,ra⟩:=cc I rm _ _ _ _ _ j rd rx;let⟨bs,rb'⟩:=cc I rm _ _ _ _ _ z re ry;let⟨G,p2⟩:=cD _ _ _ j;let⟨J,B⟩:=cD _ _ _ z;show SeqAt.compareEq_reads ra rb' p2 B ∅ ⟨.bl _,H,I,rfl,k _ H Ext.refl rm (W0.mpr rfl)⟩
def AY(F:X.A.units+16<Ol):OpR X (Mt .NotEq) (l2 X.K wNe):=by intro pins s σ H x y v u Q I rx ry h;let⟨d,e,M,rm,rd,re,p,q,j,z,k⟩:=h;let⟨as,ra⟩:=cc I rm _ _ _ _ _ j rd rx;let⟨bs,rb'⟩:=cc I rm _ _ _ _ _ z re ry;let⟨G,p2⟩:=cD _ _ _ j;let⟨J,B⟩:=cD _ _ _ z;show SeqAt.compareNe_reads ra rb' p2 B ∅ ⟨.bl _,H,I,rfl,k _ H Ext.refl rm (W0.mpr rfl)⟩
abbrev wLt:R2d
 |.int i,.int j,M,Q=>Q (.bl (decide (i<j))) M
 |_,_,_,_=>False
abbrev wLe:R2d
 |.int i,.int j,M,Q=>Q (.bl (decide (i<=j))) M
 |_,_,_,_=>False
abbrev wGt:R2d
 |.int i,.int j,M,Q=>Q (.bl (decide (j<i))) M
 |_,_,_,_=>False
abbrev wGe:R2d
 |.int i,.int j,M,Q=>Q (.bl (decide (j<=i))) M
 |_,_,_,_=>False
def AZ:ay wLt:=by
 intro x y M Q Q' h q
 cases x<;>cases y<;>first|show q.elim|show h _ _ q
def B0:ay wLe:=by
 intro x y M Q Q' h q
 cases x<;>cases y<;>first|show q.elim|show h _ _ q
def B1:ay wGt:=by
 intro x y M Q Q' h q
 cases x<;>cases y<;>first|show q.elim|show h _ _ q
def B2:ay wGe:=by
 intro x y M Q Q' h q
 cases x<;>cases y<;>first|show q.elim|show h _ _ q
def B3:OpR X (Mt .Lt) (l2 X.K wLt):=by
 calc OpR.of EN λv u H Q h=>?_;let⟨x,y,M,rm,rx,ry,q⟩:=h
 cases x<;>cases y<;>first
  |show q.elim
  |(cases VY.mp rx;cases VY.mp ry;show⟨_,_,rfl,rfl,q _ H Ext.refl rm (W0.mpr rfl)⟩)
def B4:OpR X (Mt .LtE) (l2 X.K wLe):=by
 calc OpR.of EO λv u H Q h=>?_;let⟨x,y,M,rm,rx,ry,q⟩:=h
 cases x<;>cases y<;>first
  |show q.elim
  |(cases VY.mp rx;cases VY.mp ry;show⟨_,_,rfl,rfl,q _ H Ext.refl rm (W0.mpr rfl)⟩)
def B5:OpR X (Mt .Gt) (l2 X.K wGt):=by
 calc OpR.of EQ λv u H Q h=>?_;let⟨x,y,M,rm,rx,ry,q⟩:=h
 cases x<;>cases y<;>first
  |show q.elim
  |(cases VY.mp rx;cases VY.mp ry;show⟨_,_,rfl,rfl,q _ H Ext.refl rm (W0.mpr rfl)⟩)
def B6:OpR X (Mt .GtE) (l2 X.K wGe):=by
 calc OpR.of ER λv u H Q h=>?_;let⟨x,y,M,rm,rx,ry,q⟩:=h
 cases x<;>cases y<;>first
  |show q.elim
  |(cases VY.mp rx;cases VY.mp ry;show⟨_,_,rfl,rfl,q _ H Ext.refl rm (W0.mpr rfl)⟩)
end
end
variable{a:Wk}{ds:List D}{vs:List V}{d x:D}{kvs:List (D×D)}
section
abbrev wIx:R2d:=λx y M Q=>match x with
 |.tup ds=>∃i d,y=.int i/\atI ds i=Z d/\Q d M
 |.con ds=>∃i d,y=.int i/\atI ds i=Z d/\Q d M
 |.ref a=>(∃ds i d,M a=Z (.lst ds)/\y=.int i/\atI ds i=Z d/\Q d M)∨(∃t kvs d,M a=Z (.dct t kvs)/\fV t y=Wi/\dget kvs y=Z d/\Q d M)∨∃kvs d,M a=Z (.fdc kvs)/\bO y=Wi/\dget kvs y=Z d/\Q d M
 |_=>False
def rL:ay wIx:=by
 intro x y M Q Q' h q
 cases x with
 |tup ds=>let⟨i,d,e,j,q⟩:=q;show⟨i,d,e,j,h _ _ q⟩
 |con ds=>let⟨i,d,e,j,q⟩:=q;show⟨i,d,e,j,h _ _ q⟩
 |ref a=>
  rcases q with⟨ds,i,d,z,j,B,q⟩|⟨t,kvs,d,z,j,B,q⟩|⟨kvs,d,z,j,B,q⟩
  ·show .inl ⟨ds,i,d,z,j,B,h _ _ q⟩
  ·show .inr (.inl ⟨t,kvs,d,z,j,B,h _ _ q⟩)
  ·show .inr (.inr ⟨kvs,d,z,j,B,h _ _ q⟩)
 |_=>show q.elim
def oU{i:Int}(r:RDs K H ds vs)(e:atI ds i=Z d):∃v,atI vs i=Z v/\RD K H d v:=by
 unfold atI at e⊢;rw[r.length]
 cases q:ixN ds.length i with
 |none=>rw[q]at e;cases e
 |some j=>rw[q]at e;show r.get e
def kX{k:D}{q:Key}(r:RKey k q)(h:RD K H k v):v=kV q:=by
 cases k<;>first
  |show r.elim
  |(cases(show q=_ from r);first|show VY.mp h|show W4.mp h)
def eJ{K:Frag}{H:Hp}:∀{ds:List D} {ks:List Key} {vs:List V},Mh RKey ds ks->RDs K H ds vs->vs=ks.map kV
 |_,_,vs,.nil,h=>by rw[RDs.nil_iff.mp h];rfl
 |_,_,vs,.cons r t,h=>by let⟨v,vr,rfl,h1,h2⟩:=W1.mp h;rw[kX r h1,eJ t h2];rfl
def RKey.inj{e:D}{k:Key}(a:RKey d k)(b:RKey e k):d=e:=by
 cases d<;>first
  |show a.elim
  |(cases e<;>first|show b.elim|(cases(show k=_ from a);injection (show _=_ from b)with z;rw[z])|(cases(show k=_ from a);cases(show _=_ from b)))
def RKeysP.inj:∀{d e:List D} {k:List Key},Mh RKey d k->Mh RKey e k->d=e
 |_,_,_,.nil,.nil=>rfl
 |_,_,_,.cons r t,.cons r' t'=>by rw[r.inj r',RKeysP.inj t t']
def RKeys.inj{e:D}{k:List Key}(a:RKeys d k)(b:RKeys e k):d=e:=by
 cases d<;>first
  |show a.elim
  |(cases e<;>first|show b.elim|show congrArg D.tup (RKeysP.inj a b))
def RKey.fun{k k':Key}(a:RKey d k)(b:RKey d k'):k=k':=by
 cases d<;>first
  |show a.elim
  |(cases(show k=_ from a);cases(show k'=_ from b);rfl)
def RKeysP.fun:∀{d:List D} {k k':List Key},Mh RKey d k->Mh RKey d k'->k=k'
 |_,_,_,.nil,.nil=>rfl
 |_,_,_,.cons r t,.cons r' t'=>by rw[r.fun r',RKeysP.fun t t']
def RKeys.fun{k k':List Key}(a:RKeys d k)(b:RKeys d k'):k=k':=by
 cases d<;>first
  |show a.elim
  |show RKeysP.fun a b
section
variable{κ:Type}[DecidableEq κ]{K:Frag}{H:Hp}{RK:D->κ->Prop}(inj:∀{d e:D} {k:κ},RK d k->RK e k->d=e)(fn:∀{d:D} {k k':κ},RK d k->RK d k'->k=k')
include inj fn
def fW{k:D}{q:κ}(j:RK k q):∀{kvs:List (D×D)} {ps:List (κ×V)},Mh (λp r=>RK p.1 r.1/\RD K H p.2 r.2) kvs ps->
 (∀d,dget kvs k=Z d->∃v,bZ ps q=Z v/\RD K H d v)/\(dget kvs k=N2->bZ ps q=N2)
 |_,_,.nil=>⟨λd e=>by simp[dget]at e,λ_=>rfl⟩
 |_,_,.cons (a:=p) (b:=r) (l₂:=ps) B t=>by
  let⟨F,G⟩:=fW j t
  by_cases e:p.1=k
  ·let e':r.1=q:=by
    let h1:=B.1;rw[e]at h1;show fn h1 j
   refine⟨λd he=>?_,λhe=>?_⟩
   ·simp[dget,O0,e]at he;subst he;show⟨r.2,fT e',B.2⟩
   ·simp[dget,O0,e]at he
  ·let e':¬r.1=q:=fun z=>e (by
    let h1:=B.1;rw[z]at h1;show inj h1 j)
   let eq1:∀l:List (D×D),dget (p::l) k=dget l k:=λl=>by simp[dget,O0,e]
   let eq2:bZ (r::ps) q=bZ ps q:=fU e';refine⟨λd he=>?_,λhe=>?_⟩
   ·rw[eq1]at he;rw[eq2];show F d he
   ·rw[eq1]at he;rw[eq2];show G he
end
section
variable{X:Cx}
def oV{ps:List (List Key×V)}{k:D}(B:Rd H a (.dT ps))(pr:Mh (λ(p:D×D) (q:List Key×V)=>RKeys p.1 q.1/\RD K H p.2 q.2) kvs ps)(ok:bO k=Wi)(rk:RD K H k v):
 ∃o,DGet H a v o/\(∀d,dget kvs k=Z d->∃w,o=Z w/\RD K H d w)/\(dget kvs k=N2->o=N2):=by
 let⟨q,j⟩:=ir ok;let⟨g1,g2⟩:=fW (RK:=RKeys) RKeys.inj RKeys.fun j pr;refine⟨bZ ps q,?_,g1,g2⟩
 cases k<;>first
  |show j.elim
  | (let⟨b,us,rfl,z,ru⟩:=Wc (iu ok) rk
     rw[eJ j ru]at z;show .inr ⟨ps,q,b,B,rfl,z,rfl⟩)
def kY{t:Bool}{k:D}(rm:RM K M H)(e:M a=Z (.dct t kvs))(ok:fV t k=Wi)(rk:RD K H k v):
 ∃o,DGet H a v o/\(∀d,dget kvs k=Z d->∃w,o=Z w/\RD K H d w)/\(dget kvs k=N2->o=N2):=by
 let ro:=rm a _ e
 cases t with
 |false=>let⟨ps,j,pr⟩:=ro;let⟨q,z⟩:=oK (show dE k=Wi from ok);let⟨g1,g2⟩:=fW (RK:=RKey) RKey.inj RKey.fun z pr;calc⟨bZ ps q,?_,g1,g2⟩;rw[kX z rk];show DGet.k j
 |true=>let⟨ps,j,pr⟩:=ro;show oV (.inl j) pr ok rk
def B7(j:X.A.units+1<Ol):IxR X (λx y H Q=>∃a v,x=.ref a/\DGet H a y (Z v)/\Q v H):=by
 intro value slice pins s σ H x y v u Q I rx ry h hs;let⟨a,w,rfl,g,q⟩:=h
 cases rx
 let hd:IsD H a:=by
  rcases g with⟨kvs,k,e,_⟩|⟨kvs,k,b,e,_⟩
  ·show .inl ⟨kvs,e⟩
  ·show .inr ⟨kvs,e⟩
 let⟨z,_⟩:=jM I hd;show tail_any z PySem.F.slot_dict_getitem.lookup (vm j I g ry λw' s' I' r'=>⟨w,H,I',r',q⟩) hs
def Gh(G:X.A.units+1<Ol):IxR X (l2 X.K wIx):=by
 calc IxR.of (ix_list.or (ix_tup.or (B7 G))) λv u H Q h=>?_;let⟨x,y,M,rm,rx,ry,q⟩:=h
 cases x with
 |tup ds=>
  let⟨i,d,rfl,e,q⟩:=q;let⟨a,vs,rfl,j,rs⟩:=W6 rx
  cases VY.mp ry
  let⟨w,hw,rw'⟩:=oU rs e;show .inr (.inl ⟨a,vs,i,w,rfl,rfl,j,hw,q w H Ext.refl rm rw'⟩)
 |con ds=>
  let⟨i,d,rfl,e,q⟩:=q;let⟨a,vs,rfl,j,rs⟩:=W3.mp rx
  cases VY.mp ry
  let⟨w,hw,rw'⟩:=oU rs e;show .inl ⟨a,vs,i,w,rfl,rfl,j.sq,hw,q w H Ext.refl rm rw'⟩
 |ref a=>
  cases VZ.mp rx
  rcases q with⟨ds,i,d,z,rfl,B,q⟩|⟨t,kvs,d,z,F,B,q⟩|⟨kvs,d,z,F,B,q⟩
  ·cases VY.mp ry
   let⟨vs,j,rs⟩:=rm _ _ z;let⟨w,hw,rw'⟩:=oU rs B;show .inl ⟨a,vs,i,w,rfl,rfl,SqL.of j,hw,q w H Ext.refl rm rw'⟩
  ·let⟨o,g,g1,_⟩:=kY rm z F ry;let⟨w,rfl,rw'⟩:=g1 d B;show .inr (.inr ⟨a,w,rfl,g,q w H Ext.refl rm rw'⟩)
  ·let⟨ob,ps,J,pr⟩:=rm _ _ z;let⟨o,g,g1,_⟩:=oV (.inr ⟨ob,J⟩) pr F ry;let⟨w,rfl,rw'⟩:=g1 d B;show .inr (.inr ⟨a,w,rfl,g,q w H Ext.refl rm rw'⟩)
 |_=>show q.elim
abbrev jg(M:Mem):D->Option Nat
 |.tup ds=>Z ds.length
 |.con ds=>Z ds.length
 |.ref a=>match M a with
  |some (.lst ds)=>Z ds.length
  |_=>N2
 |_=>N2
abbrev fX:RAd:=λxs M Q=>∃x n,xs=[x]/\jg M x=Z n/\Q (.int n) M
def oW:aV fX:=λ_ _ _ _ h j=>(by let⟨x,n,e,l,q⟩:=j;show⟨x,n,e,l,h _ _ q⟩)
def RDs.one(h:RDs K H [d] vs):∃v,vs=[v]/\RD K H d v:=by let⟨v,r,rfl,h1,h2⟩:=W1.mp h;rw[RDs.nil_iff.mp h2];show⟨v,rfl,h1⟩
def RDs.two{e:D}(h:RDs K H [d,e] vs):∃v u,vs=[v,u]/\RD K H d v/\RD K H e u:=by let⟨v,r,rfl,h1,h2⟩:=W1.mp h;let⟨u,rfl,j⟩:=RDs.one h2;show⟨v,u,rfl,h1,j⟩
def tI:CallR X (.builtin "len") (lR X.K fX):=by
 calc CallR.of xV λvs H Q h=>?_;let⟨ds,M,rm,rs,x,n,rfl,l,q⟩:=h;let⟨v,rfl,r⟩:=rs.one;refine⟨v,n,rfl,?_,q _ H Ext.refl rm (VY.mpr rfl)⟩
 cases x with
 |tup ds=>
  cases l
  let⟨a,us,rfl,j,ru⟩:=W6 r;show .inr ⟨us,j,ru.length.symm⟩
 |con ds=>
  cases l
  let⟨a,us,rfl,j,ru⟩:=W3.mp r;show .inl ⟨us,j.sq,ru.length.symm⟩
 |ref a=>
  cases VZ.mp r
  simp only[jg]at l
  cases e:M a with
  |none=>rw[e]at l;cases l
  |some o=>
   rw[e]at l
   cases o with
   |dct _ _=>cases l
   |fdc _=>cases l
   |dcn _=>cases l
   |fdn _=>cases l
   |lst ds=>
    cases l
    let⟨us,j,ru⟩:=rm _ _ e;show .inl ⟨us,SqL.of j,ru.length.symm⟩
 |_=>cases l
abbrev kZ:RAd:=λxs M Q=>∃i,xs=[.int i]/\Q (.int (if i<0 then -i else i)) M
abbrev jT:RAd:=λxs M Q=>∃i j,xs=[.int i,.int j]/\Q (.int (if j > i then j else i)) M
abbrev jU:RAd:=λxs M Q=>∃i j,xs=[.int i,.int j]/\Q (.int (if j<i then j else i)) M
abbrev lc:RAd:=λxs M Q=>(∃i,xs=[.int i]/\Q (.int i) M)∨∃k,xs=[.bl k]/\Q (.int (if k then 1 else 0)) M
def oZ:aV kZ:=λ_ _ _ _ h j=>(by let⟨i,e,q⟩:=j;show⟨i,e,h _ _ q⟩)
def mG:aV jT:=λ_ _ _ _ h z=>(by let⟨i,j,e,q⟩:=z;show⟨i,j,e,h _ _ q⟩)
def mH:aV jU:=λ_ _ _ _ h z=>(by let⟨i,j,e,q⟩:=z;show⟨i,j,e,h _ _ q⟩)
def p9:aV lc:=λ_ _ _ _ h q=>q.elim (λj=>(by let⟨i,e,q⟩:=j;show .inl ⟨i,e,h _ _ q⟩)) λj=>(by let⟨i,e,q⟩:=j;show .inr ⟨i,e,h _ _ q⟩)
def tJ:CallR X (.builtin "abs") (lR X.K kZ):=by
 calc CallR.of xU λvs H Q h=>?_;let⟨ds,M,rm,rs,i,rfl,q⟩:=h;let⟨v,rfl,r⟩:=rs.one
 cases VY.mp r
 show⟨i,rfl,q _ H Ext.refl rm (VY.mpr rfl)⟩
def qX(z:X.calm=Wi):CallR X (.builtin "max") (lR X.K jT):=by
 calc CallR.of (uZ z) λvs H Q h=>?_;let⟨ds,M,rm,rs,i,j,rfl,q⟩:=h;let⟨v,u,rfl,B,F⟩:=rs.two
 cases VY.mp B
 cases VY.mp F
 show⟨i,j,rfl,q _ H Ext.refl rm (VY.mpr rfl)⟩
def qY(z:X.calm=Wi):CallR X (.builtin "min") (lR X.K jU):=by
 calc CallR.of (v5 z) λvs H Q h=>?_;let⟨ds,M,rm,rs,i,j,rfl,q⟩:=h;let⟨v,u,rfl,B,F⟩:=rs.two
 cases VY.mp B
 cases VY.mp F
 show⟨i,j,rfl,q _ H Ext.refl rm (VY.mpr rfl)⟩
def tK:CallR X (.type "int") (lR X.K lc):=by
 calc CallR.of v6 λvs H Q h=>?_;obtain⟨ds,M,rm,rs,⟨i,rfl,q⟩|⟨i,rfl,q⟩⟩:=h
 ·let⟨v,rfl,r⟩:=rs.one
  cases VY.mp r
  show .inl ⟨i,rfl,q _ H Ext.refl rm (VY.mpr rfl)⟩
 ·let⟨v,rfl,r⟩:=rs.one
  cases W0.mp r
  show .inr ⟨i,rfl,q _ H Ext.refl rm (VY.mpr rfl)⟩
abbrev aQ(M:Mem):D->Option (List D)
 |.tup ds=>Z ds
 |.con ds=>Z ds
 |.ref a=>match M a with
  |some (.lst ds)=>Z ds
  |_=>N2
 |_=>N2
def vD(rm:RM K M H)(r:RD K H x v)(e:aQ M x=Z ds):∃p vs,v=.ref p/\(SqL K H p vs∨SqT K H p vs)/\RDs K H ds vs:=by
 cases x with
 |tup es=>
  cases e
  let⟨a,us,rfl,j,ru⟩:=W6 r;show⟨a,us,rfl,.inr j,ru⟩
 |con es=>
  cases e
  let⟨a,us,rfl,j,ru⟩:=W3.mp r;show⟨a,us,rfl,.inl j.sq,ru⟩
 |ref a=>
  cases VZ.mp r
  simp only[aQ]at e
  cases e0:M a with
  |none=>rw[e0]at e;cases e
  |some o=>
   rw[e0]at e
   cases o with
   |dct _ _=>cases e
   |fdc _=>cases e
   |dcn _=>cases e
   |fdn _=>cases e
   |lst es=>
    cases e
    let⟨us,j,ru⟩:=rm _ _ e0;show⟨a,us,rfl,.inl (SqL.of j),ru⟩
 |_=>cases e
abbrev nK:RAd:=λxs M Q=>∃x ds,xs=[x]/\aQ M x=Z ds/\∀p,M p=N2->Q (.ref p) (ag M p (.lst ds))
abbrev gU:RAd:=λxs M Q=>∃x ds,xs=[x]/\aQ M x=Z ds/\Q (.tup ds) M
def mJ:aV nK:=λ_ _ _ _ h j=>(by let⟨x,ds,e,l,q⟩:=j;show⟨x,ds,e,l,λp n=>h _ _ (q p n)⟩)
def jV:aV gU:=λ_ _ _ _ h j=>(by let⟨x,ds,e,l,q⟩:=j;show⟨x,ds,e,l,h _ _ q⟩)
def qZ:CallR X (.type "list") (lR X.K nK):=by calc CallR.of oD λvs H Q h=>?_;let⟨ds,M,rm,rs,x,es,rfl,l,q⟩:=h;let⟨v,rfl,r⟩:=rs.one;let⟨p,us,rfl,sq,ru⟩:=vD rm r l;show⟨p,us,rfl,sq,λl' n=>cO rm ru q n⟩
def ph:CallR X (.type "tuple") (lR X.K gU):=by
 calc CallR.of nH λvs H Q h=>?_;let⟨ds,M,rm,rs,x,es,rfl,l,q⟩:=h;let⟨v,rfl,r⟩:=rs.one
 cases x with
 |tup ds'=>
  cases l
  let⟨a,us,rfl,j,ru⟩:=W6 r;show⟨a,us,rfl,.inr ⟨j,q _ H Ext.refl rm r⟩⟩
 |con ds'=>
  cases l
  let⟨a,us,rfl,j,ru⟩:=W3.mp r;show⟨a,us,rfl,.inl ⟨j.sq,λl' n=>dQ rm ru q n⟩⟩
 |ref a=>
  cases VZ.mp r
  simp only[aQ]at l
  cases e0:M a with
  |none=>rw[e0]at l;cases l
  |some o=>
   rw[e0]at l
   cases o with
   |dct _ _=>cases l
   |fdc _=>cases l
   |dcn _=>cases l
   |fdn _=>cases l
   |lst es'=>
    cases l
    let⟨us,j,ru⟩:=rm _ _ e0;show⟨a,us,rfl,.inl ⟨SqL.of j,λl' n=>dQ rm ru q n⟩⟩
 |_=>cases l
end
end
variable{e:Expr}{tA:TTd}
section
section
variable{X:Cx}
abbrev tL(M:Mem):D->Option Bool
 |.non=>Z Wj
 |.bl b=>Z b
 |.int i=>Z (i != 0)
 |.tup ds=>Z (!ds.isEmpty)
 |.con ds=>Z (!ds.isEmpty)
 |.ref a=>match M a with
  |some (.lst ds)=>Z (!ds.isEmpty)
  |_=>N2
 |_=>N2
abbrev tM(t:TEd):TTd:=λρ M Q=>t ρ M λx M1=>∃b,tL M1 x=Z b/\Q b M1
def yA{t:TEd}(h:ae t):aM (tM t):=λρ M Q Q' i q=>h _ _ _ _ (λx B j=>(by let⟨k,e,z⟩:=j;show⟨k,e,i _ _ z⟩)) q
def Dg{b:Bool}(rm:RM K M H)(r:RD K H x v)(e:tL M x=Z b):xS K v H b:=by
 let emp:∀{ds:List D} {vs:List V},RDs K H ds vs->(!ds.isEmpty) = !vs.isEmpty:=λ{ds vs} h=>by
  let l:=h.length
  cases ds<;>cases vs<;>first|rfl|(simp at l)
 cases x with
 |non=>cases e;cases W5.mp r;rfl
 |bl k=>cases e;cases W0.mp r;rfl
 |int i=>cases e;cases VY.mp r;rfl
 |tup ds=>
  cases e
  let⟨a,vs,rfl,j,rs⟩:=W6 r;show .inr (.inl ⟨vs,j,emp rs⟩)
 |con ds=>
  cases e
  let⟨a,vs,rfl,j,rs⟩:=W3.mp r;show .inl ⟨vs,j.sq,emp rs⟩
 |ref a=>
  cases VZ.mp r
  simp only[tL]at e
  cases e0:M a with
  |none=>rw[e0]at e;cases e
  |some o=>
   rw[e0]at e
   cases o with
   |dct _ _=>cases e
   |fdc _=>cases e
   |dcn _=>cases e
   |fdn _=>cases e
   |lst ds=>
    cases e
    let⟨vs,j,rs⟩:=rm _ _ e0;show .inl ⟨vs,SqL.of j,emp rs⟩
 |str _=>cases e
 |fn _=>cases e
variable{a b:Expr}{ta tb:TEd}{pos:Pos}
def Dh(m:ae ta)(B:PE X a (lE X.K ta))(he:∀whole,isTrue a X.env whole=(do let v <-whole;RT a.pos;holding [v] (truthy v))):PT X a (lT X.K (tM ta)):=by calc PT.imp (xT B he) λσ H Q h=>?_;let⟨ρ,M,rs,rm,q⟩:=h;show⟨ρ,M,rs,rm,m _ _ _ _ (λx L F v H1 G j z=>(by let⟨k,e,J⟩:=F;show⟨k,Dg j z e,J H1 G j⟩)) q⟩
abbrev nL(t:TTd):TTd:=λρ M Q=>t ρ M λc M1=>Q (!c) M1
def vE{t:TTd}(h:aM t):aM (nL t):=λρ M Q Q' i q=>h _ _ _ _ (λc z j=>i _ _ j) q
def Di(m:aM tA)(j:PT X a (lT X.K tA)):PT X (.UnaryOp .Not a pos) (lT X.K (nL tA)):=by calc PT.imp (Ct j) λσ H Q h=>?_;let⟨ρ,M,rs,rm,q⟩:=h;show⟨ρ,M,rs,rm,m _ _ _ _ (λc B z=>z) q⟩
abbrev nM(t u:TTd):TTd:=λρ M Q=>t ρ M λc M1=>if c=Wi then u ρ M1 Q else Q Wj M1
abbrev tN(t u:TTd):TTd:=λρ M Q=>t ρ M λc M1=>if c=Wi then Q Wi M1 else u ρ M1 Q
def vF{t u:TTd}(h:aM t)(k:aM u):aM (nM t u):=λρ M Q Q' i q=>h _ _ _ _ (λc z j=>by
 cases c with
 |true=>rw[if_pos rfl]at j⊢;show k _ _ _ _ i j
 |false=>rw[if_neg Lg]at j⊢;show i _ _ j) q
def yB{t u:TTd}(h:aM t)(k:aM u):aM (tN t u):=λρ M Q Q' i q=>h _ _ _ _ (λc z j=>by
 cases c with
 |true=>rw[if_pos rfl]at j⊢;show i _ _ j
 |false=>rw[if_neg Lg]at j⊢;show k _ _ _ _ i j) q
def B8(j:PT X a (lT X.K tA)):PW X (.BoolOp .And [a] pos) (lT X.K tA):=Ay j
def Dj(j:PT X a (lT X.K tA)):PW X (.BoolOp .Or [a] pos) (lT X.K tA):=Cq j
def Dl{tB:TTd}{rest:List Expr}(mA:aM tA)(mB:aM tB)(F:PT X a (lT X.K tA))(G:PW X (.BoolOp .And (b::rest) pos) (lT X.K tB)):PW X (.BoolOp .And (a::b::rest) pos) (lT X.K (nM tA tB)):=by
 calc PW.imp (Cr F G) λσ H Q h=>?_;let⟨ρ,M,rs,rm,q⟩:=h;refine⟨ρ,M,rs,rm,mA _ _ _ _ (λc J z H1 B j=>?_) q⟩
 cases c with
 |true=>rw[if_pos rfl]at z⊢;show⟨ρ,J,rs.mono (B.stab rm),j,mB _ _ _ _ (λd M2 k=>k.ext B) z⟩
 |false=>rw[if_neg Lg]at z⊢;show z H1 B j
def F9{tB:TTd}{rest:List Expr}(mA:aM tA)(mB:aM tB)(F:PT X a (lT X.K tA))(G:PW X (.BoolOp .Or (b::rest) pos) (lT X.K tB)):PW X (.BoolOp .Or (a::b::rest) pos) (lT X.K (tN tA tB)):=by
 calc PW.imp (ED F G) λσ H Q h=>?_;let⟨ρ,M,rs,rm,q⟩:=h;refine⟨ρ,M,rs,rm,mA _ _ _ _ (λc J z H1 B j=>?_) q⟩
 cases c with
 |true=>rw[if_pos rfl]at z⊢;show z H1 B j
 |false=>rw[if_neg Lg]at z⊢;show⟨ρ,J,rs.mono (B.stab rm),j,mB _ _ _ _ (λd M2 k=>k.ext B) z⟩
abbrev nN(ta tb:TEd):TEd:=λρ M Q=>ta ρ M λx M1=>∃c,x=.bl c/\if c=Wi then tb ρ M1 Q else Q (.bl Wj) M1
abbrev tO(ta tb:TEd):TEd:=λρ M Q=>ta ρ M λx M1=>∃c,x=.bl c/\if c=Wi then Q (.bl Wi) M1 else tb ρ M1 Q
abbrev nO(ta:TEd):TEd:=λρ M Q=>ta ρ M λx M1=>∃c,x=.bl c/\Q (.bl (!c)) M1
def vG(h:ae ta)(k:ae tb):ae (nN ta tb):=λρ M Q Q' i q=>h _ _ _ _ (λx z ⟨c,e,j⟩=>⟨c,e,by
 cases c with
 |true=>rw[if_pos rfl]at j⊢;show k _ _ _ _ i j
 |false=>rw[if_neg Lg]at j⊢;show i _ _ j⟩) q
def yC(h:ae ta)(k:ae tb):ae (tO ta tb):=λρ M Q Q' i q=>h _ _ _ _ (λx z ⟨c,e,j⟩=>⟨c,e,by
 cases c with
 |true=>rw[if_pos rfl]at j⊢;show i _ _ j
 |false=>rw[if_neg Lg]at j⊢;show k _ _ _ _ i j⟩) q
def vH(h:ae ta):ae (nO ta):=λρ M Q Q' i q=>h _ _ _ _ (λx B j=>(by let⟨c,e,z⟩:=j;show⟨c,e,i _ _ z⟩)) q
def vI{op:BoolOp}{t:TEd}(h:PE X a (lE X.K t)):PE X (.BoolOp op [a] pos) (lE X.K t):=Cu h
def Dm{rest:List Expr}(ma:ae ta)(mb:ae tb)(G:PE X a (lE X.K ta))(J:PE X (.BoolOp .And (b::rest) pos) (lE X.K tb)):PE X (.BoolOp .And (a::b::rest) pos) (lE X.K (nN ta tb)):=by
 calc PE.imp (Cw G J) λσ H Q h=>?_;let⟨ρ,M,rs,rm,q⟩:=h;calc⟨ρ,M,rs,rm,ma _ _ _ _ (λx L g9 v H1 B j F=>?_) q⟩;let⟨c,e,z⟩:=g9;subst e;refine⟨c,W0.mp F,?_⟩
 cases c with
 |true=>rw[if_pos rfl]at z⊢;show⟨ρ,L,rs.mono (B.stab rm),j,mb _ _ _ _ (λd M2 k=>k.ext B) z⟩
 |false=>rw[if_neg Lg]at z⊢;show z _ H1 B j (W0.mpr rfl)
def Fa{rest:List Expr}(ma:ae ta)(mb:ae tb)(G:PE X a (lE X.K ta))(J:PE X (.BoolOp .Or (b::rest) pos) (lE X.K tb)):PE X (.BoolOp .Or (a::b::rest) pos) (lE X.K (tO ta tb)):=by
 calc PE.imp (EG G J) λσ H Q h=>?_;let⟨ρ,M,rs,rm,q⟩:=h;calc⟨ρ,M,rs,rm,ma _ _ _ _ (λx L g9 v H1 B j F=>?_) q⟩;let⟨c,e,z⟩:=g9;subst e;refine⟨c,W0.mp F,?_⟩
 cases c with
 |true=>rw[if_pos rfl]at z⊢;show z _ H1 B j (W0.mpr rfl)
 |false=>rw[if_neg Lg]at z⊢;show⟨ρ,L,rs.mono (B.stab rm),j,mb _ _ _ _ (λd M2 k=>k.ext B) z⟩
def Dn(ma:ae ta)(B:PE X a (lE X.K ta)):PE X (.UnaryOp .Not a pos) (lE X.K (nO ta)):=by calc PE.imp (Cy B) λσ H Q h=>?_;let⟨ρ,M,rs,rm,q⟩:=h;calc⟨ρ,M,rs,rm,ma _ _ _ _ (λx J g9 v H1 G j z=>?_) q⟩;let⟨c,e,F⟩:=g9;subst e;show⟨c,W0.mp z,F _ H1 G j (W0.mpr rfl)⟩
abbrev wIf(t:TTd)(ta tb:TEd):TEd:=λρ M Q=>t ρ M λc M1=>if c=Wi then ta ρ M1 Q else tb ρ M1 Q
def B9{t:TTd}(h:aM t)(z:ae ta)(B:ae tb):ae (wIf t ta tb):=λρ M Q Q' i q=>h _ _ _ _ (λc F j=>by
 cases c with
 |true=>rw[if_pos rfl]at j⊢;show z _ _ _ _ i j
 |false=>rw[if_neg Lg]at j⊢;show B _ _ _ _ i j) q
def Fb{c:Expr}{t:TTd}(mt:aM t)(ma:ae ta)(mb:ae tb)(G:PT X c (lT X.K t))(J:PE X a (lE X.K ta))(L:PE X b (lE X.K tb)):PE X (.IfExp c a b pos) (lE X.K (wIf t ta tb)):=by
 calc PE.imp (xK G J L) λσ H Q h=>?_;let⟨ρ,M,rs,rm,q⟩:=h;refine⟨ρ,M,rs,rm,mt _ _ _ _ (λx F z H1 B j=>?_) q⟩
 cases x with
 |true=>rw[if_pos rfl]at z⊢;show⟨ρ,F,rs.mono (B.stab rm),j,ma _ _ _ _ (λd M2 k=>k.ext B) z⟩
 |false=>rw[if_neg Lg]at z⊢;show⟨ρ,F,rs.mono (B.stab rm),j,mb _ _ _ _ (λd M2 k=>k.ext B) z⟩
abbrev eK(xs:List D)(lo hi:Option Int):List D:=(xs.drop (HT.sIx xs.length 0 lo)).take (HT.sIx xs.length xs.length hi-HT.sIx xs.length 0 lo)
def pi(r:RDs K H ds vs)(lo hi:Option Int):RDs K H (eK ds lo hi) (gP vs lo hi):=by unfold eK gP;rw[r.length];show(r.drop _).take _
noncomputable abbrev TOd:=ar->Mem->(Option Int->Mem->Prop)->Prop
abbrev fY(T:TOd):Prop:=∀ρ M Q Q',(∀d M',Q d M'->Q' d M')->T ρ M Q->T ρ M Q'
abbrev iz:TOd:=λ_ M Q=>Q N2 M
abbrev nP(t:TEd):TOd:=λρ M Q=>t ρ M λx M1=>∃i,x=.int i/\Q (Z i) M1
def r6:fY iz:=λ_ _ _ _ h q=>h _ _ q
def vJ(h:ae ta):fY (nP ta):=λρ M Q Q' i q=>h _ _ _ _ (λx B j=>(by let⟨c,e,z⟩:=j;show⟨c,e,i _ _ z⟩)) q
abbrev lO(K:Frag)(T:TOd):TO:=λσ H Q=>∃ρ M,RS K H σ ρ/\RM K M H/\T ρ M (λo M'=>∀H',Ext M H M' H'->RM K M' H'->Q o H')
def Ba:PO X N2 (lO X.K iz):=λpins s σ H Q I h=>by let⟨ρ,M,rs,rm,q⟩:=h;show AK pins s σ H Q I (q H Ext.refl rm)
def Bb(m:ae ta)(h:PE X e (lE X.K ta)):PO X (Z e) (lO X.K (nP ta)):=λpins s σ H Q I hq=>by let⟨ρ,M,rs,rm,q⟩:=hq;calc AL h pins s σ H Q I ⟨ρ,M,rs,rm,m _ _ _ _ (λx G g9 v H1 F j z=>?_) q⟩;let⟨i,e,B⟩:=g9;subst e;show⟨i,VY.mp z,B H1 F j⟩
abbrev cJ:D->Option Int->Option Int->Mem->QD->Prop:=λx lo hi M Q=>match x with
 |.tup ds=>Q (.tup (eK ds lo hi)) M
 |.ref a=>∃ds,M a=Z (.lst ds)/\∀p,M p=N2->Q (.ref p) (ag M p (.lst (eK ds lo hi)))
 |.con ds=>∀p,M p=N2->Q (.ref p) (ag M p (.lst (eK ds lo hi)))
 |_=>False
abbrev wSl(te:TEd)(tl th:TOd):TEd:=λρ M Q=>te ρ M λx M1=>tl ρ M1 λl M2=>th ρ M2 λu M3=>cJ x l u M3 Q
def tP{lo hi:Option Int}{Q Q':QD}(h:∀d M',Q d M'->Q' d M')(q:cJ x lo hi M Q):cJ x lo hi M Q':=by
 cases x with
 |tup ds=>show h _ _ q
 |ref a=>let⟨ds,e,q⟩:=q;show⟨ds,e,λp n=>h _ _ (q p n)⟩
 |con ds=>showλp n=>h _ _ (q p n)
 |_=>show q.elim
def Bc{tl th:TOd}(m:ae ta)(ml:fY tl)(mh:fY th):ae (wSl ta tl th):=λρ M Q Q' i q=>m _ _ _ _ (λx F j=>ml _ _ _ _ (λl M2 z=>mh _ _ _ _ (λu G B=>tP i B) z) j) q
def Fd{lo hi:Option Expr}{tl th:TOd}{p2:Pos}(m:ae ta)(ml:fY tl)(mh:fY th)(he:PE X e (lE X.K ta))(hl:PO X lo (lO X.K tl))(hu:PO X hi (lO X.K th)):
 PE X (.Subscript e (.Slice lo hi N2 p2) pos) (lE X.K (wSl ta tl th)):=by
 calc PE.imp (xY (sl_tup.or (sl_list.or ya)) he hl hu) λσ H Q h=>?_;let⟨ρ,M,rs,rm,q⟩:=h;calc⟨ρ,M,rs,rm,m _ _ _ _ (λx M1 q1 v H1 O G U=>?_) q⟩;calc⟨ρ,M1,rs.mono (O.stab rm),G,ml _ _ _ _ (λl M2 q2 H2 Y L=>?_) q1⟩;calc⟨ρ,M2,(rs.mono (O.stab rm)).mono (Y.stab G),L,mh _ _ _ _ (λu M3 z H3 fv j=>?_) q2⟩;let B:=O.trans (Y.trans fv);let F:=(U.mono (Y.stab G)).mono (fv.stab L)
 cases x with
 |tup ds=>
  let⟨a,vs,rfl,J,r⟩:=W6 F
  by_cases hw:HT.sIx vs.length 0 l=0/\HT.sIx vs.length vs.length u=vs.length
  ·calc .inr (.inr ⟨a,vs,rfl,J,hw,?_⟩);let e:eK ds l u=ds:=by
    unfold eK;rw[<-r.length,hw.1,hw.2,r.length];simp
   simp only[cJ]at z;rw[e]at z;show z.ext B _ H3 Ext.refl j F
  ·simp only[cJ]at z;show .inl ⟨a,vs,rfl,J,hw,λp n=>dQ j (pi r l u) (z.ext B) n⟩
 |ref a=>
  cases VZ.mp F
  let⟨ds,e,z⟩:=z;let⟨vs,J,r⟩:=j _ _ e;show .inr (.inl ⟨a,vs,rfl,SqL.of J,λp n=>cO j (pi r l u) (λp' n'=>(z p' n').ext B) n⟩)
 |con ds=>let⟨a,vs,rfl,J,r⟩:=W3.mp F;show .inr (.inl ⟨a,vs,rfl,J.sq,λp n=>cO j (pi r l u) (λp' n'=>(z p' n').ext B) n⟩)
 |_=>show z.elim
end
end
variable{i:Nat}{ta to:TEd}{pos:Pos}{tg:Expr}{H1:Hp}
section
section
variable{X:Cx}
abbrev tyN(M:Mem):D->Option String
 |.non=>Z "NoneType"
 |.bl _=>Z "bool"
 |.int _=>Z "int"
 |.str _=>Z "str"
 |.tup _=>Z "tuple"
 |.ref a=>match M a with
  |some (.lst _)=>Z "list"
  |some (.dct _ _)=>Z "dict"
  |_=>N2
 |.con _=>N2
 |.fn _=>N2
abbrev yD(T t:String):Bool:=t==T || (t=="bool"&&T=="int")
def Fe{t:String}(rm:RM K M H)(r:RD K H x v)(e:tyN M x=Z t):cG K H v (.type t):=by
 cases x with
 |non=>cases e;cases W5.mp r;show .non
 |bl k=>cases e;cases W0.mp r;show .bl k
 |int i=>cases e;cases VY.mp r;show .int i
 |str i=>cases e;cases W4.mp r;show .str i
 |tup ds=>
  cases e
  let⟨a,vs,rfl,j,rs⟩:=W6 r;show .tup j
 |con ds=>cases e
 |fn _=>cases e
 |ref a=>
  cases VZ.mp r
  simp only[tyN]at e
  cases e0:M a with
  |none=>rw[e0]at e;cases e
  |some o=>
   rw[e0]at e
   cases o with
   |lst ds=>
    cases e
    let⟨vs,j,rs⟩:=rm _ _ e0;show .lst j
   |dct t kvs=>
    cases e
    let ro:=rm _ _ e0
    cases t with
    |false=>let⟨ps,j,_⟩:=ro;show .dK j
    |true=>let⟨ps,j,_⟩:=ro;show .dT j
   |fdc kvs=>cases e
   |dcn _=>cases e
   |fdn _=>cases e
abbrev dR:List String:=["NoneType","bool","int","str","tuple","list","dict"]
def Be(K:Frag):∀T∈["bool","int","str","tuple","list","dict"],∀t∈dR,PySem.W.kitOne K (.type t) (.type T)=Z (yD T t):=by
 intro T j t q;simp only[dR,Lm,Me,or_false]at j q
 rcases j with rfl|rfl|rfl|rfl|rfl|rfl<;>rcases q with rfl|rfl|rfl|rfl|rfl|rfl|rfl<;>rfl
abbrev nQ(T:String)(ta:TEd):TEd:=λρ M Q=>ta ρ M λx M1=>∃t,tyN M1 x=Z t/\Q (.bl (yD T t)) M1
def vK{T:String}(h:ae ta):ae (nQ T ta):=λρ M Q Q' i q=>h _ _ _ _ (λx B j=>(by let⟨t,e,z⟩:=j;show⟨t,e,i _ _ z⟩)) q
def Bf{t:String}(e:tyN M x=Z t):t∈dR:=by
 cases x with
 |ref a=>
  simp only[tyN]at e
  cases e0:M a with
  |none=>rw[e0]at e;cases e
  |some o=>rw[e0]at e;cases o<;>cases e<;>simp[dR]
 |con _=>cases e
 |fn _=>cases e
 |_=>cases e;simp[dR]
def vL(T:String)(j:T∈["bool","int","str","tuple","list","dict"]):CallR X (.builtin "isinstance") (λvs H Q=>∃v t,vs=[v,.ty T]/\cG X.K H v (.type t)/\t∈dR/\Q (.bl (yD T t)) H):=by
 intro pins s σ H xs us Q I r h;let⟨v,t,rfl,ty,z,q⟩:=h;let⟨u,c,rfl,ru,rc⟩:=tj r
 cases rc
 show v8 I ru ty (Be X.K T j t z) λtk=>⟨.bl _,H,I.tok tk,rfl,q⟩
def Bg{T:String}{y:Str}{p p2:Pos}(L:T∈["bool","int","str","tuple","list","dict"])(m:ae ta)(he:PE X e (lE X.K ta))(O:Gl X "isinstance")(hm:X.mg "isinstance"=N2)(z:Gl X y)(B:X.mg y=N2)(U:Ph y=Z (.type T))(Y:y≠"__name__")(F:(y==("__debug__":Str))=Wj)(hs:LQ [e,.Name y p2] X.env=(Wj,eval e X.env)::LQ [.Name y p2] X.env)(G:(Qe pos (LQ [.Name y p2] X.env)).any (·.1)=Wj):
 PE X (.Call (.Name "isinstance" p) [e,.Name y p2] [] pos) (lE X.K (nQ T ta)):=by
 let h2:PE X (.Name y p2) (tC (.ty T)):=Ax z B U rfl Y F;refine PE.imp (bS (vL T L) O hm (by decide +kernel) (kR he (kR h2 v9 rfl) hs) (·) (·) hs G) λσ H Q h=>?_
 let⟨ρ,M,rs,rm,q⟩:=h;show⟨ρ,M,rs,rm,m _ _ _ _ (λx M1 fv v H1 x1 j J=>(by let⟨t,e,q1⟩:=fv;show⟨v,t,rfl,Fe j J e,Bf e,q1 _ H1 x1 j (W0.mpr rfl)⟩)) q⟩
abbrev wBM(rd:D->List D->Mem->QD->Prop)(to:TEd)(t:TAd):TEd:=λρ M Q=>to ρ M λx M1=>(∃a xs,x=.ref a/\M1 a=Z (.lst xs))/\t ρ M1 λds M2=>rd x ds M2 Q
abbrev eX(rd:D->List D->Mem->QD->Prop):Prop:=∀x ds M Q Q',(∀d M',Q d M'->Q' d M')->rd x ds M Q->rd x ds M Q'
def rM{rd:D->List D->Mem->QD->Prop}{t:TAd}(j:eX rd)(mo:ae to)(mt:bj t):ae (wBM rd to t):=λρ M Q Q' i q=>mo _ _ _ _ (λx G z=>(by let⟨e,B⟩:=z;show⟨e,mt _ _ _ _ (λds M2 F=>j _ _ _ _ _ i F) B⟩)) q
def A7(rm:RM K M H)(r:RD K H x v)(h:∃a xs,x=.ref a/\M a=Z (.lst xs)):tyV K "list" v H:=by
 let⟨a,xs,rfl,e⟩:=h
 cases VZ.mp r
 let⟨vs,j,_⟩:=rm _ _ e;show .inl ⟨rfl,vs,SqL.of j⟩
def rN{rd:D->List D->Mem->QD->Prop}{r:V->List V->Hp->VK->Prop}{t:TAd}(L:eX rd)(mo:ae to)(mt:bj t)(O:∀v vs H Q,lMt K rd v vs H Q->r v vs H Q)(σ:St)(H:Hp)(Q:VK)(h:lE K (wBM rd to t) σ H Q):tBM K "list" r (lE K to) (lA K t) σ H Q:=by let⟨ρ,M,rs,rm,q⟩:=h;calc⟨ρ,M,rs,rm,mo _ _ _ _ (λx U ⟨e,Y⟩ v H1 G j z=>⟨A7 j z e,?_⟩) q⟩;calc⟨ρ,U,rs.mono (G.stab rm),j,mt _ _ _ _ (λds M2 fv vs H2 J B F=>?_) Y⟩;show O v vs H2 Q ⟨x,ds,M2,B,z.mono (J.stab j),F,L _ _ _ _ _ (λd M' k=>k.ext (G.trans J)) fv⟩
def yE{rd:D->List D->Mem->QD->Prop}{r:V->List V->Hp->VK->Prop}(B:eX rd)(mo:ae to)(F:∀v vs H Q,lMt K rd v vs H Q->r v vs H Q)(σ:St)(H:Hp)(Q:VK)(h:lE K (wBM rd to bx) σ H Q):CV K "list" r (lE K to) σ H Q:=by let⟨ρ,M,rs,rm,q⟩:=h;calc⟨ρ,M,rs,rm,mo _ _ _ _ (λx G ⟨e,J⟩ v H1 L j z=>⟨A7 j z e,?_⟩) q⟩;show F v [] H1 Q ⟨x,[],G,j,z,RDs.nil,B _ _ _ _ _ (λd M' k=>k.ext L) J⟩
abbrev iA:D->List D->Mem->QD->Prop:=λx ds M Q=>∃a xs y,x=.ref a/\ds=[y]/\M a=Z (.lst xs)/\xs.length<Lf/\Q .non (ag M a (.lst (xs++[y])))
abbrev iB:D->List D->Mem->QD->Prop:=λx ds M Q=>∃a b xs ys,x=.ref a/\ds=[.ref b]/\M a=Z (.lst xs)/\M b=Z (.lst ys)/\xs.length+ys.length<=Lf/\Q .non (ag M a (.lst (xs++ys)))
abbrev jW:D->List D->Mem->QD->Prop:=λx ds M Q=>∃a xs,x=.ref a/\ds=[]/\M a=Z (.lst xs)/\Q .non (ag M a (.lst []))
def j8:eX iA:=λ_ _ _ _ _ h j=>(by let⟨a,xs,y,B,F,G,z,q⟩:=j;show⟨a,xs,y,B,F,G,z,h _ _ q⟩)
def j9:eX iB:=λ_ _ _ _ _ h j=>(by let⟨a,b,xs,y,B,F,G,J,z,q⟩:=j;show⟨a,b,xs,y,B,F,G,J,z,h _ _ q⟩)
def jX:eX jW:=λ_ _ _ _ _ h j=>(by let⟨a,xs,z,B,F,q⟩:=j;show⟨a,xs,z,B,F,h _ _ q⟩)
def lf{o0:O}(rm:RM K M H)(m:M a=Z o0)(rd:RDs K H ds vs)(r:RD K H d v)(q:KE' K M H Q d (ag M a (.lst ds)))(w:fz (Z o0)=Wj:=by rfl):
 Q v (upd H a (.lst vs)):=by
 let st:Stab H (upd H a (.lst vs)):=rm.stabPut m w;show q v _ (Ext.put m w) (rm.put m ⟨vs,aA,rd.mono st⟩ w) (r.mono st)
def yF(v:V)(vs:List V)(H:Hp)(Q:VK)(h:lMt K iA v vs H Q):rG v vs H Q:=by
 let⟨x,ds,M,rm,rx,rs,a,xs,y,rfl,rfl,e,z,q⟩:=h
 cases VZ.mp rx
 let⟨w,rfl,rw'⟩:=rs.one;let⟨us,j,ru⟩:=rm _ _ e;show⟨a,us,w,rfl,rfl,j,by rw[ru.length];show z,lf rm e (ru.append (RDs.cons rw' RDs.nil)) (W5.mpr rfl) q⟩
def yG(v:V)(vs:List V)(H:Hp)(Q:VK)(h:lMt K iB v vs H Q):rH v vs H Q:=by
 let⟨x,ds,M,rm,rx,rs,a,b,xs,y,rfl,rfl,e,B,z,q⟩:=h
 cases VZ.mp rx
 let⟨w,rfl,rw'⟩:=rs.one
 cases VZ.mp rw'
 let⟨us,F,ru⟩:=rm _ _ e;let⟨ws,G,j⟩:=rm _ _ B;let l1:=ru.length;let l2:=j.length;show⟨a,b,us,ws,rfl,rfl,F,G,∅,lf rm e (ru.append j) (W5.mpr rfl) q⟩
def Bh(v:V)(vs:List V)(H:Hp)(Q:VK)(h:lMt K jW v vs H Q):vg v vs H Q:=by
 let⟨x,ds,M,rm,rx,rs,a,xs,rfl,rfl,e,q⟩:=h
 cases VZ.mp rx
 let⟨us,j,ru⟩:=rm _ _ e;show⟨a,us,rfl,RDs.nil_iff.mp rs,j,lf rm e RDs.nil (W5.mpr rfl) q⟩
noncomputable abbrev BT:=D->ar->Option ar
noncomputable abbrev BTs:=List D->ar->Option ar
abbrev bb(i:Nat):BT:=λd ρ=>Z (ρ.set i (Z d))
abbrev fZ:BTs:=λds ρ=>match ds with|[]=>Z ρ|_=>N2
abbrev bM(b:BT)(bs:BTs):BTs:=λds ρ=>match ds with|d::r=>(b d ρ).bind λρ'=>bs r ρ'|[]=>N2
abbrev pj(bs:BTs):BT:=λd ρ=>match d with|.tup ds=>bs ds ρ|_=>N2
abbrev lG(K:Frag)(b:BT):TG:=λv σ H Q=>∃d ρ ρ',RD K H d v/\RS K H σ ρ/\b d ρ=Z ρ'/\∀σ',RS K H σ' ρ'->Q σ' H
abbrev lGs(K:Frag)(b:BTs):TGs:=λvs σ H Q=>∃ds ρ ρ',RDs K H ds vs/\RS K H σ ρ/\b ds ρ=Z ρ'/\∀σ',RS K H σ' ρ'->Q σ' H
def PG.imp{t t':TG}(h:PG X e t)(i:∀v σ H Q,t' v σ H Q->t v σ H Q):PG X e t':=λpins s σ H v u Q I r q=>h pins s σ H v u Q I r (i _ _ _ _ q)
def PGs.imp{e:List Expr}{t t':TGs}(h:PGs X e t)(i:∀v σ H Q,t' v σ H Q->t v σ H Q):PGs X e t':=λpins s σ H v u Q I r q=>h pins s σ H v u Q I r (i _ _ _ _ q)
def Bi{x:Str}(j:X.N.Nodup)(hi:X.N[i]?=Z x)(hx:Loc X.env.scope x)(hf:X.fn x=Wi∨X.env.scope.names.lookup x=Z .local):PG X (.Name x pos) (lG X.K (bb i)):=
 PG.imp (rB j hi hx hf) λv σ H Q ⟨d,ρ,ρ',r,rs,e,q⟩=>by
  cases e
  show q _ (rs.set i r)
def Bj:PGs X [] (lGs X.K fZ):=PGs.imp AC λvs σ H Q ⟨ds,ρ,ρ',r,rs,e,q⟩=>by
 cases ds with
 |nil=>cases e;show⟨RDs.nil_iff.mp r,q σ rs⟩
 |cons _ _=>cases e
def yH{es:List Expr}{b:BT}{bs:BTs}(h1:PG X e (lG X.K b))(h2:PGs X es (lGs X.K bs))(hs:(O8 (e::es) X.env).map (·.2)=assign e X.env::(O8 es X.env).map (·.2)):
 PGs X (e::es) (lGs X.K (bM b bs)):=PGs.imp (xN h1 h2 hs) λvs σ H Q ⟨ds,ρ,ρ',r,rs,e,q⟩=>by
 cases ds with
 |nil=>cases e
 |cons d ds=>
  let⟨v,vr,rfl,z,B⟩:=W1.mp r;simp only[bM]at e
  cases j:b d ρ with
  |none=>rw[j]at e;cases e
  |some ρ1=>rw[j]at e;show⟨v,vr,rfl,d,ρ,ρ1,z,rs,j,λσ' rs'=>⟨ds,ρ1,ρ',B,rs',e,q⟩⟩
def Do{es:List Expr}{k:Nat}{bs:BTs}{n:Nat}(z:X.calm=Wi)(hlen:∀ds ρ ρ',bs ds ρ=Z ρ'->ds.length=n)(h:PGs X es (lGs X.K bs))(B:(O8 es X.env).length=n)(j:(O8 es X.env).findIdx? (·.1)=N2):
 PG X (.Tuple es k pos) (lG X.K (pj bs)):=PG.imp (CD z h B j) λv σ H Q ⟨d,ρ,ρ',r,rs,e,q⟩=>by
 cases d with
 |tup ds=>let⟨a,vs,rfl,F,rv⟩:=W6 r;show⟨a,vs,rfl,F,by rw[rv.length];show hlen _ _ _ e,ds,ρ,ρ',rv,rs,e,q⟩
 |_=>cases e
noncomputable abbrev TId:=ar->Mem->(List D->(Mem->Prop)->Mem->Prop)->Prop
abbrev cn(T:TId):Prop:=∀ρ M Q Q',(∀xs c M',Q xs c M'->Q' xs c M')->T ρ M Q->T ρ M Q'
abbrev Yl(H H':Hp):Prop:=H'=H∨∃q vs,H q=N2/\H'=upd H q (.tup vs)
abbrev gW(K:Frag)(H1:Hp)(xs:List D)(chk:Mem->Prop)(J:It):Prop:=∀M H,Stab H1 H->RM K M H->chk M->∀i,(xs.length<=i->J.stop i H)/\(i<xs.length->J.go i H /\
 ∀x H',J.yld i H x H'->Yl H H'/\∃d,xs[i]?=Z d/\RD K H' d x)
abbrev lI(K:Frag)(T:TId):TI:=λσ H R=>∃ρ M,RS K H σ ρ/\RM K M H/\T ρ M (λxs chk M1=>∀J H1,Ext M H M1 H1->RM K M1 H1->gW K H1 xs chk J->R J H1)
def PI.imp{t t':TI}(h:PI X tg e t)(i:∀σ H Q,t' σ H Q->t σ H Q):PI X tg e t':=λpins s σ H Q I q=>h pins s σ H Q I (i _ _ _ q)
def Yl.ext{H':Hp}(rm:RM K M H)(y:Yl H H'):Ext M H M H'/\RM K M H':=by
 rcases y with rfl|⟨q,vs,n,rfl⟩
 ·show⟨Ext.refl,rm⟩
 ·show⟨W9 n,rm.new n⟩
abbrev Gi(K:Frag)(tl:TE):TI:=λσ H R=>tl σ H λx H1=>∃a,x=.ref a/\(((∃xs,SqL K H1 a xs)/\R (Itl K a) H1)∨((∃xs,SqT K H1 a xs)/\R (Itt K a) H1))
def Dp{l:Expr}{tl:TE}(F:PE X l tl):PI X tg l (Gi X.K tl):=by
 intro pins s σ H R I h;calc thn (F pins s σ H _ I h) λv s1 G=>?_;let⟨x,H1,j,J,L⟩:=G;let⟨a,e,q⟩:=L;subst e
 cases J
 rcases q with⟨⟨xs,z⟩,q⟩|⟨⟨xs,z⟩,q⟩
 ·let⟨its,rv,p,O⟩:=j.list z;calc Ot p.isList ?_;calc⟨s1.heap.objs.size,[s1.heap.objs.size],_,_,H1,rfl,j.kept (t':=s1.toks) λb o e=>D2 _ e,uV a _,⟨_,Lk _ rfl,rfl,rfl⟩,λb B=>?_,q⟩;let e:b=s1.heap.objs.size:=by simpa using B
  subst e;show j.fpOk (L9 _) (j.hok.fresh (L9 _))
 ·let⟨its,rv,p,O⟩:=j.tuple z;calc NP (show s1.heap.IsTuple a its.toArray from p) ?_;calc⟨s1.heap.objs.size,[s1.heap.objs.size],_,_,H1,rfl,j.kept (t':=s1.toks) λb o e=>D2 _ e,sZ a _,⟨_,Lk _ rfl,rfl,rfl⟩,λb B=>?_,q⟩;let e:b=s1.heap.objs.size:=by simpa using B
  subst e;show j.fpOk (L9 _) (j.hok.fresh (L9 _))
abbrev tQ(ta:TEd):TId:=λρ M R=>ta ρ M λx M1=>∃ds,aQ M1 x=Z ds/\R ds (λM=>aQ M x=Z ds) M1
def yI(h:ae ta):cn (tQ ta):=λρ M Q Q' i q=>h _ _ _ _ (λx B j=>(by let⟨ds,e,z⟩:=j;show⟨ds,e,i _ _ _ z⟩)) q
def vM{chk:Mem->Prop}(h:∀M H,Stab H1 H->RM K M H->chk M->∃vs,SqL K H a vs/\RDs K H ds vs):gW K H1 ds chk (Itl K a):=λM H st rm c i=>by
 let⟨vs,sq,r⟩:=h M H st rm c;let l:=r.length;refine⟨λhi=>⟨vs,sq,∅⟩,λhi=>⟨⟨vs,vs[i]'∅,sq,z4 ∅⟩,λx H' y=>?_⟩⟩
 let⟨e,y⟩:=y;subst e;show⟨.inl rfl,r.getV (y vs sq)⟩
def Dq{chk:Mem->Prop}(h:∀M H,Stab H1 H->RM K M H->chk M->∃vs,SqT K H a vs/\RDs K H ds vs):gW K H1 ds chk (Itt K a):=λM H st rm c i=>by
 let⟨vs,sq,r⟩:=h M H st rm c;let l:=r.length;refine⟨λhi=>⟨vs,sq,∅⟩,λhi=>⟨⟨vs,vs[i]'∅,sq,z4 ∅⟩,λx H' y=>?_⟩⟩
 let⟨e,y⟩:=y;subst e;show⟨.inl rfl,r.getV (y vs sq)⟩
def Dr{l:Expr}(m:ae ta)(G:PE X l (lE X.K ta)):PI X tg l (lI X.K (tQ ta)):=by
 calc PI.imp (Dp G) λσ H R h=>?_;let⟨ρ,M,rs,rm,q⟩:=h;calc⟨ρ,M,rs,rm,m _ _ _ _ (λx L g9 v H1 F j rd1=>?_) q⟩;let⟨ds,e,B⟩:=g9
 cases x with
 |tup es=>
  cases e
  let⟨a,vs,rfl,z,rv⟩:=W6 rd1;show⟨a,rfl,.inr ⟨⟨vs,z⟩,B _ H1 F j (Dq λM' H' st _ _=>⟨vs,st.sqT z,rv.mono st⟩)⟩⟩
 |con es=>
  cases e
  let⟨a,vs,rfl,z,rv⟩:=W3.mp rd1;show⟨a,rfl,.inl ⟨⟨vs,z.sq⟩,B _ H1 F j (vM λM' H' st _ _=>⟨vs,(st.sqF z).sq,rv.mono st⟩)⟩⟩
 |ref a=>
  cases VZ.mp rd1
  let get:∀{M':Mem} {es:List D},aQ M' (.ref a)=Z es->M' a=Z (.lst es):=λ{M' es} e=>by
   simp only[aQ]at e
   cases e0:M' a with
   |none=>rw[e0]at e;cases e
   |some o=>
    rw[e0]at e
    cases o with
    |dct _ _=>cases e
    |fdc _=>cases e
    |dcn _=>cases e
    |fdn _=>cases e
    |lst es'=>cases e;rfl
  let⟨vs,z,rv⟩:=j _ _ (get e);show⟨a,rfl,.inl ⟨⟨vs,SqL.of z⟩,B _ H1 F j (vM λM' H' st rm' c=>by let⟨us,J,ru⟩:=rm' _ _ (get c);show⟨us,SqL.of J,ru⟩)⟩⟩
 |_=>cases e
abbrev ce(lo:Int)(n:Nat):List D:=(Lc n).map λi=>.int (lo+(i:Nat))
def vN{lo:Int}{n:Nat}:gW K H1 (ce lo n) (λ_=>True) (Itr lo n):=λM H st rm c i=>by
 let l:(ce lo n).length=n:=by simp[ce]
 refine⟨λhi=>by change n<=i;lia,λhi=>⟨by change i<n;lia,λx H' y=>?_⟩⟩
 let⟨e,y⟩:=y;subst e y;calc⟨.inl rfl,.int (lo+i),?_,VY.mpr rfl⟩;simp only[ce,Lp,NY (show i<n by lia),Pu]
abbrev nR(ta:TAd):TId:=λρ M R=>ta ρ M λds M1=>∃j:Int,ds=[.int j] /\ -(2^62)<=j/\j<2^62/\R (ce 0 j.toNat) (λ_=>True) M1
abbrev nT(ta:TAd):TId:=λρ M R=>ta ρ M λds M1=>∃i j:Int,ds=[.int i,.int j]/\(-(2^62)<=i/\i<2^62 /\ -(2^62)<=j/\j<2^62)/\R (ce i (j-i).toNat) (λ_=>True) M1
def vO{ta:TAd}(h:bj ta):cn (nR ta):=λρ M Q Q' i q=>h _ _ _ _ (λx F z=>(by let⟨j,e,a,b,B⟩:=z;show⟨j,e,a,b,i _ _ _ B⟩)) q
def vP{ta:TAd}(h:bj ta):cn (nT ta):=λρ M Q Q' i q=>h _ _ _ _ (λx F z=>(by let⟨k,j,e,a,B⟩:=z;show⟨k,j,e,a,i _ _ _ B⟩)) q
def Bk{a:Expr}{ta:TAd}{p:Pos}(m:bj ta)(B:Gl X "range")(hm:X.mg "range"=N2)(F:PA X [a] (lA X.K ta))(hs:LQ [a] X.env=[(Wj,eval a X.env)]):PI X tg (.Call (.Name "range" p) [a] [] pos) (lI X.K (nR ta)):=by
 calc PI.imp (uW B hm F hs) λσ H R h=>?_;let⟨ρ,M,rs,rm,q⟩:=h;calc⟨ρ,M,rs,rm,m _ _ _ _ (λds U g9 vs H1 O z rd1=>?_) q⟩;let⟨j,e,G,J,L⟩:=g9;subst e;let⟨v,rfl,r⟩:=rd1.one
 cases VY.mp r
 show⟨j,rfl,G,J,L _ H1 O z vN⟩
def Bl{a b:Expr}{ta:TAd}{p:Pos}(m:bj ta)(G:Gl X "range")(hm:X.mg "range"=N2)(J:PA X [a,b] (lA X.K ta))(hs:LQ [a,b] X.env=[(Wj,eval a X.env),(Wj,eval b X.env)])(B:LQ [b] X.env=[(Wj,eval b X.env)]):
 PI X tg (.Call (.Name "range" p) [a,b] [] pos) (lI X.K (nT ta)):=by
 calc PI.imp (uX G hm J hs B) λσ H R h=>?_;let⟨ρ,M,rs,rm,q⟩:=h;calc⟨ρ,M,rs,rm,m _ _ _ _ (λds fv g9 vs H1 O F rd1=>?_) q⟩;let⟨i,j,e,z,L⟩:=g9;subst e;let⟨v,u,rfl,U,Y⟩:=rd1.two
 cases VY.mp U
 cases VY.mp Y
 show⟨i,j,rfl,z,L _ H1 O F vN⟩
end
end
variable{b:BT}{xs:List D}{pos':Pos}
section
section
variable{X:Cx}
abbrev isT:D->Bool|.tup _=>Wi|_=>Wj
def fC(rm:RM K M H)(r:RD K H x v)(e:aQ M x=Z ds):∃p vs,v=.ref p/\SqV K (isT x) H p vs/\RDs K H ds vs:=by
 cases x with
 |tup es=>
  cases e
  let⟨a,vs,rfl,j,rv⟩:=W6 r;show⟨a,vs,rfl,j,rv⟩
 |con es=>
  cases e
  let⟨a,vs,rfl,j,rv⟩:=W3.mp r;show⟨a,vs,rfl,j.sq,rv⟩
 |ref a=>
  cases VZ.mp r
  simp only[aQ]at e
  cases e0:M a with
  |none=>rw[e0]at e;cases e
  |some o=>
   rw[e0]at e
   cases o with
   |dct _ _=>cases e
   |fdc _=>cases e
   |dcn _=>cases e
   |fdn _=>cases e
   |lst es=>
    cases e
    let⟨vs,j,rv⟩:=rm _ _ e0;show⟨a,vs,rfl,SqL.of j,rv⟩
 |_=>cases e
abbrev gd(x y:D):D:=.tup [x,y]
abbrev lg(ta tb:TEd):TId:=λρ M R=>aP ta (aP tb bx) ρ M λds M1=>∃x y xs ys,ds=[x,y]/\aQ M1 x=Z xs/\aQ M1 y=Z ys/\R (Pm gd xs ys) (λM=>aQ M x=Z xs/\aQ M y=Z ys) M1
def yJ{tb:TEd}(j:ae ta)(z:ae tb):cn (lg ta tb):=λρ M Q Q' i q=>aw j (aw z aB) _ _ _ _ (λds L B=>(by let⟨x,y,xs,ys,e,F,G,J⟩:=B;show⟨x,y,xs,ys,e,F,G,i _ _ _ J⟩)) q
def pv{p:Wk}{o:HO}(n:H p=N2):Stab H (upd H p o):=⟨λa xs e=>by rw[am (λz=>by rw[z,n]at e;cases e)];show e,λa o u e=>by rw[am (λz=>by rw[z,n]at e;cases e)];show e⟩
def Dt{y:D}{ys:List D}{b:Wk}(rx:RD K H1 x (.ref a))(ry:RD K H1 y (.ref b)):gW K H1 (Pm gd xs ys) (λM=>aQ M x=Z xs/\aQ M y=Z ys) (Itz K (isT x) (isT y) a b):=λM H st rm c i=>by
 let⟨Y,vs,L,j,G⟩:=fC rm (rx.mono st) c.1;let⟨p2,us,O,q,J⟩:=fC rm (ry.mono st) c.2
 cases L
 cases O
 let l1:=G.length;let l2:=J.length;let lz:(Pm gd xs ys).length=min xs.length ys.length:=Rb;refine⟨λhi=>⟨vs,us,j,q,∅⟩,λhi=>⟨⟨vs,us,vs[i]'∅,us[i]'∅,j,q,z4 ∅,z4 ∅⟩,λv H' U=>?_⟩⟩
 let⟨p,v1,v2,n,rfl,rfl,g⟩:=U;let⟨g1,g2⟩:=g vs us j q;let⟨d1,z,B⟩:=G.getV g1;let⟨d2,hd2,F⟩:=J.getV g2;let sb:=pv (o:=.tup [v1,v2]) n;calc⟨.inr ⟨p,[v1,v2],n,rfl⟩,.tup [d1,d2],?_,Wa ⟨p,[v1,v2],rfl,aA,RDs.cons (B.mono sb) (RDs.cons (F.mono sb) RDs.nil)⟩⟩;rw[T1,z,hd2];rfl
def Du{elts:List Expr}{cx}{p:Pos}{a b:Expr}{tb:TEd}(ma:ae ta)(mb:ae tb)(G:Gl X "zip")(hm:X.mg "zip"=N2)(J:PA X [a,b] (lA X.K (aP ta (aP tb bx))))(hs:LQ [a,b] X.env=[(Wj,eval a X.env),(Wj,eval b X.env)])(z:LQ [b] X.env=[(Wj,eval b X.env)]):
 PI X (.Tuple elts cx pos) (.Call (.Name "zip" p) [a,b] [] pos') (lI X.K (lg ta tb)):=by
 calc PI.imp (D7 G hm J hs z) λσ H R h=>?_;let⟨ρ,M,rs,rm,q⟩:=h;calc⟨ρ,M,rs,rm,aw ma (aw mb aB) _ _ _ _ (λds M1 g9 vs H1 Y j rd1=>?_) q⟩;let⟨x,y,xs,ys,e,L,O,U⟩:=g9;subst e;let⟨v,u,rfl,B,F⟩:=rd1.two;let⟨fv,vs,rfl,s1,_⟩:=fC j B L;let⟨p2,us,rfl,s2,_⟩:=fC j F O;show⟨fv,p2,isT x,isT y,vs,us,rfl,s1,s2,U _ H1 Y j (Dt B F)⟩
end
end
section
section
variable{X:Cx}
abbrev cK(xs:List D):List D:=xs.mapIdx λi x=>.tup [.int (i:Nat),x]
abbrev nU(ta:TEd):TId:=λρ M R=>ta ρ M λx M1=>∃xs,aQ M1 x=Z xs/\R (cK xs) (λM=>aQ M x=Z xs) M1
def vQ(h:ae ta):cn (nU ta):=λρ M Q Q' i q=>h _ _ _ _ (λx B j=>(by let⟨ds,e,z⟩:=j;show⟨ds,e,i _ _ _ z⟩)) q
def Dv(rx:RD K H1 x (.ref a)):gW K H1 (cK xs) (λM=>aQ M x=Z xs) (Ite K (isT x) a):=λM H st rm c i=>by
 let⟨J,vs,F,j,B⟩:=fC rm (rx.mono st) c
 cases F
 let l1:=B.length;let lz:(cK xs).length=xs.length:=by simp[cK]
 refine⟨λhi=>⟨vs,j,∅⟩,λhi=>⟨⟨vs,vs[i]'∅,j,z4 ∅⟩,λv H' G=>?_⟩⟩
 let⟨p,v1,n,rfl,rfl,g⟩:=G;let⟨d1,q,z⟩:=B.getV (g vs j);let sb:=pv (o:=.tup [.int (i:Nat),v1]) n;calc⟨.inr ⟨p,[.int (i:Nat),v1],n,rfl⟩,.tup [.int (i:Nat),d1],?_,Wa ⟨p,[.int (i:Nat),v1],rfl,aA,RDs.cons (VY.mpr rfl) (RDs.cons (z.mono sb) RDs.nil)⟩⟩;simp[cK,OU,q]
def Bm{elts:List Expr}{cx}{p:Pos}{a:Expr}(ma:ae ta)(B:Gl X "enumerate")(hm:X.mg "enumerate"=N2)(F:PA X [a] (lA X.K (aP ta bx)))(hs:LQ [a] X.env=[(Wj,eval a X.env)]):
 PI X (.Tuple elts cx pos) (.Call (.Name "enumerate" p) [a] [] pos') (lI X.K (nU ta)):=by
 calc PI.imp (AR B hm F hs) λσ H R h=>?_;let⟨ρ,M,rs,rm,q⟩:=h;calc⟨ρ,M,rs,rm,ma _ _ _ _ (λx U g9 vs H1 L j rd1=>?_) q⟩;let⟨xs,G,J⟩:=g9;let⟨v,rfl,z⟩:=rd1.one;let⟨O,us,rfl,s1,_⟩:=fC j z G;show⟨O,isT x,us,rfl,s1,J _ H1 L j (Dv z)⟩
end
end
variable{te:TEd}{src:TId}
section
noncomputable abbrev NC:=ar->Mem->List D->Prop
noncomputable abbrev TCd:=ar->Mem->List D->NC->Prop
abbrev cq(T:TCd):Prop:=∀ρ M acc N N',(∀ρ' M' acc',N ρ' M' acc'->N' ρ' M' acc')->T ρ M acc N->T ρ M acc N'
structure ExtP(p:Wk)(M:Mem)(H:Hp)(M':Mem)(H':Hp):Prop where
 kp:∀a o,a≠p->fz (M a)=Wi->H a=Z o->H' a=Z o
 nw:∀a o,fz (M a)=Wi->H a=Z o->M' a=M a
section
variable{K:Frag}{M M' M'':Mem}{H H' H'':Hp}{p:Wk}
def ExtP.new(x:ExtP p M H M' H')(a:Wk)(o:HO)(n:M a=N2)(e:H a=Z o):M' a=N2:=(x.nw a o (by rw[n];rfl) e).trans n
def Ext.toP(x:Ext M H M' H'):ExtP p M H M' H':=⟨λa o _=>x.kp a o,x.nw⟩
def ExtP.refl:ExtP p M H M H:=⟨λ_ _ _ _ h=>h,λ_ _ _ _=>rfl⟩
def ExtP.trans(a:ExtP p M H M' H')(q:H p=Z (.lst vs))(j:∃vs',H' p=Z (.lst vs'))(b:ExtP p M' H' M'' H''):ExtP p M H M'' H'':=
 ⟨fun c o ne n h=>b.kp c o ne (by rw[a.nw c o n h];show n) (a.kp c o ne n h),fun c o n h=>by
  let n':fz (M' c)=Wi:=by rw[a.nw c o n h];show n
  refine Eq.trans ?_ (a.nw c o n h)
  by_cases z:c=p
  ·subst z;let⟨vs',e⟩:=j;show b.nw c _ n' e
  ·show b.nw c o n' (a.kp c o z n h)⟩
def ExtP.stab(r:RM K M H)(j:H p=Z (.lst vs))(x:ExtP p M H M' H'):Stab H H' where
 tup:=λa xs e=>x.kp a _ (λz=>by subst z;rw[j]at e;cases e) (by rw[r.fzT e];rfl) e
 frz:=λa o u e=>x.kp a _ (λz=>by subst z;rw[j]at e;cases e) (r.fzF e) e
def pz{ho:HO}(j:H p=Z (.lst vs)):Stab H (upd H p ho):=⟨λa xs e=>by rw[am (λz=>by subst z;rw[j]at e;cases e)];show e,λa o u e=>by rw[am (λz=>by subst z;rw[j]at e;cases e)];show e⟩
def RM.side{ho:HO}(r:RM K M H)(n:M p=N2)(j:H p=Z (.lst vs)):RM K M (upd H p ho):=λa o e=>by
 let ne:a≠p:=λz=>by subst z;rw[n]at e;cases e
 show(r a o e).mono (pz j) λB q=>by rw[am ne];show q
end
abbrev iC(K:Frag)(H:Hp)(p:Wk)(acc:List D):Prop:=∃vs,H p=Z (.lst vs)/\RDs K H acc vs
abbrev KC(K:Frag)(p:Wk)(M:Mem)(H:Hp)(N:St->Hp->Prop):NC:=λρ' M' acc'=>∀σ' H',ExtP p M H M' H'->RS K H' σ' ρ'->RM K M' H'->iC K H' p acc'->N σ' H'
abbrev lC(K:Frag)(p:Wk)(T:TCd):TC:=λσ H N=>∃ρ M acc,RS K H σ ρ/\RM K M H/\M p=N2/\iC K H p acc/\T ρ M acc (KC K p M H N)
def KC.ext{p:Wk}{M2 M':Mem}{H2:Hp}{N:St->Hp->Prop}{ρ:ar}{acc:List D}(q:H p=Z (.lst vs))(j:∃vs',H2 p=Z (.lst vs'))(x:ExtP p M H M2 H2)(h:KC K p M H N ρ M' acc):KC K p M2 H2 N ρ M' acc:=λσ' H' y=>h σ' H' (x.trans q j y)
abbrev bN(te:TEd):TCd:=λρ M acc N=>te ρ M λx M1=>acc.length<Lf/\N ρ M1 (acc++[x])
abbrev bw:List TTd->TCd->TCd
 |[],tb=>tb
 |t::r,tb=>λρ M acc N=>t ρ M λb M1=>if b=Wi then bw r tb ρ M1 acc N else N ρ M1 acc
abbrev be(b:BT)(tb:TCd)(chk:Mem->Prop)(N:NC):List D->NC
 |[]=>λρ M acc=>chk M/\N ρ M acc
 |x::xs=>λρ M acc=>chk M/\∃ρ',b x ρ=Z ρ'/\tb ρ' M acc (be b tb chk N xs)
abbrev dS(src:TId)(b:BT)(tb:TCd):TCd:=λρ M acc N=>src ρ M λxs chk M1=>be b tb chk N xs ρ M1 acc
abbrev iD(fr:List (Option Nat))(src:TId)(b:BT)(tb:TCd):TEd:=λρ M Q=>src ρ M λxs chk M1=>be b tb chk (λ_ M' acc=>∀p,M' p=N2->Q (.ref p) (ag M' p (.lst acc))) xs (tF fr ρ) M1 []
def bQ(h:ae te):cq (bN te):=λρ M acc N N' i q=>h _ _ _ _ (λx F j=>(by let⟨z,B⟩:=j;show⟨z,i _ _ _ B⟩)) q
def aU{tb:TCd}(z:cq tb):∀{ts:List TTd},(∀t∈ts,aM t)->cq (bw ts tb)
 |[],_=>z
 |t::r,h=>fun ρ M acc N N' i q=>h t Ld _ _ _ _ (fun b F j=>by
  cases b with
  |true=>rw[if_pos rfl]at j⊢;show aU z (λt' B=>h t' (L4 _ B)) _ _ _ _ _ i j
  |false=>rw[if_neg Lg]at j⊢;show i _ _ _ j) q
def gX{b:BT}{tb:TCd}(z:cq tb){chk:Mem->Prop}{N N':NC}(i:∀ρ' M' acc',N ρ' M' acc'->N' ρ' M' acc'):∀(xs:List D) (ρ:ar) (M:Mem) (acc:List D),be b tb chk N xs ρ M acc->be b tb chk N' xs ρ M acc
 |[],ρ,M,acc,h=>⟨h.1,i _ _ _ h.2⟩
 |x::xs,ρ,M,acc,⟨c,ρ',e,q⟩=>⟨c,ρ',e,z _ _ _ _ _ (λρ2 M2 j B=>gX z i xs ρ2 M2 j B) q⟩
def ja{tb:TCd}(hs:cn src)(j:cq tb):cq (dS src b tb):=λρ M acc N N' i q=>hs _ _ _ _ (λxs c B z=>gX j i xs _ _ _ z) q
def mK{fr:List (Option Nat)}{tb:TCd}(hs:cn src)(j:cq tb):ae (iD fr src b tb):=λρ M Q Q' i q=>hs _ _ _ _ (λxs c F z=>gX j (λ_ M' acc B p n=>i _ _ (B p n)) xs _ _ _ z) q
section
variable{K:Frag}{p:Wk}
def gY(m:ae te)(σ:St)(H:Hp)(N:St->Hp->Prop)(h:lC K p (bN te) σ H N):A4 p (lE K te) σ H N:=by
 let⟨ρ,M,acc,rs,rm,n,⟨vs,L,ra⟩,q⟩:=h;calc⟨ρ,M,rs,rm,m _ _ _ _ (λx Y g9 v H1 F G J=>?_) q⟩;let⟨z,O⟩:=g9;let j:=F.keep p _ n L;let U:=F.new p _ n L;let st:=F.stab rm;let B:Stab H1 (upd H1 p (.lst (vs++[v]))):=pz j;refine⟨vs,j,by rw[ra.length];show z,O σ _ ⟨λa o ne m' e=>?_,F.nw⟩ ((rs.mono st).mono B) (G.side U j) ⟨vs++[v],aA,((ra.mono st).mono B).append (RDs.cons (J.mono B) RDs.nil)⟩⟩
 rw[am ne];show F.kp a o m' e
def jY{tb:TCd}(mb:cq tb):∀{ts:List TTd},(∀t∈ts,aM t)->∀(σ:St) (H:Hp) (N:St->Hp->Prop),lC K p (bw ts tb) σ H N->jN (ts.map (lT K)) (lC K p tb) σ H N
 |[],_,σ,H,N,h=>h
 |t::r,hm,σ,H,N,h=>by
  let⟨ρ,M,acc,rs,rm,n,⟨vs,G,ra⟩,q⟩:=h;calc⟨ρ,M,rs,rm,hm t Ld _ _ _ _ (λb L F H1 z B=>?_) q⟩;let j:=z.keep p _ n G;let O:=z.new p _ n G;let st:=z.stab rm
  cases b with
  |false=>rw[if_neg Lg]at F;dsimp only;rw[if_neg Lg];show F σ H1 z.toP (rs.mono st) B ⟨vs,j,ra.mono st⟩
  |true=>
   rw[if_pos rfl]at F;dsimp only;rw[if_pos rfl];show jY mb (λt' J=>hm t' (L4 _ J)) σ H1 N ⟨ρ,L,acc,rs.mono st,B,O,⟨vs,j,ra.mono st⟩,
    aU mb (λt' J=>hm t' (L4 _ J)) _ _ _ _ _ (λρ' M' acc' k=>k.ext G ⟨vs,j⟩ z.toP) F⟩
def mL{tb:TCd}(mb:cq tb){chk:Mem->Prop}{J:It}{B:Mem}{Nd:NC}{N:St->Hp->Prop}{σ:St}{ρ:ar}{acc:List D}(it:gW K H1 xs chk J)(rs:RS K H1 σ ρ)(rm:RM K B H1)(n:B p=N2)(ac:iC K H1 p acc)(q:be b tb chk Nd xs ρ B acc)(hN:∀ρ' M' acc' σ' H',ExtP p B H1 M' H'->RS K H' σ' ρ'->RM K M' H'->iC K H' p acc'->Nd ρ' M' acc'->N σ' H'):
 cH J (lG K b) (lC K p tb) N σ H1:=by
 let⟨IK,F,_⟩:=id ac;refine⟨λi m σ H=>m=xs.length-i/\i<=xs.length/\∃ρ M acc,RS K H σ ρ/\RM K M H/\M p=N2/\iC K H p acc/\ExtP p B H1 M H/\be b tb chk Nd (xs.drop i) ρ M acc,⟨xs.length,by simp,N6 _,ρ,B,acc,rs,rm,n,ac,ExtP.refl,q⟩,?_⟩
 rintro i m σ H ⟨rfl,hi,ρ,M,acc,rs,j,n,ac,x,q⟩;let st:=x.stab rm F;let⟨vs,hp,ra⟩:=id ac
 by_cases z:i<xs.length
 ·rw[Nh z]at q;let⟨c,ρ',hb,q⟩:=q;let⟨go,yl⟩:=(it M H st j c i).2 z;calc .inr ⟨go,λσ' H'=>∃m',m'<xs.length-i/\(m'=xs.length-(i+1)/\i+1<=xs.length/\∃ρ M acc,RS K H' σ' ρ/\RM K M H'/\M p=N2/\iC K H' p acc/\ExtP p B H1 M H'/\be b tb chk Nd (xs.drop (i+1)) ρ M acc),λσ' H' h=>h,λx' H' y=>?_⟩;let⟨yy,d,hd,rd⟩:=yl x' H' y;rw[z4 z]at hd
  cases hd
  let⟨xy,rmy⟩:=yy.ext j;let sty:=xy.stab j;let G:=xy.keep p _ n hp;calc⟨_,ρ,ρ',rd,rs.mono sty,hb,λσ2 O=>?_⟩;calc⟨ρ',M,acc,O,rmy,n,⟨vs,G,ra.mono sty⟩,mb _ _ _ _ _ (λρ3 M3 L q3 σ3 H3 x3 U Y fv=>?_) q⟩;let n3:M3 p=N2:=x3.new p _ n G;show⟨xs.length-(i+1),∅,rfl,z,ρ3,M3,L,U,Y,n3,fv,(x.trans F ⟨vs,hp⟩ xy.toP).trans F ⟨vs,G⟩ x3,q3⟩
 ·let e:i=xs.length:=by lia
  subst e;rw[Sm]at q;show .inl ⟨(it M H st j q.1 _).1 (L9 _),hN ρ M acc σ H x rs j ac q.2⟩
def jb{tb:TCd}(ms:cn src)(mb:cq tb)(σ:St)(H:Hp)(N:St->Hp->Prop)(h:lC K p (dS src b tb) σ H N):(lI K src) σ H λJ H1=>cH J (lG K b) (lC K p tb) N σ H1:=by let⟨ρ,M,acc,rs,rm,n,⟨vs,B,ra⟩,q⟩:=h;calc⟨ρ,M,rs,rm,ms _ _ _ _ (λxs chk O G J H1 z F it=>?_) q⟩;let j:=z.keep p _ n B;let L:=z.new p _ n B;let st:=z.stab rm;show mL mb it (rs.mono st) F L ⟨vs,j,ra.mono st⟩ G λρ' M' acc' σ' H' x2 rs' rm' ac' k=>k σ' H' (z.toP.trans B ⟨vs,j⟩ x2) rs' rm' ac'
def eY{fr:List (Option Nat)}{tb:TCd}(ms:cn src)(mb:cq tb)(σ:St)(H:Hp)(Q:VK)(h:lE K (iD fr src b tb) σ H Q):tE (lI K src) (lG K b) (λp=>lC K p tb) fr σ H Q:=by
 let⟨ρ,M,rs,rm,q⟩:=h;calc⟨ρ,M,rs,rm,ms _ _ _ _ (λxs chk G U J H1 F j it p n=>?_) q⟩;let st:=F.stab rm;let xn:Ext G H1 G (upd H1 p (.lst [])):=W9 n;let stn:=xn.stab j;let O:G p=N2:=j.out n;calc mL (p:=p) mb (xs:=xs) (chk:=chk) (λM' H' st'=>it M' H' ⟨λa xs e=>st'.tup _ _ (stn.tup _ _ e),λa o u e=>st'.frz _ _ _ (stn.frz _ _ _ e)⟩) (((rs.mono st).mono stn).inh fr) (j.new n) O ⟨[],aA,RDs.nil⟩ U λρ' M' acc' σ' H' L rs' rm' ac' k=>?_;let⟨vs,Y,ra⟩:=ac';let n':M' p=N2:=L.new p _ O aA;refine k p n' (.ref p) H' ⟨λa o m e=>?_,λa o m e=>?_⟩ (λa o e=>?_) (VZ.mpr rfl)
 ·let B:=F.kp a o m e;let ne:a≠p:=λz=>by subst z;rw[n]at B;cases B
  show L.kp a o ne (by rw[F.nw a o m e];show m) (by rw[am ne];show B)
 ·let B:=F.kp a o m e;let ne:a≠p:=λz=>by subst z;rw[n]at B;cases B
  rw[av ne];show(L.nw a o (by rw[F.nw a o m e];show m) (by rw[am ne];show B)).trans (F.nw a o m e)
 ·by_cases z:a=p
  ·subst z;rw[aa]at e;cases e;show⟨vs,Y,ra⟩
  ·rw[av z]at e;show rm' a o e
end
end
variable{u:TSd}{c:TTd}
section
abbrev jZ:TSd:=λD ρ M=>D.nx ρ M
abbrev yK(t u:TSd):TSd:=λD ρ M=>t {D with nx:=u D} ρ M
abbrev kc:TSd:=λD ρ M=>D.bk ρ M
abbrev nV:TSd:=λD ρ M=>D.ct ρ M
abbrev nW(te:TEd):TSd:=λD ρ M=>te ρ M λ_ M1=>D.nx ρ M1
abbrev tR(te:TEd):TSd:=λD ρ M=>te ρ M D.rt
abbrev sIf(c:TTd)(t u:TSd):TSd:=λD ρ M=>c ρ M λb M1=>if b=Wi then t D ρ M1 else u D ρ M1
abbrev lh(te:TEd)(b:BT):TSd:=λD ρ M=>te ρ M λx M1=>∃ρ',b x ρ=Z ρ'/\D.nx ρ' M1
abbrev tS(ta:TAd)(bs:BTs):TSd:=λD ρ M=>ta ρ M λxs M1=>∃ρ',bs xs ρ=Z ρ'/\D.nx ρ' M1
abbrev bT(b:BT)(tb:TSd)(chk:Mem->Prop)(D:bh):List Mi.D->ar->Mem->Prop
 |[]=>λρ M=>chk M/\D.nx ρ M
 |x::xs=>λρ M=>chk M/\∃ρ',b x ρ=Z ρ'/\tb {D with nx:=bT b tb chk D xs,ct:=bT b tb chk D xs,bk:=D.nx} ρ' M
abbrev tT(src:TId)(b:BT)(tb:TSd):TSd:=λD ρ M=>src ρ M λxs chk M1=>bT b tb chk D xs ρ M1
abbrev aT(c:TTd)(tb:TSd)(D:bh):Nat->ar->Mem->Prop
 |0=>λ_ _=>False
 |n+1=>λρ M=>c ρ M λb M1=>if b=Wi then tb {D with nx:=aT c tb D n,ct:=aT c tb D n,bk:=D.nx} ρ M1 else D.nx ρ M1
abbrev kf(c:TTd)(tb:TSd):TSd:=λD ρ M=>∃n,aT c tb D n ρ M
def mM:aN jZ:=λ_ _ _ _ h q=>h.nx _ _ q
def tU:aN kc:=λ_ _ _ _ h q=>h.bk _ _ q
def vR:aN nV:=λ_ _ _ _ h q=>h.ct _ _ q
def vS{t:TSd}(j:aN t)(z:aN u):aN (yK t u):=λa b ρ M h q=>j {a with nx:=u a} {b with nx:=u b} _ _ ⟨λρ' M' q'=>z _ _ _ _ h q',h.rt,h.bk,h.ct⟩ q
def vT(h:ae te):aN (nW te):=λa b ρ M i q=>h _ _ _ _ (λ_ z j=>i.nx _ _ j) q
def yL(h:ae te):aN (tR te):=λa b ρ M i q=>h _ _ _ _ (λd z j=>i.rt _ _ j) q
def yM{t:TSd}(z:aM c)(B:aN t)(F:aN u):aN (sIf c t u):=λa b ρ M i q=>z _ _ _ _ (λk G j=>by
 cases k with
 |true=>rw[if_pos rfl]at j⊢;show B _ _ _ _ i j
 |false=>rw[if_neg Lg]at j⊢;show F _ _ _ _ i j) q
def yN{bt:BT}(h:ae te):aN (lh te bt):=λa b ρ M i q=>h _ _ _ _ (λd B j=>(by let⟨ρ',e,z⟩:=j;show⟨ρ',e,i.nx _ _ z⟩)) q
def yO{ta:TAd}{bs:BTs}(h:bj ta):aN (tS ta bs):=λa b ρ M i q=>h _ _ _ _ (λd B j=>(by let⟨ρ',e,z⟩:=j;show⟨ρ',e,i.nx _ _ z⟩)) q
def gZ{bt:BT}{tb:TSd}(j:aN tb){chk:Mem->Prop}{a b:bh}(i:LeD a b):∀(xs:List D) (ρ:ar) (M:Mem),bT bt tb chk a xs ρ M->bT bt tb chk b xs ρ M
 |[],ρ,M,h=>⟨h.1,i.nx _ _ h.2⟩
 |x::xs,ρ,M,⟨c,ρ',e,q⟩=>⟨c,ρ',e,j {a with nx:=bT bt tb chk a xs,ct:=bT bt tb chk a xs,bk:=a.nx} {b with nx:=bT bt tb chk b xs,ct:=bT bt tb chk b xs,bk:=b.nx} _ _ ⟨λρ2 M2 z=>gZ j i xs ρ2 M2 z,i.rt,i.nx,λρ2 M2 z=>gZ j i xs ρ2 M2 z⟩ q⟩
def yP{bt:BT}{tb:TSd}(hs:cn src)(j:aN tb):aN (tT src bt tb):=λa b ρ M i q=>hs _ _ _ _ (λxs c B z=>gZ j i xs _ _ z) q
def fx{c:TTd}{tb:TSd}(q:aM c)(z:aN tb){a b:bh}(i:LeD a b):∀(n:Nat) (ρ:ar) (M:Mem),aT c tb a n ρ M->aT c tb b n ρ M
 |0,ρ,M,h=>h
 |n+1,ρ,M,h=>q _ _ _ _ (fun k F j=>by
  cases k with
  |true=>rw[if_pos rfl]at j⊢;show z {a with nx:=aT c tb a n,ct:=aT c tb a n,bk:=a.nx} {b with nx:=aT c tb b n,ct:=aT c tb b n,bk:=b.nx} _ _ ⟨λρ2 M2 B=>fx q z i n ρ2 M2 B,i.rt,i.nx,λρ2 M2 B=>fx q z i n ρ2 M2 B⟩ j
  |false=>rw[if_neg Lg]at j⊢;show i.nx _ _ j) h
def tV{tb:TSd}(j:aM c)(z:aN tb):aN (kf c tb):=λa b ρ M i g9=>(by let⟨n,q⟩:=g9;show⟨n,fx j z i n _ _ q⟩)
section
variable{K:Frag}
def mN(D:bR)(σ:St)(H:Hp)(h:lS K jZ D σ H):sW D σ H:=by let⟨ρ,M,A,rs,rm,l,q⟩:=h;show l.nx ρ M σ H Ext.refl rs rm q
def tW(D:bR)(σ:St)(H:Hp)(h:lS K kc D σ H):uS D σ H:=by let⟨ρ,M,A,rs,rm,l,q⟩:=h;show l.bk ρ M σ H Ext.refl rs rm q
def vU(D:bR)(σ:St)(H:Hp)(h:lS K nV D σ H):zV D σ H:=by let⟨ρ,M,A,rs,rm,l,q⟩:=h;show l.ct ρ M σ H Ext.refl rs rm q
def yQ{t:TSd}(mt:aN t)(mu:aN u)(D:bR)(σ:St)(H:Hp)(h:lS K (yK t u) D σ H):Cz (lS K t) (lS K u) D σ H:=by let⟨ρ,M,A,rs,rm,l,q⟩:=h;show⟨ρ,M,{A with nx:=u A},rs,rm,⟨λρ' M' σ' H' x rs' rm' q'=>⟨ρ',M',A,rs',rm',l.ext x,q'⟩,l.rt,l.bk,l.ct⟩,q⟩
def vW(m:ae te)(D:bR)(σ:St)(H:Hp)(h:lS K (nW te) D σ H):zW (lE K te) D σ H:=by let⟨ρ,M,A,rs,rm,l,q⟩:=h;show⟨ρ,M,rs,rm,m _ _ _ _ (λd B F v H1 z j G=>l.nx ρ B σ H1 z (rs.mono (z.stab rm)) j F) q⟩
def yR(m:ae te)(D:bR)(σ:St)(H:Hp)(h:lS K (tR te) D σ H):CA (lE K te) D σ H:=by let⟨ρ,M,A,rs,rm,l,q⟩:=h;show⟨ρ,M,rs,rm,m _ _ _ _ (λd B F v H1 G j z=>l.rt d B v H1 G j z F) q⟩
def Bn{t:TSd}(mc:aM c)(D:bR)(σ:St)(H:Hp)(h:lS K (sIf c t u) D σ H):CC (lT K c) (lS K t) (lS K u) D σ H:=by
 let⟨ρ,M,A,rs,rm,l,q⟩:=h;refine⟨ρ,M,rs,rm,mc _ _ _ _ (λk F z H1 B j=>?_) q⟩
 cases k with
 |true=>rw[if_pos rfl]at z⊢;show⟨ρ,F,A,rs.mono (B.stab rm),j,l.ext B,z⟩
 |false=>rw[if_neg Lg]at z⊢;show⟨ρ,F,A,rs.mono (B.stab rm),j,l.ext B,z⟩
def yS(m:ae te)(D:bR)(σ:St)(H:Hp)(h:lS K (lh te b) D σ H):sY (lE K te) (lG K b) D σ H:=by let⟨ρ,M,A,rs,rm,l,q⟩:=h;calc⟨ρ,M,rs,rm,m _ _ _ _ (λd F g9 v H1 B j z=>?_) q⟩;let⟨ρ',e,G⟩:=g9;show⟨d,ρ,ρ',z,rs.mono (B.stab rm),e,λσ' rs'=>l.nx ρ' F σ' H1 B rs' j G⟩
def mP(m:ae te)(D:bR)(σ:St)(H:Hp)(h:lS K (lh te (bb i)) D σ H):sY (lE K te) (jE i) D σ H:=by
 let⟨ρ,M,A,rs,rm,l,q⟩:=h;calc⟨ρ,M,rs,rm,m _ _ _ _ (λd z g9 v H1 j rm1 rd1=>?_) q⟩;let⟨ρ',e,B⟩:=g9
 cases e
 show l.nx _ z _ H1 j ((rs.mono (j.stab rm)).set i rd1) rm1 B
def yT{tb:TSd}(ms:cn src)(mb:aN tb)(D:bR)(σ:St)(H:Hp)(h:lS K (tT src b tb) D σ H):CJ (lI K src) (lG K b) (lS K tb) D σ H:=by
 let⟨ρ,M,A,rs,rm,l,q⟩:=h;calc⟨ρ,M,rs,rm,ms _ _ _ _ (λxs chk M1 q1 J H1 x1 G it=>?_) q⟩;refine⟨λi m σ H'=>m=xs.length-i/\i<=xs.length/\∃ρ M2,RS K H' σ ρ/\RM K M2 H'/\Ext M1 H1 M2 H'/\bT b tb chk A (xs.drop i) ρ M2,⟨xs.length,by simp,N6 _,ρ,M1,rs.mono (x1.stab rm),G,Ext.refl,q1⟩,?_⟩
 rintro i m σ2 H2 ⟨rfl,hi,ρ2,M2,L,j,x2,O⟩;let U:=x2.stab G
 by_cases B:i<xs.length
 ·rw[Nh B]at O;let⟨c,ρ',hb,q3⟩:=O;let⟨go,yl⟩:=(it M2 H2 U j c i).2 B;calc .inr ⟨go,λσ' H'=>∃m',m'<xs.length-i/\(m'=xs.length-(i+1)/\i+1<=xs.length/\∃ρ M,RS K H' σ' ρ/\RM K M H'/\Ext M1 H1 M H'/\bT b tb chk A (xs.drop (i+1)) ρ M),λσ' H' h=>h,λx' H' y=>?_⟩;let⟨yy,d,hd,rd⟩:=yl x' H' y;rw[z4 B]at hd
  cases hd
  let⟨xy,rmy⟩:=yy.ext j;let Y:=x1.trans (x2.trans xy);calc⟨_,ρ2,ρ',rd,L.mono (xy.stab j),hb,λσ3 IK=>?_⟩;let nx:∀ρ5 F σ5 z,Ext M2 H' F z->RS K z σ5 ρ5->RM K F z->bT b tb chk A (xs.drop (i+1)) ρ5 F->∃m',m'<xs.length-i/\(m'=xs.length-(i+1)/\i+1<=xs.length/\∃ρ M,RS K z σ5 ρ/\RM K M z/\Ext M1 H1 M z/\bT b tb chk A (xs.drop (i+1)) ρ M):=λρ5 F σ5 z fv IM IN q5=>⟨xs.length-(i+1),∅,rfl,B,ρ5,F,IM,IN,(x2.trans xy).trans fv,q5⟩
  refine⟨ρ',M2,{A with nx:=bT b tb chk A (xs.drop (i+1)),ct:=bT b tb chk A (xs.drop (i+1)),bk:=A.nx},IK,rmy,⟨nx,λd F v z fv=>l.rt d F v z (Y.trans fv),λρ5 F σ5 z fv=>l.nx ρ5 F σ5 z (Y.trans fv),nx⟩,q3⟩
 ·let e:i=xs.length:=by lia
  subst e;rw[Sm]at O;show .inl ⟨(it M2 H2 U j O.1 _).1 (L9 _),l.nx ρ2 M2 σ2 H2 (x1.trans x2) L j O.2⟩
def tX{tb:TSd}(mc:aM c)(mb:aN tb)(D:bR)(σ:St)(H:Hp)(h:lS K (kf c tb) D σ H):uU (lT K c) (lS K tb) D σ H:=by
 let⟨ρ,M,A,rs,rm,l,n,q⟩:=h;calc⟨λm σ' H'=>∃ρ' M',RS K H' σ' ρ'/\RM K M' H'/\Ext M H M' H'/\aT c tb A m ρ' M',⟨n,ρ,M,rs,rm,Ext.refl,q⟩,?_⟩;rintro m σ1 H1 ⟨ρ1,M1,J,L,x1,q1⟩
 cases m with
 |zero=>show q1.elim
 |succ m=>
  calc⟨ρ1,M1,J,L,mc _ _ _ _ (λk M2 fv H2 x2 O=>?_) q1⟩;let j:=x1.trans x2;let U:=J.mono (x2.stab L)
  cases k with
  |false=>rw[if_neg Lg]at fv;dsimp only;rw[if_neg Lg];show l.nx ρ1 M2 σ1 H2 j U O fv
  |true=>
   rw[if_pos rfl]at fv;dsimp only;rw[if_pos rfl];refine⟨λσ' H'=>∃ρ' M',RS K H' σ' ρ'/\RM K M' H'/\Ext M H M' H'/\aT c tb A m ρ' M',λσ' H' h=>⟨m,Nat.lt_succ_self m,h⟩,ρ1,M2,{A with nx:=aT c tb A m,ct:=aT c tb A m,bk:=A.nx},U,O,⟨?_,λd z v Y B=>l.rt d z v Y (j.trans B),λρ5 z σ5 Y B=>l.nx ρ5 z σ5 Y (j.trans B),?_⟩,fv⟩
   ·showλρ5 z σ5 Y B F G q5=>⟨ρ5,z,F,G,j.trans B,q5⟩
   ·showλρ5 z σ5 Y B F G q5=>⟨ρ5,z,F,G,j.trans B,q5⟩
end
abbrev iE:D->D->D->Mem->(Mem->Prop)->Prop:=λo i v M Q=>∃a,o=.ref a /\
 ((∃xs k j,i=.int k/\M a=Z (.lst xs)/\ixN xs.length k=Z j/\Q (ag M a (.lst (xs.set j v)))) ∨
  ∃t kvs,M a=Z (.dct t kvs)/\fV t i=Wi/\kvs.length<Lf/\Q (ag M a (.dct t (ca kvs i v))))
abbrev tY(te to ti:TEd):TSd:=λD ρ M=>te ρ M λv M1=>to ρ M1 λo M2=>ti ρ M2 λi M3=>iE o i v M3 λM4=>D.nx ρ M4
def vX{o i v:D}{Q Q':Mem->Prop}(h:∀M',Q M'->Q' M')(q:iE o i v M Q):iE o i v M Q':=by
 obtain⟨a,e,⟨xs,k,j,z,B,F,q⟩|⟨t,kvs,z,B,F,q⟩⟩:=q
 ·show⟨a,e,.inl ⟨xs,k,j,z,B,F,h _ q⟩⟩
 ·show⟨a,e,.inr ⟨t,kvs,z,B,F,h _ q⟩⟩
def yU{ti:TEd}(he:ae te)(ho:ae to)(hi:ae ti):aN (tY te to ti):=λa b ρ M i q=>he _ _ _ _ (λv F j=>ho _ _ _ _ (λo M2 z=>hi _ _ _ _ (λk G B=>vX (λM' q'=>i.nx _ _ q') B) z) j) q
section
variable{X:Cx}{K:Frag}
def yV(j:X.A.units+1<Ol):PSet X (λo i v H Q=>∃a H',o=.ref a/\DPut H a i v H'/\Q H'):=by
 intro pins s σ H o i v ov iv u Q I ro ri rv h;let⟨a,H',rfl,g,q⟩:=h
 cases ro
 show vp j I g ri rv λs' I'=>⟨H',I',q⟩
def PSet.or{t t':sX}(h:PSet X t)(h':PSet X t'):PSet X (λo i v H Q=>t o i v H Q∨t' o i v H Q):=by
 intro pins s σ H o i v ov iv u Q I ro ri rv q
 rcases q with q|q
 ·show h pins s σ H o i v ov iv u Q I ro ri rv q
 ·show h' pins s σ H o i v ov iv u Q I ro ri rv q
section
variable{κ:Type}[DecidableEq κ]{H:Hp}{RK:D->κ->Prop}(inj:∀{d e:D} {k:κ},RK d k->RK e k->d=e)(fn:∀{d:D} {k k':κ},RK d k->RK d k'->k=k')
include inj fn
def rO{k:D}{q:κ}(j:RK k q):∀{kvs:List (D×D)} {ps:List (κ×V)},Mh (λp r=>RK p.1 r.1/\RD K H p.2 r.2) kvs ps->
 (kvs.any λp=>decide (p.1=k))=(ps.any λp=>decide (p.1=q))
 |_,_,.nil=>rfl
 |_,_,.cons (a:=p) (b:=r) hr t=>by
  rw[PH,PH,rO j t];congr 1
  by_cases e:p.1=k
  ·let e':r.1=q:=by let h1:=hr.1;rw[e]at h1;show fn h1 j
   rw[decide_eq_true e,decide_eq_true e']
  ·let e':¬r.1=q:=λz=>e (by let h1:=hr.1;rw[z]at h1;show inj h1 j)
   rw[decide_eq_false e,decide_eq_false e']
def rP{k:D}{q:κ}(B:RK k q){d:D}{v:V}(F:RD K H d v):∀{kvs:List (D×D)} {ps:List (κ×V)},Mh (λp r=>RK p.1 r.1/\RD K H p.2 r.2) kvs ps->
 Mh (λp r=>RK p.1 r.1/\RD K H p.2 r.2) (kvs.map λp=>if p.1=k then(p.1,d)else p) (ps.map λp=>if p.1=q then(p.1,v)else p)
 |_,_,.nil=>.nil
 |_,_,.cons (a:=p) (b:=r) j t=>by
  refine .cons ?_ (rP B F t)
  by_cases e:p.1=k
  ·let e':r.1=q:=by let h1:=j.1;rw[e]at h1;show fn h1 B
   dsimp only;rw[if_pos e,if_pos e'];show⟨j.1,F⟩
  ·let e':¬r.1=q:=λz=>e (by let h1:=j.1;rw[z]at h1;show inj h1 B)
   dsimp only;rw[if_neg e,if_neg e'];show j
def jh{k:D}{q:κ}(j:RK k q)(z:RD K H d v){ps:List (κ×V)}(r:Mh (λp r=>RK p.1 r.1/\RD K H p.2 r.2) kvs ps):
 Mh (λp r=>RK p.1 r.1/\RD K H p.2 r.2) (ca kvs k d) (bE ps q v):=by
 unfold ca bE;rw[rO (K:=K) (H:=H) (RK:=RK) inj fn j r]
 by_cases e:(ps.any λp=>decide (p.1=q))=Wi
 ·rw[if_pos e,if_pos e];show rP (RK:=RK) inj fn j z r
 ·rw[if_neg e,if_neg e];show r.snoc ⟨j,z⟩
end
def yW{o i v:D}{ov iv vv:V}{Qd:Mem->Prop}{Q:Hp->Prop}(rm:RM K M H)(ro:RD K H o ov)(ri:RD K H i iv)(rv:RD K H v vv)(h:iE o i v M Qd)(O:∀M' H',Ext M H M' H'->RM K M' H'->Qd M'->Q H'):
 A0 ov iv vv H Q∨∃a H',ov=.ref a/\DPut H a iv vv H'/\Q H':=by
 obtain⟨a,rfl,⟨xs,k,j,rfl,B,L,q⟩|⟨t,kvs,F,B,L,q⟩⟩:=h
 ·cases VZ.mp ro
  cases VY.mp ri
  let⟨vs,fv,rs⟩:=rm _ _ B;let st:Stab H (upd H a (.lst (vs.set j vv))):=rm.stabPut B;show .inl ⟨a,vs,k,j,rfl,rfl,fv,by rw[rs.length];show L,O _ _ (Ext.put B) (rm.put (o:=.lst (xs.set j v)) B ⟨_,aA,(rs.set j rv).mono st⟩) q⟩
 ·cases VZ.mp ro
  let ro':=rm _ _ F
  cases t with
  |false=>let⟨ps,U,pr⟩:=ro';let⟨kq,J⟩:=oK (show dE i=Wi from B);let st:Stab H (upd H a (.dK (bE ps kq vv))):=rm.stabPut F;let G:=jh (RK:=RKey) RKey.inj RKey.fun J rv pr;rw[kX J ri];refine .inr ⟨a,_,rfl,DPut.k U (by rw[<-NS pr];show L),O _ _ (Ext.put F) (rm.put (o:=.dct Wj (ca kvs i v)) F ⟨_,aA,W2 G λ_ _ z=>⟨z.1,z.2.mono st⟩⟩) q⟩
  |true=>
   let⟨ps,U,pr⟩:=ro';let⟨kq,J⟩:=ir (show bO i=Wi from B);let st:Stab H (upd H a (.dT (bE ps kq vv))):=rm.stabPut F;let G:=jh (RK:=RKeys) RKeys.inj RKeys.fun J rv pr
   cases i<;>first
    |show J.elim
    | (let⟨b,us,rfl,Y,ru⟩:=Wc (iu B) ri
       rw[eJ J ru]at Y;show .inr ⟨a,_,rfl,DPut.t U Y (by rw[<-NS pr];show L),O _ _ (Ext.put F) (rm.put (o:=.dct Wi (ca kvs _ v)) F ⟨_,aA,W2 G λ_ _ z=>⟨z.1,z.2.mono st⟩⟩) q⟩)
def Dw {o i:Expr}{ti:TEd}{tpos:Pos}(hu:X.A.units+1<Ol)(me:ae te)(mo:ae to)(mi:ae ti)(he:PE X e (lE X.K te))(ho:PE X o (lE X.K to))(hi:PE X i (lE X.K ti))(hs:Q6 [.Subscript o i tpos] e pos.line X.env=pure Wj)(hw:OX [.Subscript o i tpos] e X.env=pure N2)(ha:∀v,assign (.Subscript o i tpos) X.env v=(do
   let ov <-holding [v] (eval o X.env)
   let iv <-holding [v,ov] (eval i X.env)
   RT tpos
   holding [v,ov,iv] (setItem ov iv v)
   release [v,ov,iv] [])):PS X (.Assign [.Subscript o i tpos] e pos) (lS X.K (tY te to ti)):=by
 calc PS.imp (uT he (CF ho hi (PSet.or y7 (yV hu)) ha) hs hw rfl) λD σ H h=>?_;let⟨ρ,M,A,rs,rm,l,q⟩:=h;calc⟨ρ,M,rs,rm,me _ _ _ _ (λv M1 q1 vv H1 F j G=>?_) q⟩;calc⟨ρ,M1,rs.mono (F.stab rm),j,mo _ _ _ _ (λov M2 q2 vo H2 J z L=>?_) q1⟩;calc⟨ρ,M2,(rs.mono (F.stab rm)).mono (J.stab j),z,mi _ _ _ _ (λiv M3 q3 vi H3 O U Y=>?_) q2⟩;let B:=F.trans (J.trans O);show yW U (L.mono (O.stab z)) Y ((G.mono (J.stab j)).mono (O.stab z)) q3 λM' H' x4 fv q4=>l.nx ρ M' σ H' (B.trans x4) (rs.mono ((B.trans x4).stab rm)) fv q4
abbrev kg:R2d
 |.int i,.int j,M,Q=>Q (.int (i+j)) M
 |_,_,_,_=>False
abbrev kh:R2d
 |.int i,.int j,M,Q=>Q (.int (i-j)) M
 |_,_,_,_=>False
abbrev ki:R2d
 |.int i,.int j,M,Q=>MulOk i j/\Q (.int (i*j)) M
 |_,_,_,_=>False
def mQ:ay kg:=by
 intro x y M Q Q' h q
 cases x<;>cases y<;>first|show q.elim|show h _ _ q
def mR:ay kh:=by
 intro x y M Q Q' h q
 cases x<;>cases y<;>first|show q.elim|show h _ _ q
def mU:ay ki:=by
 intro x y M Q Q' h q
 cases x<;>cases y<;>first|show q.elim|show⟨q.1,h _ _ q.2⟩
def vY:OpR X (Qi .Add) (l2 X.K kg):=by
 calc OpR.of AD λv u H Q h=>?_;let⟨x,y,M,rm,rx,ry,q⟩:=h
 cases x<;>cases y<;>first
  |show q.elim
  |(cases VY.mp rx;cases VY.mp ry;show⟨_,_,rfl,rfl,q _ H Ext.refl rm (VY.mpr rfl)⟩)
def vZ:OpR X (Qi .Sub) (l2 X.K kh):=by
 calc OpR.of AE λv u H Q h=>?_;let⟨x,y,M,rm,rx,ry,q⟩:=h
 cases x<;>cases y<;>first
  |show q.elim
  |(cases VY.mp rx;cases VY.mp ry;show⟨_,_,rfl,rfl,q _ H Ext.refl rm (VY.mpr rfl)⟩)
def w5:OpR X (Qi .Mult) (rI MulOk λi j=>.int (i*j)):=opI λ_ _ _ _ _ _ _ z q=>imul_int q z.ok
def w6:OpR X (Qi .Mult) (l2 X.K ki):=by
 calc OpR.of w5 λv u H Q h=>?_;let⟨x,y,M,rm,rx,ry,q⟩:=h
 cases x<;>cases y<;>first
  |show q.elim
  |(cases VY.mp rx;cases VY.mp ry;show⟨_,_,rfl,rfl,q.1,q.2 _ H Ext.refl rm (VY.mpr rfl)⟩)
abbrev tZ(i:Nat)(rd:R2d)(te:TEd):TSd:=λD ρ M=>∃x,ρ[i]?=Z (Z x)/\te ρ M λy M1=>rd x y M1 λz M2=>D.nx (ρ.set i (Z z)) M2
def yX{rd:R2d}(j:ay rd)(he:ae te):aN (tZ i rd te):=λa b ρ M l g9=>(by let⟨x,e,q⟩:=g9;show⟨x,e,he _ _ _ _ (λy G B=>j _ _ _ _ _ (λz M2 F=>l.nx _ _ F) B) q⟩)
def pA{x:Str}{op:Qn}{rd:R2d}(U:X.N.Nodup)(hi:X.N[i]?=Z x)(hx:Loc X.env.scope x)(he:PE X e (lE X.K te))(ho:OpR X (Qi op) (l2 X.K rd))(Y:ay rd)(me:ae te)(hf:X.fn x=Wi∨X.env.scope.names.lookup x=Z .local):PS X (.AugAssign (.Name x pos') op e pos) (lS X.K (tZ i rd te)):=by calc PS.imp (CI U hi hx he (ti:=l2 X.K rd) ho hf) λD σ H h=>?_;let⟨ρ,M,A,rs,rm,l,d,e,q⟩:=h;let⟨v,fv,j⟩:=rs.2 i d e;calc⟨v,fv,ρ,M,rs,rm,me _ _ _ _ (λy M1 q1 u H1 B F G=>?_) q⟩;calc⟨d,y,M1,F,j.mono (B.stab rm),G,Y _ _ _ _ _ (λz M2 q2 w H2 O J L=>?_) q1⟩;show l.nx _ M2 _ H2 (B.trans O) ((rs.mono ((B.trans O).stab rm)).set i L) J q2
end
end
end Mi
namespace Mi
variable{K:Frag}
def w8{ta:TAd}{i j:Nat}(m:bj ta)(D:bR)(σ:St)(H:Hp)(h:lS K (tS ta (bM (bb i) (bM (bb j) fZ))) D σ H):CG i j (lA K ta) D σ H:=by
 let⟨ρ,M,A,rs,rm,l,q⟩:=h;calc⟨ρ,M,rs,rm,m _ _ _ _ (λds G g9 vs H1 F B z=>?_) q⟩;let⟨ρ',e,J⟩:=g9
 match ds,e,z with
 |[d1,d2],e,z=>let⟨v,u,rfl,L,O⟩:=z.two;simp only[bM,bb,fZ,QM,UG]at e;subst e;show⟨v,u,rfl,l.nx _ G _ H1 F (((rs.mono (F.stab rm)).set i L).set j O) B J⟩
end Mi
namespace Mi
end Mi
namespace Mi
variable{s:J4}{v:V}{H:Hp}{u:q7}{r r':R2d}{ta tb tc:TEd}{pos:Pos}
section
section
variable{X:Cx}
abbrev isD:D->D->Option Bool
 |x,.non=>Z (match x with|.non=>Wi|_=>Wj)
 |x,.bl b=>Z (match x with|.bl c=>c==b|_=>Wj)
 |_,_=>N2
abbrev u6:R2d:=λx y M Q=>∃k,isD x y=Z k/\Q (.bl (!k)) M
def yY:ay u6:=λ_ _ _ _ _ h j=>(by let⟨k,e,q⟩:=j;show⟨k,e,h _ _ q⟩)
def yZ{M:QE}{A:Mz}{E Q:q7->J4->Prop}{v:q7}{b:Bool}(j:∀id,v≠.builtin id)(h:Q (.bool (!(v==.bool b))) s):Lu M A (Mt .IsNot v (.bool b)) Q E s:=by cases v<;>first|show KZ h|show absurd rfl (j _)
def Dx{K:Frag}{x y:D}{w:V}{t:q7}{k:Bool}(e:isD x y=Z k)(rx:RD K H x v)(ry:RD K H y w)(ru:RelV v u)(rt:RelV w t):(t=.none/\(u==.none)=k)∨∃b,t=.bool b/\(u==.bool b)=k/\∀id,u≠.builtin id:=by
 cases y with
 |non=>
  cases W5.mp ry
  cases rt
  refine .inl ⟨rfl,?_⟩
  cases x with
  |non=>cases W5.mp rx;cases ru;cases e;rfl
  |bl c=>cases W0.mp rx;cases ru;cases e;rfl
  |int i=>cases VY.mp rx;let⟨tk,rfl⟩:=ru;cases e;rfl
  |str z=>cases W4.mp rx;let⟨tk,rfl⟩:=ru;cases e;rfl
  |tup ds=>let⟨a,vs,rfl,_⟩:=W6 rx;cases ru;cases e;rfl
  |con ds=>let⟨a,vs,rfl,_⟩:=W3.mp rx;cases ru;cases e;rfl
  |ref a=>cases VZ.mp rx;cases ru;cases e;rfl
  |fn z=>let⟨a,rfl,_⟩:=Wg.mp rx;cases ru;cases e;rfl
 |bl b=>
  cases W0.mp ry
  cases rt
  refine .inr ⟨b,rfl,?_⟩
  cases x with
  |non=>cases W5.mp rx;cases ru;cases e;show⟨rfl,λ_ z=>by cases z⟩
  |bl c=>cases W0.mp rx;cases ru;cases e;show⟨by cases b<;>cases c<;>rfl,λ_ z=>by cases z⟩
  |int i=>cases VY.mp rx;let⟨tk,rfl⟩:=ru;cases e;show⟨rfl,λ_ z=>by cases z⟩
  |str z=>cases W4.mp rx;let⟨tk,rfl⟩:=ru;cases e;show⟨rfl,λ_ z=>by cases z⟩
  |tup ds=>let⟨a,vs,rfl,_⟩:=W6 rx;cases ru;cases e;show⟨rfl,λ_ z=>by cases z⟩
  |con ds=>let⟨a,vs,rfl,_⟩:=W3.mp rx;cases ru;cases e;show⟨rfl,λ_ z=>by cases z⟩
  |ref a=>cases VZ.mp rx;cases ru;cases e;show⟨rfl,λ_ z=>by cases z⟩
  |fn z=>let⟨a,rfl,_⟩:=Wg.mp rx;cases ru;cases e;show⟨rfl,λ_ z=>by cases z⟩
 |_=>cases e
def z9:OpR X (Mt .IsNot) (l2 X.K u6):=by
 intro pins s σ H v w u t Q I ru rt h;let⟨x,y,M,rm,rx,ry,k,e,q⟩:=h;let fin:EP X pins σ Q (.bool (!k)) s:=⟨.bl (!k),H,I,rfl,q _ H Ext.refl rm (W0.mpr rfl)⟩
 rcases Dx e rx ry ru rt with⟨rfl,j⟩|⟨b,rfl,j,nb⟩
 ·show isnot_none_gen (by rw[j];show fin)
 ·show yZ nb (by rw[j];show fin)
abbrev di(r r':R2d)(ta tb tc:TEd):TEd:=λρ M Q=>ta ρ M λx M1=>tb ρ M1 λy M2=>r x y M2 λz M3=>∃k,z=.bl k/\(if k=Wi then tc ρ M3 λw M4=>r' y w M4 Q else Q (.bl Wj) M3)
def gh(F:ay r)(B:ay r')(G:ae ta)(J:ae tb)(L:ae tc):ae (di r r' ta tb tc):=λρ M Q Q' i q=>
 G _ _ _ _ (λx fv O=>J _ _ _ _ (λy M2 U=>F _ _ _ _ _ (λz M3 ⟨k,e,j⟩=>⟨k,e,by
  cases k with
  |true=>rw[if_pos rfl]at j⊢;show L _ _ _ _ (λw M4 Y=>B _ _ _ _ _ i Y) j
  |false=>rw[if_neg Lg]at j⊢;show i _ _ j⟩) U) O) q
def kj(hr:ay r)(Y:ay r')(ma:ae ta)(mb:ae tb)(mc:ae tc)(σ:St)(H:Hp)(Q:VK)(h:lE X.K (di r r' ta tb tc) σ H Q):oA (l2 X.K r) (l2 X.K r') (lE X.K ta) (lE X.K tb) (lE X.K tc) σ H Q:=by
 let⟨ρ,M,rs,rm,q⟩:=h;calc⟨ρ,M,rs,rm,ma _ _ _ _ (λx M1 q1 v H1 J j fv=>?_) q⟩;calc⟨ρ,M1,rs.mono (J.stab rm),j,mb _ _ _ _ (λy M2 q2 w H2 L B G=>?_) q1⟩;calc⟨x,y,M2,B,fv.mono (L.stab j),G,hr _ _ _ _ _ (λz M3 g9 v3 H3 U F IK=>?_) q2⟩;let⟨k,e,O⟩:=g9;subst e;refine⟨k,W0.mp IK,?_⟩
 cases k with
 |true=>rw[if_pos rfl]at O⊢;calc⟨ρ,M3,(((rs.mono (J.stab rm)).mono (L.stab j)).mono (U.stab B)),F,mc _ _ _ _ (λw4 M4 q4 v4 H4 x4 IM IN=>?_) O⟩;show⟨y,w4,M4,IM,(G.mono (U.stab B)).mono (x4.stab F),IN,Y _ _ _ _ _ (λd M5 k5=>k5.ext (((J.trans L).trans U).trans x4)) q4⟩
 |false=>rw[if_neg Lg]at O⊢;show O (.bl Wj) H3 ((J.trans L).trans U) F (W0.mpr rfl)
abbrev lj:D->Option Bool
 |.bl b=>Z b
 |.int i=>Z (i != 0)
 |_=>N2
abbrev pB:RAd:=λxs M Q=>∃x ds ts,xs=[x]/\aQ M x=Z ds/\ax lj ds=Z ts/\Q (.bl (ts.all id)) M
abbrev u7:RAd:=λxs M Q=>∃x ds ts,xs=[x]/\aQ M x=Z ds/\ax lj ds=Z ts/\Q (.bl (ts.any id)) M
def pC:aV pB:=λ_ _ _ _ h j=>(by let⟨x,ds,ts,e,z,B,q⟩:=j;show⟨x,ds,ts,e,z,B,h _ _ q⟩)
def pD:aV u7:=λ_ _ _ _ h j=>(by let⟨x,ds,ts,e,z,B,q⟩:=j;show⟨x,ds,ts,e,z,B,h _ _ q⟩)
def pE{α β:Type}{f:α->Option β}:∀{xs:List α} {ys:List β},ax f xs=Z ys->ys.length=xs.length/\∀(i:Nat) x,xs[i]?=Z x->∃y,ys[i]?=Z y/\f x=Z y
 |[],ys,h=>by cases h;show⟨rfl,λi x e=>by simp at e⟩
 |x::xs,ys,h=>by
  simp only[ax]at h
  cases j:f x with
  |none=>rw[j]at h;cases h
  |some y=>
   rw[j]at h;simp only[QM]at h
   cases e2:ax f xs with
   |none=>rw[e2]at h;cases h
   |some r=>
    rw[e2]at h;cases h;let⟨l,g⟩:=pE e2;refine⟨by simp[l],λi z e=>?_⟩
    cases i with
    |zero=>simp at e;subst e;show⟨y,rfl,j⟩
    |succ i=>simp at e;simpa using g i z e
def Bo{P:LN}{w:Mq}{A:Mz}{E:q7->J4->Prop}{K:Frag}{d:D}{b:Bool}{Q:Bool->J4->Prop}(e:lj d=Z b)(rd:RD K H d v)(ru:RelV v u)(q:Q b s):Lu (model P w) A (truthy u) Q E s:=by
 cases d with
 |bl c=>cases W0.mp rd;cases ru;cases e;show NB q
 |int i=>cases VY.mp rd;let⟨t,rfl⟩:=ru;cases e;show PyProof.Rows.truthy_int q
 |_=>cases e
def range_all{ts:List Bool}:(Lc ts.length).all (λi=>ts.getD i Wj)=ts.all id/\(Lc ts.length).any (λi=>ts.getD i Wj)=ts.any id:=by
 let e:(Lc ts.length).map (λi=>ts.getD i Wj)=ts:=by
  apply List.ext_getElem
  ·simp
  ·intro i h1 h2;simp[Lw,z4 h2]
 constructor
 ·conv=>rhs;rw[<-e]
  rw[List.all_map];rfl
 ·conv=>rhs;rw[<-e]
  rw[List.any_map];rfl
def pF(J:X.calm=Wi){pins:List (Wk×Obj)}{σ:St}{M:Mem}{x:D}{ds:List D}{ts:List Bool}{Q:q7->J4->Prop}{g:List Bool->Bool}(I:Inv X pins σ H s)(rm:RM X.K M H)(rd:RD X.K H x v)(ru:RelV v u)(U:aQ M x=Z ds)(Y:ax lj ds=Z ts)(fin:∀h' tk,Inv X pins σ H {s with heap:=h',toks:=tk}->Q (.bool (g ts)) {s with heap:=h',toks:=tk})(gg:Nat->(Nat->Bool)->Bool)(L:gg ts.length (λi=>ts.getD i Wj)=g ts):
 Lu (model X.prog X.w) X.A.in1 (Ua u) (λit s₂=>∃I fp wr n P St tr,it=.ref I/\Walks X.prog X.w X.A.in1 I fp wr n P St/\St 0 s₂.heap/\TruthOf X.prog X.w X.A.in1 P tr /\
  ∀h' tk,(∀b o,b∉wr->s₂.heap.get? b=Z o->h'.get? b=Z o)->Q (.bool (gg n tr)) {s₂ with heap:=h',toks:=tk}) X.xe s:=by
 let⟨p,vs,rfl,sq,O⟩:=vD rm rd U
 cases ru
 let⟨lt,get⟩:=pE Y;let lv:=O.length;let tr:∀(its:List q7),Vals vs its->TruthOf X.prog X.w X.A.in1 (λi w=>its.toArray[i]?=Z w) (λi=>ts.getD i Wj):=by
  intro its rv i w s' Q' E' fv B;let q:its[i]?=Z w:=by simpa using fv
  let li:=rv.length;let hi:i<its.length:=(L5.mp q).1;obtain⟨d,hd⟩:∃d,ds[i]?=Z d:=⟨ds[i]'∅,z4 ∅⟩
  let⟨v',F,rd'⟩:=O.get hd;let⟨u',z,ru'⟩:=rv.get F;rw[q]at z;cases z;let⟨b,hb,eb⟩:=get i d hd;let:ts.getD i Wj=b:=by rw[Lw,hb];rfl
  let B:Q' (ts.getD i Wj) s':=B;rw[this]at B;show Bo eb rd' ru' B
 rcases sq with sq|sq
 ·let⟨its,rv,pl,hz⟩:=I.list sq;let li:=rv.length;let j:p<s.heap.objs.size:=by let⟨o,n,e,_⟩:=pl;show Lr e
  refine Ot pl.isList ⟨s.heap.objs.size,_,_,_,_,_,_,rfl,Walks.list (by rw[Ug];show I.ok.hd J) s.heap.objs.size p (Md j) its.toArray,⟨⟨_,Lk _ rfl,rfl,rfl⟩,pl.isList.at λo e=>D2 _ e⟩,tr its rv,λh' tk k=>?_⟩
  let G:its.toArray.size=ts.length:=by rw[Lo];lia
  rw[G,L];show fin h' tk (I.kept (t':=tk) λb o e=>k b o (by simp;show Md (Lr e)) (D2 _ e))
 ·let⟨its,rv,pl,hz⟩:=I.tuple sq;let li:=rv.length;let j:p<s.heap.objs.size:=by let⟨o,e,_⟩:=pl;show Lr e
  let pt:s.heap.IsTuple p its.toArray:=pl;refine NP pt ⟨s.heap.objs.size,_,_,_,_,_,_,rfl,Walks.tuple (by rw[Ug];show I.ok.hd J) s.heap.objs.size p (Md j) its.toArray,⟨⟨_,Lk _ rfl,rfl,rfl⟩,pt.push _⟩,tr its rv,λh' tk k=>?_⟩
  let G:its.toArray.size=ts.length:=by rw[Lo];lia
  rw[G,L];show fin h' tk (I.kept (t':=tk) λb o e=>k b o (by simp;show Md (Lr e)) (D2 _ e))
def u8(j:X.calm=Wi):CallR X (.builtin "all") (lR X.K pB):=by intro pins s σ H xs us Q I rv h;let⟨ds,M,rm,rs,x,es,ts,rfl,z,B,q⟩:=h;let⟨v,rfl,r⟩:=rs.one;let⟨u,rfl,ru⟩:=cZ rv;show call_all_walk (pF j I rm r ru z B (g:=λts=>ts.all id) (λh' tk I'=>⟨.bl _,H,I',rfl,q _ H Ext.refl rm (W0.mpr rfl)⟩) (λn tr=>(Lc n).all tr) range_all.1)
def u9(j:X.calm=Wi):CallR X (.builtin "any") (lR X.K u7):=by intro pins s σ H xs us Q I rv h;let⟨ds,M,rm,rs,x,es,ts,rfl,z,B,q⟩:=h;let⟨v,rfl,r⟩:=rs.one;let⟨u,rfl,ru⟩:=cZ rv;show call_any_walk (pF j I rm r ru z B (g:=λts=>ts.any id) (λh' tk I'=>⟨.bl _,H,I',rfl,q _ H Ext.refl rm (W0.mpr rfl)⟩) (λn tr=>(Lc n).any tr) range_all.2)
abbrev nX(t:Bool):TEd:=λ_ M Q=>∀p,M p=N2->Q (.ref p) (ag M p (.dct t []))
def w9{t:Bool}:ae (nX t):=λ_ _ _ _ i q p n=>i _ _ (q p n)
def Bp{t:Bool}:PE X (.Dict [] [] pos) (lE X.K (nX t)):=by
 cases t with
 |false=>calc PE.imp yc λσ H Q g9 p n=>?_;let⟨ρ,M,rs,rm,q⟩:=g9;show q p (rm.out n) (.ref p) _ (Ext.lay n) (rm.lay n ⟨[],aA,.nil⟩) (VZ.mpr rfl)
 |true=>calc PE.imp yd λσ H Q g9 p n=>?_;let⟨ρ,M,rs,rm,q⟩:=g9;show q p (rm.out n) (.ref p) _ (Ext.lay n) (rm.lay n ⟨[],aA,.nil⟩) (VZ.mpr rfl)
def zc{op op':TX}{a b c:Expr}(ho:OpR X (Mt op) (l2 X.K r))(j:OpR X (Mt op') (l2 X.K r'))(z:ay r)(q:ay r')(ma:ae ta)(mb:ae tb)(mc:ae tc)(B:PE X a (lE X.K ta))(F:PE X b (lE X.K tb))(G:PE X c (lE X.K tc))(hm:Se [op,op'] [b,c]=Wj):PE X (.Compare a [op,op'] [b,c] pos) (lE X.K (di r r' ta tb tc)):=PE.imp (xQ ho j B F G hm) (kj z q ma mb mc)
def zd{op op':TX}{a b c:Expr}(ho:OpR X (Mt op) (l2 X.K r))(q:OpR X (Mt op') (l2 X.K r'))(z:ay r)(j:ay r')(ma:ae ta)(mb:ae tb)(mc:ae tc)(B:PE X a (lE X.K ta))(F:PE X b (lE X.K tb))(G:PE X c (lE X.K tc))(hm:Se [op,op'] [b,c]=Wj):PT X (.Compare a [op,op'] [b,c] pos) (lT X.K (fj (di r r' ta tb tc))):=PT.imp (xR ho q B F G hm) λσ H Q h=>kj z j ma mb mc σ H _ (oO (gh z j ma mb mc) σ H Q h)
end
end
end Mi
namespace Srt
structure Cm(prog:LN)(w:Mq)(A:Mz)(s:J4)(kd:Q9)(P:Le->Prop)(lt:Le->Le->Bool):Prop where
 asym:∀x y,lt x y=Wi->lt y x=Wj
 neg:∀x y z,lt x z=Wi->lt x y=Wi∨lt y z=Wi
 run:∀(x y:Le) (E:q7->J4->Prop) (Q:Bool->J4->Prop),P x->P y->Q (lt x y) s->Lu (LA prog w) A (keyLt' kd x.1 y.1) Q E s
variable{M:QE}{x y:Le}{st:MN}{i:Nat}
section
variable{prog:LN}{w:Mq}{A:Mz}{E:q7->J4->Prop}{s:J4}{kd:Q9}{P:Le->Prop}{lt:Le->Le->Bool}
def ad{σ α:Type}{x:α}{st:σ}{Q:α->σ->Prop}(q:Q x st):wpS M A E s (pure x) Q st:=λ_ _ _=>⟨rfl,q⟩
def cP{σ:Type}{tag:String}{st:σ}{Q:Unit->σ->Prop}(q:Q () st):wpS M A E s (liftM (PySem.rule tag)) Q st:=wpS_lift (NT ⟨rfl,q⟩)
def Bq{σ:Type}{st st':σ}{Q:PUnit->σ->Prop}(q:Q PUnit.unit st'):wpS M A E s (set st') Q st:=λ_ _ _=>⟨rfl,q⟩
def kl(c:Cm prog w A s kd P lt){Q:Option Bool->MN->Prop}(j:Nz st=kd)(hx:P x)(z:P y)(q:Q (Z (lt x y)) st):wpS (LA prog w) A E s (lt' x y) Q st:=by rw[lt'_eq];calc La (Qb ?_);calc La (wpS_lift ?_);rw[j];intro Γ p hp;rw[Sem.wp_attempt];show c.run x y (λe s'=>s'=s/\wpS (LA prog w) A E s (do modify λs=>QN (Nz s) (Mm s) (Lz s) (gallopOf s) (Z e);pure N2) Q st) (λb s'=>s'=s/\wpS (LA prog w) A E s (pure (Z b)) Q st) hx z ⟨rfl,ad q⟩ Γ p hp
def aF{arr:Array Le}{Q:Le->MN->Prop}(h:arr[i]?=Z x)(q:Q x st):wpS (LA prog w) A E s (elem' arr i) Q st:=by rw[elem'_eq,h];show ad q
def Cm.le_trans(c:Cm prog w A s kd P lt){z:Le}(h:lt y x=Wj)(h2:lt z y=Wj):lt z x=Wj:=by
 cases e:lt z x with
 |false=>rfl
 |true=>rcases c.neg z y x e with q|q<;>simp_all
def Cm.irr(c:Cm prog w A s kd P lt):lt x x=Wj:=by
 cases e:lt x x with
 |false=>rfl
 |true=>let:=c.asym x x e;rw[e]at this;show this
def aG{σ α:Type}{m:StateT σ Sem α}{st:σ}{Q Q':α->σ->Prop}(h:wpS M A E s m Q st)(q:∀a st',Q a st'->Q' a st'):wpS M A E s m Q' st:=O7 h (λa s' z=>⟨z.1,q _ _ z.2⟩) λ_ _ z=>z
end
noncomputable abbrev Dy:=Bool->Le->Array Le->Nat->Nat->Nat->StateT MN Sem (Option Nat)
noncomputable abbrev Dz:=Array Le->Array Le->StateT MN Sem (Array Le)
abbrev bey(lt:Le->Le->Bool)(left:Bool)(key x:Le):Bool:=if left=Wi then lt x key else !(lt key x)
structure Same(st st':MN):Prop where
 arr:Mm st'=Mm st
 kind:Nz st'=Nz st
 pend:Lz st'=Lz st
 fail:Oy st'=Oy st
abbrev iF(prog:LN)(w:Mq)(A:Mz)(E:q7->J4->Prop)(s:J4)(kd:Q9)(P:Le->Prop)(lt:Le->Le->Bool)(g:Dy):Prop:=
 ∀(left:Bool) (key:Le) (arr:Array Le) (L xs R:List Le) (base n hint:Nat) (st:MN) (Q:Option Nat->MN->Prop),Nz st=kd->P key->arr.toList=L++xs++R->base=L.length->n=xs.length->(∀x∈xs,P x)->hint<n->
  xs.Pairwise (λx y=>lt y x=Wj)->
  (∀X Y,xs=X++Y->(∀x∈X,bey lt left key x=Wi)->(∀x∈Y,bey lt left key x=Wj)->Q (Z X.length) st)->
  wpS (LA prog w) A E s (g left key arr base n hint) Q st
abbrev iG(prog:LN)(w:Mq)(A:Mz)(E:q7->J4->Prop)(s:J4)(kd:Q9)(P:Le->Prop)(lt:Le->Le->Bool)(m:Dz):Prop:=
 ∀(a b:Array Le) (st:MN) (Q:Array Le->MN->Prop),Nz st=kd->(∀x∈a.toList,P x)->(∀x∈b.toList,P x)->0<a.size->0<b.size->
  a.toList.Pairwise (λx y=>lt y x=Wj)->b.toList.Pairwise (λx y=>lt y x=Wj)->(∀x y,a[0]?=Z x->b[0]?=Z y->lt x y=Wj)->(∀x y,a[a.size-1]?=Z x->b[b.size-1]?=Z y->lt x y=Wj)->
  (∀r st',r.toList.Perm (a.toList++b.toList)->r.toList.Pairwise (λx y=>lt y x=Wj)->Same st st'->Q r st')->
  wpS (LA prog w) A E s (m a b) Q st
variable{left:Bool}{key:Le}{j ia ib na nb:Nat}{xs X l Y la lb:List Le}{a b:Array Le}
section
variable{prog:LN}{w:Mq}{A:Mz}{E:q7->J4->Prop}{s:J4}{kd:Q9}{P:Le->Prop}{lt:Le->Le->Bool}
def hJ(c:Cm prog w A s kd P lt){arr:Array Le}{Q:Option Bool->MN->Prop}(z:Nz st=kd)(hx:P key)(B:P x)(e:arr[j]?=Z x)(q:Q (Z (bey lt left key x)) st):
 wpS (LA prog w) A E s (do
  let x <-elem' arr j
  if left=Wi then lt' x key else do
   let r <-lt' key x
   pure (Option.map (λx=>!x) r)) Q st:=by
 refine La (aF e ?_)
 cases left with
 |true=>show kl c z B hx q
 |false=>show La (kl c z hx B (ad q))
def pG(c:Cm prog w A s kd P lt)(h:lt y x=Wj)(j:bey lt left key y=Wi):bey lt left key x=Wi:=by
 unfold bey at j⊢
 cases left with
 |true=>
  rw[if_pos rfl]at j⊢
  rcases c.neg y x key j with q|q
  ·rw[h]at q;cases q
  ·show q
 |false=>
  simp at j⊢
  cases e:lt key x with
  |false=>rfl
  |true=>
   rcases c.neg key y x e with q|q
   ·rw[j]at q;cases q
   ·rw[h]at q;cases q
structure Gal(lt:Le->Le->Bool)(left:Bool)(key:Le)(xs:List Le)(lo hi:Nat):Prop where
 le:lo<=hi
 len:hi<=xs.length
 up:∀i x,i<lo->xs[i]?=Z x->bey lt left key x=Wi
 dn:∀i x,hi<=i->xs[i]?=Z x->bey lt left key x=Wj
def fD{R:Le->Le->Prop}(h:xs.Pairwise R)(q:i<j)(hx:xs[i]?=Z x)(z:xs[j]?=Z y):R x y:=by let⟨h1,B⟩:=L5.mp hx;let⟨h2,F⟩:=L5.mp z;rw[<-B,<-F];show RI.mp h i j h1 h2 q
def iH(c:Cm prog w A s kd P lt)(h:xs.Pairwise (λx y=>lt y x=Wj))(q:xs[j]?=Z y)(z:bey lt left key y=Wi):∀i x,i<j+1->xs[i]?=Z x->bey lt left key x=Wi:=by
 intro i x hi hx
 by_cases e:i=j
 ·subst e;rw[hx]at q;cases q;show z
 ·show pG c (fD h ∅ hx q) z
def iI(c:Cm prog w A s kd P lt)(h:xs.Pairwise (λx y=>lt y x=Wj))(z:xs[j]?=Z y)(B:bey lt left key y=Wj):∀i x,j<=i->xs[i]?=Z x->bey lt left key x=Wj:=by
 intro i x hi hx
 by_cases e:i=j
 ·subst e;rw[hx]at z;cases z;show B
 ·cases q:bey lt left key x with
  |false=>rfl
  |true=>let:=pG c (fD h ∅ z hx) q;rw[B]at this;cases this
def Gal.out{k:Nat}(g:Gal lt left key xs k k):∃X Y,xs=X++Y/\X.length=k/\(∀x∈X,bey lt left key x=Wi)/\(∀x∈Y,bey lt left key x=Wj):=by
 refine⟨xs.take k,xs.drop k,(NG k xs).symm,by rw[LK];show OQ g.len,λx hx=>?_,λx hx=>?_⟩
 ·let⟨i,hi,e⟩:=Og.mp hx;rw[LK]at hi;show g.up i x ∅ (by rw[List.getElem_take]at e;rw[<-e];show z4 _)
 ·let⟨i,hi,e⟩:=Og.mp hx;rw[Ny]at hi;refine g.dn (k+i) x ∅ ?_
  rw[List.getElem_drop]at e;rw[<-e];show z4 _
noncomputable abbrev Ord(lt:Le->Le->Bool)(l:List Le):Prop:=l.Pairwise λx y=>lt y x=Wj
def pH{out A' B:List Le}(h1:Ord lt (out++(X++A')))(h2:Ord lt (out++B))(h:∀x∈X,∀y∈B,lt y x=Wj):Ord lt ((out++X)++A')/\Ord lt ((out++X)++B):=by
 refine⟨by rw[Lx];show h1,?_⟩
 rw[Lx];let⟨j,q,F⟩:=L6.mp h1;let⟨O,p2,G⟩:=L6.mp h2;let⟨J,U,Y⟩:=L6.mp q;refine L6.mpr ⟨j,L6.mpr ⟨J,p2,h⟩,λx hx y L=>?_⟩
 rcases Lb.mp L with z|z
 ·show F x hx y (Nu _ z)
 ·show G x hx y z
structure ML(lt:Le->Le->Bool)(la lb out:List Le)(ia ib:Nat):Prop where
 pa:Ord lt (out++la.drop ia)
 pb:Ord lt (out++lb.drop ib)
 pm:(out++(la.drop ia++lb.drop ib)).Perm (la++lb)
def rQ(c:Cm prog w A s kd P lt)(h:Ord lt (l.drop i))(j:l[i]?=Z y)(hx:lt y x=Wj):∀z∈l.drop i,lt z x=Wj:=by
 let⟨hi,e⟩:=L5.mp j;rw[Nh hi,e]at h⊢;intro z B
 rcases Lm.mp B with q|q
 ·rw[q];show hx
 ·show c.le_trans hx ((Nj.mp h).1 z q)
def eL(e:l.drop i=X++Y):l.drop (i+X.length)=Y:=by rw[<-RA,e,List.drop_left]
def ML.galA(c:Cm prog w A s kd P lt){out:List Le}(m:ML lt la lb out ia ib)(e:la.drop ia=X++Y)(j:lb[ib]?=Z y)(h:∀x∈X,lt y x=Wj):ML lt la lb (out++X) (ia+X.length) ib:=by
 let p2:=(L6.mp m.pb).2.1;let q:=pH (X:=X) (A':=Y) (by rw[<-e];show m.pa) m.pb λx hx=>rQ c p2 j (h x hx)
 refine⟨by rw[eL e];show q.1,q.2,?_⟩
 rw[eL e];calc OF.trans (Py ?_) m.pm;rw[e];simp
def ML.galB(c:Cm prog w A s kd P lt){out:List Le}(m:ML lt la lb out ia ib)(e:lb.drop ib=X++Y)(j:la[ia]?=Z y)(h:∀x∈X,lt y x=Wj):ML lt la lb (out++X) ia (ib+X.length):=by
 let p2:=(L6.mp m.pa).2.1;let q:=pH (X:=X) (A':=Y) (by rw[<-e];show m.pb) m.pa λx hx=>rQ c p2 j (h x hx)
 refine⟨q.2,by rw[eL e];show q.1,?_⟩
 rw[eL e];calc OF.trans ?_ m.pm;rw[e,Lx];calc MJ _ ?_;rw[<-Lx,<-Lx];show MY _ PM
def eM(h:l[i]?=Z x):l.drop i=[x]++l.drop (i+1):=by let⟨hi,e⟩:=L5.mp h;rw[Nh hi,e];rfl
def ML.pushA(c:Cm prog w A s kd P lt){out:List Le}(m:ML lt la lb out ia ib)(hx:la[ia]?=Z x)(j:lb[ib]?=Z y)(h:lt y x=Wj):ML lt la lb (out++[x]) (ia+1) ib:=m.galA c (eM hx) j (by simpa using h)
def ML.pushB(c:Cm prog w A s kd P lt){out:List Le}(m:ML lt la lb out ia ib)(hx:la[ia]?=Z x)(j:lb[ib]?=Z y)(h:lt x y=Wj):ML lt la lb (out++[y]) ia (ib+1):=m.galB c (eM j) hx (by simpa using h)
abbrev Res(lt:Le->Le->Bool)(la lb r:List Le):Prop:=r.Perm (la++lb)/\Ord lt r
def ML.fin{out:List Le}(m:ML lt la lb out ia ib)(h:lb.length<=ib):Res lt la lb (out++la.drop ia++lb.drop ib):=by rw[OC h,MB];calc⟨?_,m.pa⟩;let:=m.pm;rw[OC h,MB]at this;show this
def ML.finE{out:List Le}(m:ML lt la lb out ia ib)(h:la.length<=ia):Res lt la lb (out++la.drop ia++lb.drop ib):=by rw[OC h,MB];calc⟨?_,m.pb⟩;let:=m.pm;rw[OC h,R3]at this;show this
def ML.finA{out:List Le}(m:ML lt la lb out ia ib)(h:∀x∈lb,∀y∈la.drop ia,lt y x=Wj):Res lt la lb (out++lb.drop ib++la.drop ia):=by
 refine⟨?_,?_⟩
 ·calc OF.trans ?_ m.pm;rw[Lx];show MJ _ PM
 ·let⟨F,q,B⟩:=L6.mp m.pa;refine L6.mpr ⟨m.pb,q,λx hx y j=>?_⟩
  rcases Lb.mp hx with z|z
  ·show B x z y j
  ·show h x (PV z) y j
def ML.size{out:List Le}(m:ML lt la lb out ia ib)(j:ia<=la.length)(q:ib<=lb.length):out.length=ia+ib:=by let:=m.pm.length_eq;simp only[hH,Ny]at this;lia
def aK(h:i<a.size):∃x,a[i]?=Z x/\a.toList[i]?=Z x/\x∈a.toList:=by calc⟨a[i],Ma h,?_,Array.getElem_mem_toList h⟩;rw[LO];show Ma h
def bU:(a.extract i).toList=a.toList.drop i:=by rw[Oh];simp only[Qu];show Nk (_)
def Br(e:a.toList.drop i=X++Y):(a.extract i (i+X.length)).toList=X:=by rw[Oh];simp[Qu,e]
def Same.refl:Same st st:=⟨rfl,rfl,rfl,rfl⟩
def Same.trans{a b c:MN}(h:Same a b)(g:Same b c):Same a c:=⟨g.arr.trans h.arr,g.kind.trans h.kind,g.pend.trans h.pend,g.fail.trans h.fail⟩
def mV{O A' B:List Le}(h1:Ord lt (A'++(Y++O)))(h2:Ord lt (B++O))(h:∀y∈Y,∀x∈B,lt y x=Wj):Ord lt (B++(Y++O)):=by
 let⟨J,j,L⟩:=L6.mp h1;let⟨q,p2,F⟩:=L6.mp h2;refine L6.mpr ⟨q,j,λx hx y G=>?_⟩
 rcases Lb.mp G with z|z
 ·show h y z x hx
 ·show F x hx y z
structure MH(lt:Le->Le->Bool)(la lb out:List Le)(na nb:Nat):Prop where
 pa:Ord lt (la.take na++out.reverse)
 pb:Ord lt (lb.take nb++out.reverse)
 pm:(la.take na++lb.take nb++out.reverse).Perm (la++lb)
def iJ(c:Cm prog w A s kd P lt){n:Nat}(h:Ord lt (l.take n))(G:0<n)(B:l[n-1]?=Z y)(hx:lt x y=Wj):∀z∈l.take n,lt x z=Wj:=by
 intro z F;let⟨i,hi,e⟩:=Og.mp F;let j:(l.take n)[i]?=Z z:=by rw[<-e];show z4 hi
 let q:(l.take n)[n-1]?=Z y:=by rw[Ob ∅];show B
 rw[LK]at hi
 by_cases hin:i=n-1
 ·subst hin;rw[q]at j;cases j;show hx
 ·show c.le_trans (fD h ∅ j q) hx
def eN{n:Nat}(e:l.take n=X++Y):l.take X.length=X:=by
 let h:X.length<=n:=by let:=congrArg Pb e;simp only[LK,hH]at this;lia
 let h2:(l.take n).take X.length=X:=by rw[e,To]
 rw[List.take_take,OQ h]at h2;show h2
def MH.galA(c:Cm prog w A s kd P lt){out:List Le}(m:MH lt la lb out na nb)(e:la.take na=X++Y)(j:0<nb)(z:lb[nb-1]?=Z y)(h:∀x∈Y,lt x y=Wj):MH lt la lb (out++Y.reverse) X.length nb:=by
 let p2:=(L6.mp m.pb).1;let h1:Ord lt (X++(Y++out.reverse)):=by rw[<-Lx,<-e];show m.pa
 let q:=mV h1 m.pb λx hx=>iJ c p2 j z (h x hx);refine⟨by rw[eN e];simpa using h1,by simpa using q,?_⟩
 rw[eN e];calc OF.trans ?_ m.pm;rw[e];simp only[List.reverse_append,Tp,Lx];calc MJ _ ?_;rw[<-Lx,<-Lx];show MY _ PM
def MH.galB(c:Cm prog w A s kd P lt){out:List Le}(m:MH lt la lb out na nb)(e:lb.take nb=X++Y)(j:0<na)(z:la[na-1]?=Z y)(h:∀x∈Y,lt x y=Wj):MH lt la lb (out++Y.reverse) na X.length:=by
 let p2:=(L6.mp m.pa).1;let h1:Ord lt (X++(Y++out.reverse)):=by rw[<-Lx,<-e];show m.pb
 let q:=mV h1 m.pa λx hx=>iJ c p2 j z (h x hx);refine⟨by simpa using q,by rw[eN e];simpa using h1,?_⟩
 rw[eN e];calc OF.trans (Py ?_) m.pm;rw[e];simp
def cQ{n:Nat}(j:0<n)(h:l[n-1]?=Z x):l.take n=l.take (n-1)++[x]:=by
 obtain⟨k,rfl⟩:∃k,n=k+1:=⟨n-1,∅⟩
 rw[Uh]at h⊢;rw[NF,h];rfl
def rR{n:Nat}(j:0<n)(h:l[n-1]?=Z x):(l.take (n-1)).length=n-1:=by let⟨hi,_⟩:=L5.mp h;rw[LK];lia
def MH.pushA(c:Cm prog w A s kd P lt){out:List Le}(m:MH lt la lb out na nb)(j:0<na)(z:0<nb)(hx:la[na-1]?=Z x)(B:lb[nb-1]?=Z y)(h:lt x y=Wj):MH lt la lb (out++[x]) (na-1) nb:=by
 let q:=m.galA c (cQ j hx) z B (by simpa using h)
 rw[rR j hx]at q;simpa using q
def MH.pushB(c:Cm prog w A s kd P lt){out:List Le}(m:MH lt la lb out na nb)(B:0<na)(j:0<nb)(hx:la[na-1]?=Z x)(z:lb[nb-1]?=Z y)(h:lt y x=Wj):MH lt la lb (out++[y]) na (nb-1):=by
 let q:=m.galB c (cQ j z) B hx (by simpa using h)
 rw[rR j z]at q;simpa using q
def MH.fin{out:List Le}(m:MH lt la lb out na nb)(h:na=0∨nb=0):Res lt la lb (la.take na++lb.take nb++out.reverse):=by
 refine⟨m.pm,?_⟩
 rcases h with rfl|rfl
 ·simpa using m.pb
 ·simpa using m.pa
def MH.finB{out:List Le}(m:MH lt la lb out na nb)(h:∀x∈lb.take nb,∀y∈la,lt y x=Wj):Res lt la lb (lb.take nb++la.take na++out.reverse):=by
 calc⟨OF.trans (MY _ PM) m.pm,?_⟩;let⟨j,F,q⟩:=L6.mp m.pb;rw[Lx];refine L6.mpr ⟨j,m.pa,λx hx y B=>?_⟩
 rcases Lb.mp B with z|z
 ·show h x hx y (PX z)
 ·show q x hx y z
def MH.size{out:List Le}(m:MH lt la lb out na nb)(j:na<=la.length)(q:nb<=lb.length):out.length+na+nb=la.length+lb.length:=by let:=m.pm.length_eq;simp only[hH,LK,TR]at this;lia
def eZ:a.toList.take a.size=a.toList:=Nk (_)
def br:(a.extract 0 i).toList=a.toList.take i:=by rw[Oh];simp[Qu]
def ze{n:Nat}(e:a.toList.take n=X++Y):(a.extract X.length n).toList=Y:=by rw[Oh];simp only[Qu];rw[<-List.drop_take,e,List.drop_left]
def zf:∀(m old L R:List Le) (a:Array Le),a.toList=L++old++R->m.length=old.length->(QI (λa x=>a.setIfInBounds (L.length+x.snd) x.fst) a m.zipIdx).toList=L++m++R:=by
 let g:∀(m old L R:List Le) (k:Nat) (a:Array Le),a.toList=L++old++R->m.length=old.length->∀b:Nat,b+k=L.length->(QI (λa x=>a.setIfInBounds (b+x.snd) x.fst) a (m.zipIdx k)).toList=L++m++R:=by
  intro m
  induction m with
  |nil=>intro old L R k a e h b j;let:old=[]:=LV.mp h.symm;subst this;simpa using e
  |cons x m ih=>
   intro old L R k a e h b j
   cases old with
   |nil=>simp at h
   |cons y old=>
    rw[Si,Nl];let q:(a.setIfInBounds (b+k) x).toList=(L++[x])++old++R:=by rw[RB,e,j];simp
    let:=ih old (L++[x]) R (k+1) _ q (by simpa using h) b (by simp;lia)
    rw[this];simp
 showλm old L R a e h=>g m old L R 0 a e h L.length ∅
def ai{σ α:Type}{p:Prop}[Decidable p]{j q:StateT σ Sem α}{st:σ}{Q:α->σ->Prop}(h1:p->wpS M A E s j Q st)(h2:¬p->wpS M A E s q Q st):wpS M A E s (if p then j else q) Q st:=by
 split
 ·next h=>show h1 h
 ·next h=>show h2 h
def ML.cut{out:Array Le}{n:Nat}(m:ML lt la lb (out.toList++X) i j)(e:a.toList.drop n=X++Y):ML lt la lb (out++a.extract n (n+X.length)).toList i j:=by rw[Lv,Br e];show m
def MH.cut{out:Array Le}{n:Nat}(m:MH lt la lb (out.toList++Y.reverse) i j)(e:a.toList.take n=X++Y):MH lt la lb (out++(a.extract X.length n).reverse).toList i j:=by rw[Lv,Mg,ze e];show m
def wa{σ α:Type}{m:StateT σ Sem α}{st:σ}{Q:α->σ->Prop}{P:σ->Prop}(j:P st)(h:∀st',P st'->wpS M A E s m Q st'):wpS M A E s m Q st:=h st j
def A8{σ α:Type}{m:StateT σ Sem α}{st:σ}{Q:α->σ->Prop}(h:∀Q':α->σ->Prop,(∀a st',Q a st'->Q' a st')->wpS M A E s m Q' st):wpS M A E s m Q st:=h Q λ_ _ h=>h
def A9(h:bey lt Wj key x=Wi):lt key x=Wj:=by simpa[bey]using h
def wb(h:bey lt Wj key x=Wj):lt key x=Wi:=by simpa[bey]using h
def Aa(h:bey lt Wi key x=Wi):lt x key=Wi:=by simpa[bey]using h
def wc(h:bey lt Wi key x=Wj):lt x key=Wj:=by simpa[bey]using h
def pI(e:l.drop i=X++Y)(h:l[i+X.length]?=Z x):x∈Y:=by rw[<-eL e,eM h];simp
def pJ{n:Nat}(e:l.take n=X++Y)(h0:0<X.length)(h:l[X.length-1]?=Z x):x∈X:=by let:=cQ h0 h;rw[eN e]at this;rw[this];simp
def pK(e:a.toList.drop i=X++Y):X.length<=a.size-i:=by let:=congrArg Pb e;simp at this;lia
def mW{n:Nat}(e:a.toList.take n=X++Y)(h:n<=a.size):X.length+Y.length=n:=by let:=congrArg Pb e;simp at this;lia
def gj{n:Nat}(h:n<=a.size):n=(a.toList.take n).length:=by simp;lia
def ML.finR{out:Array Le}(m:ML lt a.toList b.toList out.toList ia ib)(h:b.size<=ib):Res lt a.toList b.toList (out++a.extract ia++b.extract ib).toList:=by
 let:=m.fin (by simpa using h)
 simpa only[Lv,bU]using this
def ML.finS{out:Array Le}(m:ML lt a.toList b.toList out.toList ia ib)(h:a.size<=ia):Res lt a.toList b.toList (out++a.extract ia++b.extract ib).toList:=by
 let:=m.finE (by simpa using h)
 simpa only[Lv,bU]using this
def ML.finL{out:Array Le}(m:ML lt a.toList b.toList out.toList ia ib)(h:∀x∈b.toList,∀y∈a.toList.drop ia,lt y x=Wj):Res lt a.toList b.toList (out++b.extract ib++a.extract ia).toList:=by let:=m.finA h;simpa only[Lv,bU]using this
def MH.finR{out:Array Le}(m:MH lt a.toList b.toList out.toList na nb)(h:∀x∈b.toList.take nb,∀y∈a.toList,lt y x=Wj):Res lt a.toList b.toList (b.extract 0 nb++a.extract 0 na++out.reverse).toList:=by let:=m.finB h;simpa only[Lv,Mg,br]using this
def MH.finL{out:Array Le}(m:MH lt a.toList b.toList out.toList na nb)(h:na=0∨nb=0):Res lt a.toList b.toList (a.extract 0 na++b.extract 0 nb++out.reverse).toList:=by let:=m.fin h;simpa only[Lv,Mg,br]using this
def Ff(c:Cm prog w A s kd P lt):
 ∃(g:Dy) (lo hi:Dz),(iF prog w A E s kd P lt g/\(iF prog w A E s kd P lt g->iG prog w A E s kd P lt lo)/\(iF prog w A E s kd P lt g->iG prog w A E s kd P lt hi))/\(iF prog w A E s kd P lt g->iG prog w A E s kd P lt lo->iG prog w A E s kd P lt hi->
  ∀(i sa na pa sb nb pb:Nat) (L r1 r2 R:List Le) (st:MN) (Q:Bool->MN->Prop),Nz st=kd->Oy st=N2->(Lz st)[i]?=Z (sa,na,pa)->(Lz st)[i+1]?=Z (sb,nb,pb)->
   (Mm st).toList=L++(r1++r2)++R->sa=L.length->na=r1.length->sb=L.length+r1.length->nb=r2.length->r1≠[]->r2≠[]->(∀x∈r1,P x)->(∀x∈r2,P x)->Ord lt r1->Ord lt r2->
   (∀m st',(Mm st').toList=L++m++R->m.Perm (r1++r2)->Ord lt m->Nz st'=kd->Oy st'=N2->Lz st'=((Lz st).setIfInBounds i (sa,na+nb,pa)).eraseIdxIfInBounds (i+1)->Q Wi st')->
   wpS (LA prog w) A E s (VJ i) Q st):=by
 apply UH;apply UH;apply UH;apply QK
 rotate_left
 ·intro hg KD KF i sa na pa sb nb pb L r1 r2 R st Q hk hf h1 h2 fv JZ Jq K0 JF KG KH Kb Kc o1 o2 q;unfold VJ;calc La (Qb ?_);rw[h1,h2];dsimp only;calc La (Bq ?_);obtain⟨y0,t2,rfl⟩:∃y t,r2=y::t:=by cases r2 with|nil=>show absurd rfl KH|cons y t=>show⟨y,t,rfl⟩
  let hz:(Mm st)[sb]?=Z y0:=by rw[<-LO,fv,K0];simp
  calc La (aF hz ?_);refine La (hg Wj y0 (Mm st) L r1 (y0::t2++R) sa na 0 _ _ hk (Kc _ (_)) (by rw[fv];simp) JZ Jq Kb (by rw[Jq];show MR.mpr KG) o1 λX Y e hX hY=>?_)
  dsimp only;let lX:∀x∈X,lt y0 x=Wj:=λx hx=>by let:=hX x hx;simpa[bey]using this
  let lY:∀x∈Y,lt x y0=Wj:=λx hx=>c.asym _ _ (by let:=hY x hx;simpa[bey]using this)
  let hlen:na-X.length=Y.length:=by rw[Jq,e];simp
  subst e;let⟨oX,oY,oXY⟩:=L6.mp o1;let oy:=Nj.mp o2;let K1:∀x∈X,∀z∈y0::t2,lt z x=Wj:=λx hx z hz=>by
   rcases Lm.mp hz with h|h
   ·rw[h];show lX x hx
   ·show c.le_trans (lX x hx) (oy.1 z h)
  refine ai (λh=>?_) (λh=>?_)
  ·let K2:Y=[]:=LV.mp (by rw[<-hlen];simpa using h)
   subst K2;refine ad (q (X++(y0::t2)) _ (by simpa using fv) (_) ?_ hk hf rfl)
   show L6.mpr ⟨oX,o2,K1⟩
  ·let K2:0<Y.length:=by
    let:na-X.length≠0:=by simpa using h
    lia
   obtain⟨Y0,xl,rfl⟩:∃Y0 xl,Y=Y0++[xl]:=⟨Y.dropLast,Y.getLast (by intro z;rw[z]at K2;simp at K2),(Ox _).symm⟩
   let KI:(Mm st)[sa+X.length+(na-X.length)-1]?=Z xl:=by
    rw[<-LO,fv,hlen,JZ];simp only[Lx,hH,LC];rw[L3 ∅,L3 ∅,L3 ∅]
    rw[show L.length+X.length+(Y0.length+1)-1-L.length-X.length-Y0.length=0 by lia];rfl
   calc La (aF KI ?_);refine La (hg Wi xl (Mm st) (L++(X++(Y0++[xl]))) (y0::t2) R sb nb (nb-1) _ _ hk (Kb _ (_)) (by rw[fv];simp) (by rw[K0];simp) JF Kc (by rw[JF];simp) o2 λX2 Y2 e2 Jr Js=>?_)
   dsimp only;let KJ:∀x∈X2,lt xl x=Wj:=λx hx=>c.asym _ _ (by let:=Jr x hx;simpa[bey]using this)
   let Km:∀x∈Y2,lt x xl=Wj:=λx hx=>by let:=Js x hx;simpa[bey]using this
   let KK:Ord lt (X2++Y2):=by rw[<-e2];show o2
   let⟨KL,KM,Ko⟩:=L6.mp KK;let⟨KW,_,oYl⟩:=L6.mp oY;let lYY:∀x∈Y0++[xl],∀z∈Y2,lt z x=Wj:=λx hx z hz=>by
    rcases Lb.mp hx with h|h
    ·show c.le_trans (oYl x h xl (_)) (Km z hz)
    ·simp at h;subst h;show Km z hz
   refine ai (λh=>?_) (λh=>?_)
   ·let Jk:X2=[]:=LV.mp (by simpa using h)
    subst Jk;let e2:y0::t2=Y2:=by simpa using e2
    refine ad (q (X++(Y0++[xl])++(y0::t2)) _ (by simpa using fv) (Tq _) ?_ hk hf rfl)
    refine L6.mpr ⟨o1,o2,λx hx z hz=>?_⟩
    rcases Lb.mp hx with g|g
    ·show K1 x g z hz
    ·show lYY x g z (by rw[<-e2];show hz)
   ·let Jk:X2≠[]:=λz=>h (by rw[z];rfl)
    let hx:((Mm st).extract (sa+X.length) sb).toList=Y0++[xl]:=by
     rw[Oh,fv,JZ,K0];simp only[Qu];let e1:(L++(X++(Y0++[xl])++y0::t2)++R).drop (L.length+X.length)=(Y0++[xl])++(y0::t2++R):=by rw[<-RA];simp
     rw[e1,show L.length+(X++(Y0++[xl])).length-(L.length+X.length)=(Y0++[xl]).length by simp only[hH];lia,To]
    let hy:((Mm st).extract sb (sb+X2.length)).toList=X2:=by
     rw[Oh,fv,K0];simp only[Qu];let e1:(L++(X++(Y0++[xl])++y0::t2)++R).drop (L.length+(X++(Y0++[xl])).length)=(y0::t2)++R:=by rw[<-RA];simp
     rw[e1,e2];simp
    let G:∀(r:Array Le) (IO:MN),r.toList.Perm ((Y0++[xl])++X2)->Ord lt r.toList->Same (PyProof.Rows.SortSt.mk' (Nz st) (Mm st) (((Lz st).setIfInBounds i (sa,na+nb,pa)).eraseIdxIfInBounds (i+1)) (gallopOf st) (Oy st)) IO->∀IK:MN,Mm IK=QI (λa x=>a.setIfInBounds (sa+X.length+x.snd) x.fst) (Mm IO) r.toList.zipIdx->Nz IK=Nz IO->Oy IK=Oy IO->Lz IK=Lz IO->Q (Oy IK).isNone IK:=by
     intro r IO hp ho hs IK g1 g2 g3 g4;let Kq:Oy IK=N2:=g3.trans (hs.fail.trans hf);rw[Kq];refine q (X++r.toList++Y2) IK ?_ ?_ ?_ (g2.trans (hs.kind.trans hk)) Kq (g4.trans hs.pend)
     ·rw[g1,hs.arr];let e3:(Mm st).toList=(L++X)++((Y0++[xl])++X2)++(Y2++R):=by
       rw[fv,e2];simp
      rw[show sa+X.length=(L++X).length by rw[JZ];simp]
      rw[zf _ _ _ _ _ e3 (hp.length_eq)];simp
     ·rw[e2];calc OF.trans (MY _ (MJ _ hp)) ?_;simp
     ·refine L6.mpr ⟨L6.mpr ⟨oX,ho,λx hx z hz=>?_⟩,KM,λx hx z hz=>?_⟩
      ·rcases Lb.mp (hp.mem_iff.mp hz)with g|g
       ·show oXY x hx z g
       ·show K1 x hx z (by rw[e2];show Nu _ g)
      ·rcases Lb.mp hx with g|g
       ·show K1 x g z (by rw[e2];show LH _ hz)
       ·rcases Lb.mp (hp.mem_iff.mp g)with g|g
        ·show lYY x g z hz
        ·show Ko x g z hz
    let K9:∀x y,((Mm st).extract (sa+X.length) sb)[0]?=Z x->((Mm st).extract sb (sb+X2.length))[0]?=Z y->lt x y=Wj:=by
     intro x y Jc JG;rw[<-LO,hx]at Jc;rw[<-LO,hy]at JG;let JH:=Lh Jc;let:y=y0:=by
      cases X2 with
      |nil=>show absurd rfl Jk
      |cons z t=>simp at e2 JG;rw[<-JG,<-e2.1]
     subst this;show lY x JH
    let preL:∀x y,((Mm st).extract (sa+X.length) sb)[((Mm st).extract (sa+X.length) sb).size-1]?=Z x->((Mm st).extract sb (sb+X2.length))[((Mm st).extract sb (sb+X2.length)).size-1]?=Z y->lt x y=Wj:=by
     intro x y Jc JG;rw[<-LO,<-LI,hx]at Jc;rw[<-LO,<-LI,hy]at JG;let Jd:=Lh JG;let:x=xl:=by simp at Jc;show Jc.symm
     subst this;show KJ y Jd
    let Kr:0<((Mm st).extract (sa+X.length) sb).size:=by rw[<-LI,hx];simp
    let Ks:0<((Mm st).extract sb (sb+X2.length)).size:=by rw[<-LI,hy];show MR.mpr Jk
    let Ku:∀x∈((Mm st).extract (sa+X.length) sb).toList,P x:=by rw[hx];showλx hx=>Kb x (LH _ hx)
    let Kv:∀x∈((Mm st).extract sb (sb+X2.length)).toList,P x:=by rw[hy];showλx hx=>Kc x (by rw[e2];show Nu _ hx)
    let Kw:Ord lt ((Mm st).extract (sa+X.length) sb).toList:=by rw[hx];show oY
    let Kx:Ord lt ((Mm st).extract sb (sb+X2.length)).toList:=by rw[hy];show KL
    refine ai (λh=>?_) (λh=>?_)
    ·calc La (KD _ _ _ _ hk Ku Kv Kr Ks Kw Kx K9 preL λr IO hp ho hs=>?_);rw[hx,hy]at hp;calc La (O9 ?_);calc La (Qb ?_);show ad (G r IO hp ho hs _ rfl rfl rfl rfl)
    ·calc La (KF _ _ _ _ hk Ku Kv Kr Ks Kw Kx K9 preL λr IO hp ho hs=>?_);rw[hx,hy]at hp;calc La (O9 ?_);calc La (Qb ?_);show ad (G r IO hp ho hs _ rfl rfl rfl rfl)
 apply QK
 ·intro left key arr L xs R base n hint st Q hk Jl fv Ke hn hP hh hs q;subst Ke hn;let at_:∀i,i<xs.length->∃x,xs[i]?=Z x/\arr[L.length+i]?=Z x/\P x:=by
   intro i hi;calc⟨xs[i],z4 hi,?_,hP _ (Nm _)⟩;rw[<-LO,fv,Lx,L3 ∅,L8 ∅]
   rw[show L.length+i-L.length=i by lia]
   show z4 hi
  let⟨x0,Jc,JI,KN⟩:=at_ hint hh;refine La (hJ c hk Jl KN JI ?_)
  try dsimp only
  refine ai (λhb=>?_) (λhb=>?_)
  ·skip
   refine La (aG (Q:=λr st'=>st'=st/\∃la ofs,r=(N2,la,ofs)/\hint+la<xs.length/\la<ofs/\(∀j x,j<hint+la+1->xs[j]?=Z x->bey lt left key x=Wi)/\(xs.length<=hint+ofs∨∀j x,hint+ofs<=j->xs[j]?=Z x->bey lt left key x=Wj))
    (MK (λi r st'=>st'=st/\∃la ofs,r=(N2,la,ofs)/\hint+la<xs.length/\la<ofs/\i+1<=ofs/\(∀j x,j<hint+la+1->xs[j]?=Z x->bey lt left key x=Wi)) ?_ ?_ ⟨rfl,0,1,rfl,hh,∅,∅,iH c hs Jc hb⟩) ?_)
   ·rintro i r st' _ hi ⟨rfl,la,ofs,rfl,h1,h2,h3,h4⟩
    try dsimp only
    refine ai (λJt=>?_) (λJt=>?_)
    ·show ad ⟨rfl,la,ofs,rfl,h1,h2,h4,.inl ∅⟩
    ·skip
     let⟨x1,J7,Ju,Jv⟩:=at_ (hint+ofs) ∅
     refine La (hJ c hk Jl Jv Ju ?_)
     try dsimp only
     refine ai (λhf=>?_) (λhf=>?_)
     ·show ad ⟨rfl,la,ofs,rfl,h1,h2,h4,.inr (iI c hs J7 (by simpa using hf))⟩
     ·show ad ⟨rfl,ofs,2*ofs+1,rfl,∅,∅,∅,iH c hs J7 (by simpa using hf)⟩
   ·rintro r st' ⟨rfl,la,ofs,rfl,h1,h2,h3,h4⟩;show⟨rfl,la,ofs,rfl,h1,h2,h4,.inl ∅⟩
   ·rintro r st' ⟨rfl,la,ofs,rfl,h1,h2,h3,h4⟩
    try dsimp only
    let hG:Gal lt left key xs (hint+la+1) (hint+min ofs (xs.length-hint)):=by
     refine⟨∅,∅,h3,λi x hi hx=>?_⟩
     let KY:i<xs.length:=(L5.mp hx).1
     rcases h4 with h4|h4
     ·lia
     ·show h4 i x ∅ hx
    generalize hint+la+1=lo at hG;generalize hint+min ofs (xs.length-hint)=hi at hG;refine La (aG (Q:=λr st''=>st''=st'/\∃k,r=(N2,k,k)/\Gal lt left key xs k k)
     (MK (λi r st''=>st''=st'/\∃lo hi,r=(N2,lo,hi)/\Gal lt left key xs lo hi/\hi-lo+i<=xs.length) ?_ ?_ ⟨rfl,lo,hi,rfl,hG,by let:=hG.len;lia⟩) ?_)
    ·rintro i r st'' _ hi ⟨rfl,lo,hi,rfl,hG,hm⟩
     try dsimp only
     let hl:=hG.le;let JJ:=hG.len;refine ai (λJt=>?_) (λJt=>?_)
     ·show ad ⟨rfl,hi,by rw[show lo=hi by lia],by rw[show lo=hi by lia]at hG;show hG⟩
     ·skip
      let⟨x1,J7,Ju,Jv⟩:=at_ (lo+(hi-lo) / 2) ∅
      refine La (hJ c hk Jl Jv Ju ?_)
      try dsimp only
      refine ai (λhf=>?_) (λhf=>?_)
      ·show ad ⟨rfl,_,_,rfl,⟨∅,JJ,iH c hs J7 hf,hG.dn⟩,∅⟩
      ·show ad ⟨rfl,_,_,rfl,⟨∅,∅,hG.up,iI c hs J7 (by simpa using hf)⟩,∅⟩
    ·rintro r st'' ⟨rfl,lo,hi,rfl,hG,hm⟩;let hl:=hG.le;show⟨rfl,hi,by rw[show lo=hi by lia],by rw[show lo=hi by lia]at hG;show hG⟩
    ·rintro r st'' ⟨rfl,k,rfl,hG⟩;let⟨X,Y,e,hl,hX,hY⟩:=hG.out;subst hl;show ad (q X Y e hX hY)
  ·skip
   refine La (aG (Q:=λr st'=>st'=st/\∃la ofs,r=(N2,la,ofs)/\la<=hint/\la<ofs/\(∀j x,hint-la<=j->xs[j]?=Z x->bey lt left key x=Wj)/\(hint<ofs∨∀j x,j<hint-ofs+1->xs[j]?=Z x->bey lt left key x=Wi))
    (MK (λi r st'=>st'=st/\∃la ofs,r=(N2,la,ofs)/\la<=hint/\la<ofs/\i+1<=ofs/\(∀j x,hint-la<=j->xs[j]?=Z x->bey lt left key x=Wj)) ?_ ?_ ⟨rfl,0,1,rfl,∅,∅,∅,iI c hs Jc (by simpa using hb)⟩) ?_)
   ·rintro i r st' _ hi ⟨rfl,la,ofs,rfl,h1,h2,h3,h4⟩
    try dsimp only
    refine ai (λJt=>?_) (λJt=>?_)
    ·show ad ⟨rfl,la,ofs,rfl,h1,h2,h4,.inl ∅⟩
    ·skip
     let⟨x1,J7,Ju,Jv⟩:=at_ (hint-ofs) ∅
     refine La (hJ c hk Jl Jv Ju ?_)
     try dsimp only
     refine ai (λhf=>?_) (λhf=>?_)
     ·show ad ⟨rfl,la,ofs,rfl,h1,h2,h4,.inr (iH c hs J7 hf)⟩
     ·show ad ⟨rfl,ofs,2*ofs+1,rfl,∅,∅,∅,iI c hs J7 (by simpa using hf)⟩
   ·rintro r st' ⟨rfl,la,ofs,rfl,h1,h2,h3,h4⟩;show⟨rfl,la,ofs,rfl,h1,h2,h4,.inl ∅⟩
   ·rintro r st' ⟨rfl,la,ofs,rfl,h1,h2,h3,h4⟩
    try dsimp only
    let hG:Gal lt left key xs (hint+1-min ofs (hint+1)) (hint-la):=by
     refine⟨∅,∅,λi x hi hx=>?_,h3⟩
     rcases h4 with h4|h4
     ·lia
     ·show h4 i x ∅ hx
    generalize hint+1-min ofs (hint+1)=lo at hG;generalize hint-la=hi at hG;refine La (aG (Q:=λr st''=>st''=st'/\∃k,r=(N2,k,k)/\Gal lt left key xs k k)
     (MK (λi r st''=>st''=st'/\∃lo hi,r=(N2,lo,hi)/\Gal lt left key xs lo hi/\hi-lo+i<=xs.length) ?_ ?_ ⟨rfl,lo,hi,rfl,hG,by let:=hG.len;lia⟩) ?_)
    ·rintro i r st'' _ hi ⟨rfl,lo,hi,rfl,hG,hm⟩
     try dsimp only
     let hl:=hG.le;let JJ:=hG.len;refine ai (λJt=>?_) (λJt=>?_)
     ·show ad ⟨rfl,hi,by rw[show lo=hi by lia],by rw[show lo=hi by lia]at hG;show hG⟩
     ·skip
      let⟨x1,J7,Ju,Jv⟩:=at_ (lo+(hi-lo) / 2) ∅
      refine La (hJ c hk Jl Jv Ju ?_)
      try dsimp only
      refine ai (λhf=>?_) (λhf=>?_)
      ·show ad ⟨rfl,_,_,rfl,⟨∅,JJ,iH c hs J7 hf,hG.dn⟩,∅⟩
      ·show ad ⟨rfl,_,_,rfl,⟨∅,∅,hG.up,iI c hs J7 (by simpa using hf)⟩,∅⟩
    ·rintro r st'' ⟨rfl,lo,hi,rfl,hG,hm⟩;let hl:=hG.le;show⟨rfl,hi,by rw[show lo=hi by lia],by rw[show lo=hi by lia]at hG;show hG⟩
    ·rintro r st'' ⟨rfl,k,rfl,hG⟩;let⟨X,Y,e,hl,hX,hY⟩:=hG.out;subst hl;show ad (q X Y e hX hY)
 apply QK
 ·intro hg a b st Q hk Jw Jx K5 K6 sa sb JK JL q;calc La (cP ?_);let⟨b0,K7,JM,KP⟩:=aK K6;let⟨a0,JI,JD,KQ⟩:=aK K5;calc La (aF K7 ?_);let m0:ML lt a.toList b.toList [] 0 0:=⟨sa,sb,by simp⟩
  let m1:ML lt a.toList b.toList [b0] 0 1:=m0.pushB c JD JM (JK a0 b0 JI K7);let Je:∀x∈b.toList,∀(i:Nat),i+1=a.size->∀y∈a.toList.drop i,lt y x=Wj:=by
   intro x hx i hi y hy;let⟨aL,K8,JN,_⟩:=aK (a:=a) (i:=i) ∅
   let⟨bL,Kf,JE,_⟩:=aK (a:=b) (i:=b.size-1) ∅
   let e:a.toList.drop i=[aL]:=by rw[eM JN,OC (by simp;lia)];rfl
   rw[e]at hy;simp at hy;subst hy;let hl:=JL y bL (by rw[show a.size-1=i by lia];show K8) Kf
   let⟨j,hj,e⟩:=Og.mp hx;let Jy:b.toList[j]?=Z x:=by rw[<-e];show z4 hj
   by_cases hjb:j=b.size-1
   ·subst hjb;rw[JE]at Jy;cases Jy;show hl
   ·let:=fD sb (show j<b.size-1 by simp at hj;lia) Jy JE
    show c.le_trans this hl
  try dsimp -zeta -zetaHave -zetaUnused only
  refine ai (λh=>?_) (λh=>?_)
  ·skip
   let h:1=b.size:=by simpa using h
   calc ad ?_;let r:=m1.fin (by simp;lia)
   show q _ _ (by simpa only[Lv,Ly,LX,bU]using r.1) (by simpa only[Lv,Ly,LX,bU]using r.2) Same.refl
  ·skip
   refine ai (λh2=>?_) (λh2=>?_)
   ·skip
    let h2:0+1=a.size:=by simpa using h2
    calc ad ?_;let r:=m1.finA (Je · · 0 h2);show q _ _ (by simpa only[Lv,Ly,LX,bU]using r.1) (by simpa only[Lv,Ly,LX,bU]using r.2) Same.refl
   ·skip
    let h:1≠b.size:=by simpa using h
    let h2:0+1≠a.size:=by simpa using h2
    refine La (Qb ?_)
    try dsimp -zeta -zetaHave -zetaUnused only
    refine La (aG (Q:=λr st'=>Same st st'/\∃res t,r=(Z res,t)/\Res lt a.toList b.toList res.toList)
     (MK (λi r st'=>Same st st'/\∃out ia ib mg,r=(N2,out,ia,ib,mg)/\ML lt a.toList b.toList out.toList ia ib/\ia+1<a.size/\ib<b.size/\i+1<=out.size) ?_ ?_ ⟨Same.refl,_,_,_,_,rfl,m1,∅,∅,by simp⟩) ?_)
    ·rintro i r J8 _ hi ⟨sm,out,ia,ib,mg,rfl,m,Kg,Kh,hsz⟩
     try dsimp -zeta -zetaHave -zetaUnused only
     refine La (aG (Q:=λr st'=>st'=J8/\((∃B IY J2 ac bc,r=(N2,B,IY,J2,ac,bc)/\ML lt a.toList b.toList B.toList IY J2/\IY+1<a.size/\J2<b.size/\i+2<=B.size)∨∃res t,r=(Z res,t)/\Res lt a.toList b.toList res.toList))
      (MK (λj r st'=>st'=J8/\∃B IY J2 ac bc,r=(N2,B,IY,J2,ac,bc)/\ML lt a.toList b.toList B.toList IY J2/\IY+1<a.size/\J2<b.size/\i+1+j<=B.size) ?_ ?_ ⟨rfl,_,_,_,_,_,rfl,m,Kg,Kh,∅⟩) ?_)
     ·rintro j r IO _ hj ⟨rfl,B,IY,J2,ac,bc,rfl,m2,h1,h2,h3⟩
      try dsimp only
      let⟨y,hy,J9,Jd⟩:=aK (a:=b) h2;let⟨x,hx,JO,JH⟩:=aK (a:=a) (i:=IY) ∅
      refine La (aF hy (La (aF hx (La (kl c (sm.kind.trans hk) (Jx _ Jd) (Jw _ JH) ?_)))))
      try dsimp only
      refine ai (λhl=>?_) (λhl=>?_)
      ·skip
       refine La (aF hy ?_)
       try dsimp only
       let m3:=m2.pushB c JO J9 (c.asym _ _ hl);refine ai (λh=>?_) (λh=>?_)
       ·skip
        let h:J2+1=b.size:=by simpa using h
        show ad ⟨rfl,.inr ⟨_,_,rfl,by simpa only[Lv,Ly,LX,bU]using m3.fin (by simp;lia)⟩⟩
       ·skip
        let h:J2+1≠b.size:=by simpa using h
        refine ai (λ_=>?_) (λ_=>?_)
        ·show ad ⟨rfl,.inl ⟨_,_,_,_,_,rfl,by simpa only[Lv,Ly]using m3,h1,∅,by simp;lia⟩⟩
        ·show ad ⟨rfl,_,_,_,_,_,rfl,by simpa only[Lv,Ly]using m3,h1,∅,by simp;lia⟩
      ·skip
       refine La (aF hx ?_)
       try dsimp only
       let m3:=m2.pushA c JO J9 (by simpa using hl)
       refine ai (λh=>?_) (λh=>?_)
       ·skip
        let h:IY+1+1=a.size:=by simpa using h
        show ad ⟨rfl,.inr ⟨_,_,rfl,by simpa only[Lv,Ly,LX,bU]using m3.finA (Je · · _ h)⟩⟩
       ·skip
        let h:IY+1+1≠a.size:=by simpa using h
        refine ai (λ_=>?_) (λ_=>?_)
        ·show ad ⟨rfl,.inl ⟨_,_,_,_,_,rfl,by simpa only[Lv,Ly]using m3,∅,h2,by simp;lia⟩⟩
        ·show ad ⟨rfl,_,_,_,_,_,rfl,by simpa only[Lv,Ly]using m3,∅,h2,by simp;lia⟩
     ·rintro r IO ⟨rfl,B,IY,J2,ac,bc,rfl,m2,h1,h2,h3⟩;show⟨rfl,.inl ⟨_,_,_,_,_,rfl,m2,h1,h2,∅⟩⟩
     ·rintro r IO ⟨rfl,⟨B,IY,J2,ac,bc,rfl,m2,h1,h2,h3⟩|⟨res,t,rfl,J⟩⟩
      ·dsimp -zeta -zetaHave -zetaUnused only;calc La (cP ?_);refine La (aG (Q:=fun r st'=>Same st st'/\((∃F IQ IM IZ ac bc,r=(N2,F,IQ,IM,IZ,ac,bc)/\ML lt a.toList b.toList F.toList IQ IM/\IQ+1<a.size/\IM<b.size/\i+2<=F.size)∨∃res t,r=(Z res,t)/\Res lt a.toList b.toList res.toList))
        (MK (λj r st'=>Same st st'/\∃F IQ IM IZ ac bc,r=(N2,F,IQ,IM,IZ,ac,bc)/\ML lt a.toList b.toList F.toList IQ IM/\IQ+1<a.size/\IM<b.size/\i+2<=F.size) ?_ ?_ ⟨sm,_,_,_,_,_,_,rfl,m2,h1,h2,h3⟩) ?_)
       ·rintro j r IK _ hj ⟨J0,F,IQ,IM,IZ,JP,JQ,rfl,m3,h1,h2,h5⟩;let⟨y,hy,J9,Jd⟩:=aK (a:=b) h2;calc A8 λQQ hQ=>?_;let G:∀(st':MN) (res:Array Le) t,Same st st'->Res lt a.toList b.toList res.toList->QQ (.done (Z res,t)) st':=λst' res t hs hr=>hQ _ _ ⟨hs,.inr ⟨_,_,rfl,hr⟩⟩;let Ki:∀(st':MN) (out:Array Le) ia ib mg ac bc,Same st st'->ML lt a.toList b.toList out.toList ia ib->ia+1<a.size->ib<b.size->i+2<=out.size->QQ (.done (N2,out,ia,ib,mg,ac,bc)) st'/\QQ (.yield (N2,out,ia,ib,mg,ac,bc)) st':=λst' out ia ib mg ac bc hs p1 p2 p3 p4=>⟨hQ _ _ ⟨hs,.inl ⟨_,_,_,_,_,_,rfl,p1,p2,p3,p4⟩⟩,hQ _ _ ⟨hs,_,_,_,_,_,_,rfl,p1,p2,p3,p4⟩⟩;clear hQ hj
        extract_lets -underBinder s0 vout s1 via s2 vib s3 vmg s4 vac vbc jp vmx
        let JR:∀mg,wpS (LA prog w) A E s (jp () mg) QQ IK:=by
         intro mg;dsimp -zeta -zetaHave -zetaUnused only[jp,s0,vout,s1,via,s2,vib,s3,vmg,s4,vac,vbc];clear vmx jp vbc vac s4 vmg s3 vib s2 via s1 vout s0;calc La (O9 ?_);calc wa (P:=Same st) (J0.trans ⟨rfl,rfl,rfl,rfl⟩) λJz IR=>?_;let JS:=IR.kind.trans hk;calc La (aF hy ?_);refine La (hg Wj y a (a.toList.take IQ) (a.toList.drop IQ) [] _ _ _ _ _ JS (Jx _ Jd) (_) (gj ∅) (_) (λx hx=>Jw x (PV hx)) ∅ ((L6.mp m3.pa).2.1) λX Y e hX hY=>?_)
         dsimp -zeta -zetaHave -zetaUnused only;let m4:=m3.galA c e J9 λx hx=>A9 (hX x hx);let IS:∀x4,a.toList[IQ+X.length]?=Z x4->lt x4 y=Wj:=λx4 Jf=>c.asym _ _ (wb (hY x4 (pI e Jf)));let JA:=pK e
         extract_lets -underBinder +onlyGivenNames vac Jg
         clear_value vac
         let Jm:∀(O:Array Le) (Ja:Nat),ML lt a.toList b.toList O.toList Ja IM->(∀x4,a.toList[Ja]?=Z x4->lt x4 y=Wj)->Ja+1<a.size->i+2<=O.size->wpS (LA prog w) A E s (Jg () O Ja) QQ Jz:=by
          intro O Ja Kj Jh KR JT;dsimp -zeta -zetaHave -zetaUnused only[Jg];clear Jg JA IS m4 hX hY;let⟨x4,Jf,IW,JU⟩:=aK (a:=a) (i:=Ja) ∅
          calc La (aF hy ?_);let m5:=Kj.pushB c IW J9 (Jh x4 IW);rw[<-Ly]at m5;let IX:i+2<=(O.push y).size:=by rw[R7];lia
          try dsimp -zeta -zetaHave -zetaUnused only
          extract_lets -underBinder +onlyGivenNames vo5 vi5
          dsimp -zeta -zetaHave -zetaUnused only[vo5];clear vo5;let e5:vi5=IM+1:=rfl
          clear_value vi5
          subst e5
          revert m5 IX
          generalize O.push y=out5;intro m5 IX;refine ai (λh=>?_) (λh=>?_)
          ·show ad (G _ _ _ IR (m5.finR (by let h:=OO h;lia)))
          ·let h:IM+1≠b.size:=by simpa using h
           calc La (aF Jf ?_);refine La (hg Wi x4 b (b.toList.take (IM+1)) (b.toList.drop (IM+1)) [] _ _ _ _ _ JS (Jw _ JU) (_) (gj ∅) (_) (λx hx=>Jx x (PV hx)) ∅ ((L6.mp m5.pb).2.1) λX2 Y2 e2 Jr Js=>?_)
           dsimp -zeta -zetaHave -zetaUnused only;let m6:=m5.galB c e2 IW λx hx=>c.asym _ _ (Aa (Jr x hx));let IT:∀y6,b.toList[IM+1+X2.length]?=Z y6->lt y6 x4=Wj:=λy6 JV=>wc (Js y6 (pI e2 JV));let JB:=pK e2
           extract_lets -underBinder +onlyGivenNames vbc Ji
           clear_value vbc
           let Jn:∀(IN:Array Le) (JC:Nat),ML lt a.toList b.toList IN.toList Ja JC->(∀y6,b.toList[JC]?=Z y6->lt y6 x4=Wj)->JC<b.size->i+2<=IN.size->wpS (LA prog w) A E s (Ji () IN JC) QQ Jz:=by
            intro IN JC Kk Jj Ka Kz;dsimp -zeta -zetaHave -zetaUnused only[Ji];clear Ji JB IT m6 Jr Js m5 IX JT h5 h1 h2 hsz Kh Kg h3;let⟨y6,JV,Jo,KA⟩:=aK (a:=b) (i:=JC) Ka;calc La (aF Jf ?_);let m7:=Kk.pushA c IW Jo (Jj y6 Jo);rw[<-Ly]at m7;dsimp only;refine ai (λh=>?_) (λh=>?_)
            ·show ad (G _ _ _ IR (m7.finL (Je · · (Ja+1) (OO h))))
            ·let h:Ja+1+1≠a.size:=by simpa using h
             let:=Ki Jz (IN.push x4) (Ja+1) JC mg vac vbc IR m7 ∅ Ka (by rw[R7];lia)
             show ai (λ_=>ad this.1) (λ_=>ad this.2)
           clear_value Ji
           refine ai (λh0=>?_) (λh0=>?_)
           ·dsimp only;let m6:=m6.cut (a:=b) e2;refine ai (λh=>?_) (λh=>?_)
            ·show ad (G _ _ _ IR (m6.finR (by let h:=OO h;lia)))
            ·let h:IM+1+X2.length≠b.size:=by simpa using h
             show Jn _ _ m6 IT ∅ (by rw[PN];lia)
           ·let Jk:X2=[]:=LV.mp ∅
            subst Jk;show Jn _ _ m5 IT ∅ IX
         clear_value Jg
         refine ai (λh0=>?_) (λh0=>?_)
         ·dsimp only;let m4:=m4.cut (a:=a) e;refine ai (λh=>?_) (λh=>?_)
          ·show ad (G _ _ _ IR (m4.finL (Je · · _ (OO h))))
          ·let h:IQ+X.length+1≠a.size:=by simpa using h
           refine ai (λh=>?_) (λh9=>?_)
           ·show ad (G _ _ _ IR (m4.finS (by let h:=OO h;lia)))
           ·let h9:IQ+X.length≠a.size:=by simpa using h9
            show Jm _ _ m4 IS ∅ (by rw[PN];lia)
         ·let Jk:X=[]:=LV.mp ∅
          subst Jk;show Jm _ _ m3 IS h1 h5
        clear_value jp
        show ai (λ_=>JR _) (λ_=>JR _)
       ·rintro r IK ⟨J0,F,IQ,IM,IZ,JP,JQ,rfl,m3,h1,h2,h5⟩;show⟨J0,.inl ⟨_,_,_,_,_,_,rfl,m3,h1,h2,h5⟩⟩
       ·rintro r IK ⟨J0,⟨F,IQ,IM,IZ,JP,JQ,rfl,m3,h1,h2,h5⟩|⟨res,t,rfl,J⟩⟩
        ·dsimp -zeta -zetaHave -zetaUnused only;calc La (O9 ?_);show ad ⟨J0.trans ⟨rfl,rfl,rfl,rfl⟩,_,_,_,_,rfl,m3,h1,h2,∅⟩
        ·show ad ⟨J0,_,_,rfl,J⟩
      ·show ad ⟨sm,_,_,rfl,J⟩
    ·rintro r J8 ⟨sm,out,ia,ib,mg,rfl,m,Kg,Kh,hsz⟩;let:=m.size (by simp;lia) (by simp;lia)
     simp at this;lia
    ·rintro r J8 ⟨sm,res,t,rfl,J⟩;show ad (q res J8 J.1 J.2 sm)
 ·intro hg a b st Q hk Jw Jx K5 K6 sa sb JK JL q;calc La (cP ?_);let⟨bL,Kf,JE,KS⟩:=aK (a:=b) (i:=b.size-1) ∅
  let⟨aL,K8,JN,KU⟩:=aK (a:=a) (i:=a.size-1) ∅
  calc La (aF K8 ?_);let m0:MH lt a.toList b.toList [] a.size b.size:=⟨by rw[eZ];simpa using sa,by rw[eZ];simpa using sb,by rw[eZ,eZ];simp⟩
  let m1:MH lt a.toList b.toList [aL] (a.size-1) b.size:=m0.pushA c K5 K6 JN JE (JL aL bL K8 Kf);let J6:∀x∈b.toList.take 1,∀y∈a.toList,lt y x=Wj:=by
   intro x hx y hy;let⟨b0,K7,JM,_⟩:=aK K6;let⟨a0,JI,JD,_⟩:=aK K5;let ex:x=b0:=by
    rw[cQ ∅ JM]at hx
    simpa using hx
   subst ex;let h:=JK a0 x JI K7;let⟨j,hj,e⟩:=Og.mp hy;let Jy:a.toList[j]?=Z y:=by rw[<-e];show z4 hj
   by_cases hj0:j=0
   ·subst hj0;rw[JD]at Jy;cases Jy;show h
   ·show c.le_trans h (fD sa ∅ JD Jy)
  try dsimp -zeta -zetaHave -zetaUnused only
  refine ai (λh=>?_) (λh=>?_)
  ·skip
   let h:a.size-1=0:=by simpa using h
   calc ad ?_;let r:=m1.fin (.inl h);show q _ _ (by simpa only[Lv,Ly,Mg,LX,br]using r.1) (by simpa only[Lv,Ly,Mg,LX,br]using r.2) Same.refl
  ·skip
   refine ai (λh2=>?_) (λh2=>?_)
   ·skip
    let h2:b.size=1:=by simpa using h2
    calc ad ?_;let r:=m1.finB (by rw[h2];show J6)
    show q _ _ (by simpa only[Lv,Ly,Mg,LX,br]using r.1) (by simpa only[Lv,Ly,Mg,LX,br]using r.2) Same.refl
   ·skip
    let h:a.size-1≠0:=by simpa using h
    let h2:b.size≠1:=by simpa using h2
    refine La (Qb ?_)
    try dsimp -zeta -zetaHave -zetaUnused only
    refine La (aG (Q:=λr st'=>Same st st'/\∃res t,r=(Z res,t)/\Res lt a.toList b.toList res.toList)
     (MK (λi r st'=>Same st st'/\∃na nb out mg,r=(N2,na,nb,out,mg)/\MH lt a.toList b.toList out.toList na nb/\0<na/\1<nb/\na<a.size/\nb<=b.size/\i+1<=out.size) ?_ ?_ ⟨Same.refl,_,_,_,_,rfl,m1,∅,∅,∅,∅,by simp⟩) ?_)
    ·rintro i r J8 _ hi ⟨sm,na,nb,out,mg,rfl,m,Jq,JF,JW,JX,hsz⟩
     try dsimp -zeta -zetaHave -zetaUnused only
     refine La (aG (Q:=λr st'=>st'=J8/\((∃IU IV B ac bc,r=(N2,IU,IV,B,ac,bc)/\MH lt a.toList b.toList B.toList IU IV/\0<IU/\1<IV/\IU<a.size/\IV<=b.size/\i+2<=B.size)∨∃res t,r=(Z res,t)/\Res lt a.toList b.toList res.toList))
      (MK (λj r st'=>st'=J8/\∃IU IV B ac bc,r=(N2,IU,IV,B,ac,bc)/\MH lt a.toList b.toList B.toList IU IV/\0<IU/\1<IV/\IU<a.size/\IV<=b.size/\i+1+j<=B.size) ?_ ?_ ⟨rfl,_,_,_,_,_,rfl,m,Jq,JF,JW,JX,∅⟩) ?_)
     ·rintro j r IO _ hj ⟨rfl,IU,IV,B,ac,bc,rfl,m2,h1,h2,J1,J3,h3⟩
      try dsimp only
      let⟨y,hy,J9,Jd⟩:=aK (a:=b) (i:=IV-1) ∅
      let⟨x,hx,JO,JH⟩:=aK (a:=a) (i:=IU-1) ∅
      refine La (aF hy (La (aF hx (La (kl c (sm.kind.trans hk) (Jx _ Jd) (Jw _ JH) ?_)))))
      try dsimp only
      refine ai (λhl=>?_) (λhl=>?_)
      ·skip
       refine La (aF hx ?_)
       try dsimp only
       let m3:=m2.pushA c h1 ∅ JO J9 (c.asym _ _ hl)
       refine ai (λh=>?_) (λh=>?_)
       ·skip
        let h:IU-1=0:=by simpa using h
        show ad ⟨rfl,.inr ⟨_,_,rfl,by let r:=m3.fin (.inl h);simpa only[Lv,Ly,Mg,LX,br]using r⟩⟩
       ·skip
        let h:IU-1≠0:=by simpa using h
        refine ai (λ_=>?_) (λ_=>?_)
        ·show ad ⟨rfl,.inl ⟨_,_,_,_,_,rfl,by simpa only[Lv,Ly,Mg,LX,br]using m3,∅,h2,∅,J3,by simp;lia⟩⟩
        ·show ad ⟨rfl,_,_,_,_,_,rfl,by simpa only[Lv,Ly,Mg,LX,br]using m3,∅,h2,∅,J3,by simp;lia⟩
      ·skip
       refine La (aF hy ?_)
       try dsimp only
       let m3:=m2.pushB c h1 ∅ JO J9 (by simpa using hl)
       refine ai (λh=>?_) (λh=>?_)
       ·skip
        let h:IV-1=1:=by simpa using h
        show ad ⟨rfl,.inr ⟨_,_,rfl,by let r:=m3.finB (by rw[h];show J6);simpa only[Lv,Ly,Mg,LX,br]using r⟩⟩
       ·skip
        let h:IV-1≠1:=by simpa using h
        refine ai (λ_=>?_) (λ_=>?_)
        ·show ad ⟨rfl,.inl ⟨_,_,_,_,_,rfl,by simpa only[Lv,Ly,Mg,LX,br]using m3,h1,∅,J1,∅,by simp;lia⟩⟩
        ·show ad ⟨rfl,_,_,_,_,_,rfl,by simpa only[Lv,Ly,Mg,LX,br]using m3,h1,∅,J1,∅,by simp;lia⟩
     ·rintro r IO ⟨rfl,IU,IV,B,ac,bc,rfl,m2,h1,h2,J1,J3,h3⟩;show⟨rfl,.inl ⟨_,_,_,_,_,rfl,m2,h1,h2,J1,J3,∅⟩⟩
     ·rintro r IO ⟨rfl,⟨IU,IV,B,ac,bc,rfl,m2,h1,h2,J1,J3,h3⟩|⟨res,t,rfl,J⟩⟩
      ·try dsimp -zeta -zetaHave -zetaUnused only
       calc La (cP ?_);refine La (aG (Q:=λr st'=>Same st st'/\((∃IP U F IZ ac bc,r=(N2,IP,U,F,IZ,ac,bc)/\MH lt a.toList b.toList F.toList IP U/\0<IP/\1<U/\IP<a.size/\U<=b.size/\i+2<=F.size)∨∃res t,r=(Z res,t)/\Res lt a.toList b.toList res.toList))
        (MK (λj r st'=>Same st st'/\∃IP U F IZ ac bc,r=(N2,IP,U,F,IZ,ac,bc)/\MH lt a.toList b.toList F.toList IP U/\0<IP/\1<U/\IP<a.size/\U<=b.size/\i+2<=F.size) ?_ ?_ ⟨sm,_,_,_,_,_,_,rfl,m2,h1,h2,J1,J3,h3⟩) ?_)
       ·rintro j r IK _ hj ⟨J0,IP,U,F,IZ,JP,JQ,rfl,m3,h1,h2,J1,J3,h5⟩;let⟨y,hy,J9,Jd⟩:=aK (a:=b) (i:=U-1) ∅
        calc A8 λQQ hQ=>?_;let G:∀(st':MN) (res:Array Le) t,Same st st'->Res lt a.toList b.toList res.toList->QQ (.done (Z res,t)) st':=λst' res t hs hr=>hQ _ _ ⟨hs,.inr ⟨_,_,rfl,hr⟩⟩;let Ki:∀(st':MN) (out:Array Le) na nb mg ac bc,Same st st'->MH lt a.toList b.toList out.toList na nb->0<na->1<nb->na<a.size->nb<=b.size->i+2<=out.size->QQ (.done (N2,na,nb,out,mg,ac,bc)) st'/\QQ (.yield (N2,na,nb,out,mg,ac,bc)) st':=λst' out ia ib mg ac bc hs p1 p2 p3 p4 p5 p6=>⟨hQ _ _ ⟨hs,.inl ⟨_,_,_,_,_,_,rfl,p1,p2,p3,p4,p5,p6⟩⟩,hQ _ _ ⟨hs,_,_,_,_,_,_,rfl,p1,p2,p3,p4,p5,p6⟩⟩;clear hQ hj
        extract_lets -underBinder s0 vna s1 vnb s2 vout s3 vmg s4 vac vbc jp vmx
        let JR:∀mg,wpS (LA prog w) A E s (jp () mg) QQ IK:=by
         intro mg;dsimp -zeta -zetaHave -zetaUnused only[jp,s0,vna,s1,vnb,s2,vout,s3,vmg,s4,vac,vbc];clear vmx jp vbc vac s4 vmg s3 vout s2 vnb s1 vna s0;calc La (O9 ?_);calc wa (P:=Same st) (J0.trans ⟨rfl,rfl,rfl,rfl⟩) λJz IR=>?_;let JS:=IR.kind.trans hk;calc La (aF hy ?_);refine La (hg Wj y a [] (a.toList.take IP) (a.toList.drop IP) _ _ _ _ _ JS (Jx _ Jd) (_) rfl (gj ∅) (λx hx=>Jw x (PX hx)) ∅ ((L6.mp m3.pa).1) λX Y e hX hY=>?_)
         dsimp -zeta -zetaHave -zetaUnused only;let m4:=m3.galA c e ∅ J9 λx hx=>c.asym _ _ (wb (hY x hx))
         let IS:0<X.length->∀x4,a.toList[X.length-1]?=Z x4->lt y x4=Wj:=λh0 x4 Jf=>A9 (hX x4 (pJ e h0 Jf));let JA:=mW e ∅
         extract_lets -underBinder +onlyGivenNames vk vac Jg
         clear_value vac
         let Jm:∀(Jb:Nat) (O:Array Le),MH lt a.toList b.toList O.toList Jb U->(∀x4,a.toList[Jb-1]?=Z x4->lt y x4=Wj)->0<Jb->Jb<a.size->i+2<=O.size->wpS (LA prog w) A E s (Jg () Jb O) QQ Jz:=by
          intro Jb O Kj Jh JY KO JT;dsimp -zeta -zetaHave -zetaUnused only[Jg];clear Jg vk JA IS m4 hX hY;let⟨x4,Jf,IW,JU⟩:=aK (a:=a) (i:=Jb-1) ∅
          calc La (aF hy ?_);let m5:=Kj.pushB c JY ∅ IW J9 (Jh x4 IW)
          rw[<-Ly]at m5;let IX:i+2<=(O.push y).size:=by rw[R7];lia
          try dsimp -zeta -zetaHave -zetaUnused only
          extract_lets -underBinder +onlyGivenNames vo5
          dsimp -zeta -zetaHave -zetaUnused only[vo5];clear vo5
          revert m5 IX
          generalize O.push y=out5;intro m5 IX;refine ai (λh=>?_) (λh=>?_)
          ·show ad (G _ _ _ IR (m5.finR (by rw[OO h];show J6)))
          ·let h:U-1≠1:=by simpa using h
           calc La (aF Jf ?_);refine La (hg Wi x4 b [] (b.toList.take (U-1)) (b.toList.drop (U-1)) _ _ _ _ _ JS (Jw _ JU) (_) rfl (gj ∅) (λx hx=>Jx x (PX hx)) ∅ ((L6.mp m5.pb).1) λX2 Y2 e2 Jr Js=>?_)
           dsimp -zeta -zetaHave -zetaUnused only;let m6:=m5.galB c e2 JY IW λx hx=>wc (Js x hx);let IT:0<X2.length->∀y6,b.toList[X2.length-1]?=Z y6->lt x4 y6=Wj:=λh0 y6 JV=>c.asym _ _ (Aa (Jr y6 (pJ e2 h0 JV)));let JB:=mW e2 ∅
           extract_lets -underBinder +onlyGivenNames vk vbc Ji
           clear_value vbc
           let Jn:∀(Jp:Nat) (IN:Array Le),MH lt a.toList b.toList IN.toList Jb Jp->(∀y6,b.toList[Jp-1]?=Z y6->lt x4 y6=Wj)->1<Jp->Jp<=b.size->i+2<=IN.size->wpS (LA prog w) A E s (Ji () Jp IN) QQ Jz:=by
            intro Jp IN Kk Jj KB Kl Kz;dsimp -zeta -zetaHave -zetaUnused only[Ji];clear Ji vk JB IT m6 Jr Js m5 IX JT h5 h1 h2 J1 J3 hsz Jq JF JW JX h3;let⟨y6,JV,Jo,KA⟩:=aK (a:=b) (i:=Jp-1) ∅
            calc La (aF Jf ?_);let m7:=Kk.pushA c JY ∅ IW Jo (Jj y6 Jo)
            rw[<-Ly]at m7;dsimp only;refine ai (λh=>?_) (λh=>?_)
            ·show ad (G _ _ _ IR (m7.finL (.inl (OO h))))
            ·let h:Jb-1≠0:=by simpa using h
             let:=λmg ac bc=>Ki Jz (IN.push x4) (Jb-1) Jp mg ac bc IR m7 ∅ KB ∅ Kl (by rw[R7];lia)
             show ai (λ_=>ad (this _ _ _).1) (λ_=>ad (this _ _ _).2)
           clear_value Ji
           refine ai (λh0=>?_) (λh0=>?_)
           ·dsimp only;let m6:=m6.cut (a:=b) e2;refine ai (λh=>?_) (λh=>?_)
            ·show ad (G _ _ _ IR (m6.finR (by rw[OO h];show J6)))
            ·let h:X2.length≠1:=by simpa using h
             refine ai (λh9=>?_) (λh9=>?_)
             ·show ad (G _ _ _ IR (m6.finL (.inr (OO h9))))
             ·let h9:X2.length≠0:=by simpa using h9
              show Jn _ _ m6 (IT ∅) ∅ ∅ (by rw[PN];lia)
           ·let h0:¬(U-1-X2.length > 0):=h0;let hl:X2.length=U-1:=by lia
            let JJ:0<X2.length:=∅
            let hr:=IT JJ;rw[hl]at hr;show Jn _ _ m5 hr ∅ ∅ IX
         clear_value Jg
         refine ai (λh0=>?_) (λh0=>?_)
         ·dsimp only;let m4:=m4.cut (a:=a) e;refine ai (λh=>?_) (λh=>?_)
          ·show ad (G _ _ _ IR (m4.finL (.inl (OO h))))
          ·let h:X.length≠0:=by simpa using h
           show Jm _ _ m4 (IS ∅) ∅ ∅ (by rw[PN];lia)
         ·let h0:¬(IP-X.length > 0):=h0;let hl:X.length=IP:=by lia
          let hr:=IS ∅
          rw[hl]at hr;show Jm _ _ m3 hr h1 J1 h5
        clear_value jp
        show ai (λ_=>JR _) (λ_=>JR _)
       ·rintro r IK ⟨J0,IP,U,F,IZ,JP,JQ,rfl,m3,h1,h2,J1,J3,h5⟩;show⟨J0,.inl ⟨_,_,_,_,_,_,rfl,m3,h1,h2,J1,J3,h5⟩⟩
       ·rintro r IK ⟨J0,⟨IP,U,F,IZ,JP,JQ,rfl,m3,h1,h2,J1,J3,h5⟩|⟨res,t,rfl,J⟩⟩
        ·try dsimp -zeta -zetaHave -zetaUnused only
         calc La (O9 ?_);show ad ⟨J0.trans ⟨rfl,rfl,rfl,rfl⟩,_,_,_,_,rfl,m3,h1,h2,J1,J3,∅⟩
        ·show ad ⟨J0,_,_,rfl,J⟩
      ·show ad ⟨sm,_,_,rfl,J⟩
    ·rintro r J8 ⟨sm,na,nb,out,mg,rfl,m,Jq,JF,JW,JX,hsz⟩;let:=m.size (by simp;lia) (by simp;lia)
     simp at this;lia
    ·rintro r J8 ⟨sm,res,t,rfl,J⟩;show ad (q res J8 J.1 J.2 sm)
end
end Srt
namespace Srt
variable{st:MN}{L R xs:List Le}{i j:Nat}{x:Le}
section
variable{prog:LN}{w:Mq}{A:Mz}{E:q7->J4->Prop}{s:J4}{kd:Q9}{P:Le->Prop}{lt:Le->Le->Bool}
structure Kp(st st':MN):Prop where
 kind:Nz st'=Nz st
 pend:Lz st'=Lz st
 fail:Oy st'=Oy st
def Kp.refl:Kp st st:=⟨rfl,rfl,rfl⟩
def Kp.trans{a b c:MN}(h:Kp a b)(g:Kp b c):Kp a c:=⟨g.kind.trans h.kind,g.pend.trans h.pend,g.fail.trans h.fail⟩
def r8{a:Array Le}{B:List Le}(e:a.toList=L++(B++R))(hi:i=L.length)(q:j=L.length+B.length):(mirror a i j ((j-i) / 2)).toList=L++(B.reverse++R):=by
 let hs:a.size=L.length+(B.length+R.length):=by rw[<-LI,e];simp
 apply NV;intro k;rw[LO,getElem?_mirror_all ∅]
 let g:∀n:Nat,a[n]?=(L++(B++R))[n]?:=λn=>by rw[<-LO,e]
 rw[g,g]
 by_cases h1:k<L.length
 ·rw[if_neg ∅,L8 h1,L8 h1]
 ·by_cases h2:k<j
  ·rw[if_pos ∅,L3 ∅,L8 ∅,L3 ∅,L8 (by simp;lia),List.getElem?_reverse ∅]
   congr 1;lia
  ·rw[if_neg ∅,L3 ∅,L3 ∅,L3 ∅,L3 (by simp;lia)]
   simp
def r9{a:Array Le}{j q:List Le}(e:a.toList=L++((j++q)++x::R)){src d:Nat}(hi:src=L.length+(j.length+q.length))(hd:d=q.length):(bubble a src d).toList=L++((j++x::q)++R):=by
 let hs:a.size=L.length+(j.length+q.length+(R.length+1)):=by rw[<-LI,e];simp;lia
 apply NV;intro k;rw[LO,getElem?_bubble ∅ d ∅]
 let g:∀n:Nat,a[n]?=(L++((j++q)++x::R))[n]?:=λn=>by rw[<-LO,e]
 rw[g,g,g]
 by_cases h1:k<L.length
 ·rw[if_neg ∅,if_neg ∅,L8 h1,L8 h1]
 ·by_cases h2:k<L.length+j.length
  ·rw[if_neg ∅,if_neg ∅,L3 ∅,L8 (by simp;lia),L8 ∅,L3 ∅,L8 (by simp;lia),L8 ∅]
  ·by_cases h3:k=L.length+j.length
   ·rw[if_pos ∅,L3 ∅,L3 (by simp;lia),L3 ∅,L8 (by simp;lia),L3 ∅]
    let B:src-L.length-(j++q).length=0:=by simp;lia
    let z:k-L.length-j.length=0:=∅
    rw[B,z];rfl
   ·by_cases h4:k<=src
    ·rw[if_neg ∅,if_pos ∅,L3 ∅,L8 (by simp;lia),L3 ∅,L3 ∅,L8 (by simp;lia),L3 ∅]
     let z:k-L.length-j.length=(k-1-L.length-j.length)+1:=∅
     rw[z,Ou]
    ·rw[if_neg ∅,if_neg ∅,L3 ∅,L3 (by simp;lia),L3 ∅,L3 (by simp;lia)]
     let z:k-L.length-(j++q).length=(k-L.length-(j++x::q).length)+1:=by simp;lia
     rw[z,Ou]
def dU(c:Cm prog w A s kd P lt){y:Le}{Q:Option Bool->MN->Prop}(z:Nz st=kd)(hx:(Mm st)[i]?=Z x)(B:(Mm st)[j]?=Z y)(px:P x)(py:P y)(q:Q (Z (lt x y)) st):wpS (LA prog w) A E s (ltAt' i j) Q st:=by rw[ltAt'_eq];show La (Qb (La (aF hx (La (aF B (kl c z px py q))))))
def km{Q:Unit->MN->Prop}{B:List Le}(e:(Mm st).toList=L++(B++R))(hi:i=L.length)(z:j=L.length+B.length)(q:∀st',(Mm st').toList=L++(B.reverse++R)->Kp st st'->Q () st'):wpS (LA prog w) A E s (reverseSlice' i j) Q st:=by rw[reverseSlice'_eq];show O9 (q _ (r8 e hi z) ⟨rfl,rfl,rfl⟩)
def cy(e:(Mm st).toList=L++xs){n:Nat}(hi:i=L.length+n):(Mm st)[i]?=xs[n]?:=by
 rw[<-LO,e,hi,L3 ∅]
 congr 1;lia
def pL(c:Cm prog w A s kd P lt){n:Nat}{y:Le}(h:Ord lt (xs.take n))(q:0<n)(hx:xs[n]?=Z x)(B:xs[n-1]?=Z y)(F:lt x y=Wj):Ord lt (xs.take (n+1)):=by
 rw[NF,hx];refine L6.mpr ⟨h,by simp,λz G u j=>?_⟩
 simp at j;subst j;show iJ c h q B F z G
noncomputable abbrev dj(lt:Le->Le->Bool)(l:List Le):Prop:=l.Pairwise λx y=>lt x y=Wj
def ji(c:Cm prog w A s kd P lt){D:List Le}{e:Le}(h:dj lt (D++[e]))(hx:lt e x=Wj):dj lt (D++[e]++[x]):=by
 refine L6.mpr ⟨h,by simp,λz B u j=>?_⟩
 simp at j;subst j;let⟨_,_,F⟩:=L6.mp h
 rcases Lb.mp B with g|g
 ·cases q:lt z u with
  |false=>rfl
  | true=>rcases c.neg z e u q with r|r
          ·rw[F z g e (_)]at r;cases r
          ·rw[hx]at r;cases r
 ·simp at g;subst g;show hx
def rS{q F:List Le}(h:dj lt (q++F))(he:∀x∈F,∀y∈F,lt x y=Wj):dj lt (q++F.reverse):=by let⟨h1,h2,z⟩:=L6.mp h;calc L6.mpr ⟨h1,?_,λx hx y j=>z x hx y (Q1.mp j)⟩;rw[T2];show h2.imp_of_mem λhx j _=>he _ j _ hx
def perm_take{n:Nat}:(xs.take n++xs.drop n).Perm xs:=by rw[NG]
def rf(c:Cm prog w A s kd P lt){Q:Option Nat->MN->Prop}(hk:Nz st=kd)(O:(Mm st).toList=L++xs)(h0:xs≠[])(hP:∀x∈xs,P x)(q:∀r R st',(Mm st').toList=L++(r++R)->(r++R).Perm xs->r≠[]->Ord lt r->Kp st st'->Q (Z r.length) st'):wpS (LA prog w) A E s (countRun' L.length xs.length) Q st:=by
 let Ja:0<xs.length:=MR.mpr h0;rw[countRun'_eq]
 try dsimp -zeta -zetaHave -zetaUnused only
 refine La (aG (Q:=λr st'=>st'=st/\∃n,r=(N2,n)/\1<=n/\n<=xs.length/\Ord lt (xs.take n)/\(n=xs.length∨∃x y,xs[n]?=Z x/\xs[n-1]?=Z y/\lt x y=Wi))
  (MK (fun i r st'=>st'=st/\r=(N2,i)/\Ord lt (xs.take i)) ?_ ?_ ⟨rfl,rfl,by
   cases xs with
   |nil=>show absurd rfl h0
   |cons x t=>simp⟩) ?_)
 ·rintro i r st' h1 hi ⟨rfl,rfl,ho⟩;dsimp only;obtain⟨x,hx⟩:∃x,xs[i]?=Z x:=⟨_,z4 hi⟩;obtain⟨y,hy⟩:∃y,xs[i-1]?=Z y:=⟨_,z4 ∅⟩
  refine La (dU c hk ((cy O rfl).trans hx) ((cy O ∅).trans hy) (hP _ (Lh hx)) (hP _ (Lh hy)) ?_)
  dsimp only;refine ai (λh=>?_) (λh=>?_)
  ·show ad ⟨rfl,i,rfl,h1,∅,ho,.inr ⟨x,y,hx,hy,h⟩⟩
  ·show ad ⟨rfl,rfl,pL c ho ∅ hx hy (by simpa using h)⟩
 ·rintro r st' ⟨rfl,rfl,ho⟩;show⟨rfl,_,rfl,∅,∅,ho,.inl ∅⟩
 ·rintro r st' ⟨rfl,n,rfl,Jx,Jb,ho,hc⟩;dsimp -zeta -zetaHave -zetaUnused only;let IW:Q (Z n) st':=by
   let:=q (xs.take n) (xs.drop n) st' (by rw[O,NG]) perm_take (λz=>by let h3:=congrArg Pb z;rw[LK,NN]at h3;lia) ho Kp.refl
   rw[LK,OQ Jb]at this;show this
  extract_lets -underBinder +onlyGivenNames vr vn
  dsimp -zeta -zetaHave -zetaUnused only[vr];clear vr;let en:n=vn:=rfl
  clear_value vn
  subst en;calc ai (λh=>ad IW) (λh=>?_);let Jm:n≠xs.length:=by simpa using h
  let⟨x,y,hx,hy,Jn⟩:=hc.resolve_left Jm;let Jy:n<xs.length:=∅
  let exs:xs=xs.take n++x::xs.drop (n+1):=by let h1:=(NG n xs).symm;rw[eM hx]at h1;show h1
  let Jc:y∈xs.take n:=by rw[cQ ∅ hy];simp
  extract_lets -underBinder +onlyGivenNames jp
  let Jd:∀(B:List Le) (IM:MN),(Mm IM).toList=L++(B++x::xs.drop (n+1))->B.Perm (xs.take n)->B.length=n->(∀u∈B,∀v∈B,lt u v=Wj)->y∈B->Kp st' IM->wpS (LA prog w) A E s (jp ()) Q IM:=by
   intro B IM e1 hB IN IO IP IQ;dsimp -zeta -zetaHave -zetaUnused only[jp];clear jp;refine La (cP ?_)
   try dsimp -zeta -zetaHave -zetaUnused only
   extract_lets -underBinder +onlyGivenNames vn1 vq1
   let Jo:vn1=n+1:=rfl;let eq1:vq1=0:=rfl
   clear_value vn1 vq1
   subst Jo eq1;refine La (aG (Q:=λr U=>∃G F R neq,Kp st' U/\(Mm U).toList=L++((G++F)++R)/\((G++F)++R).Perm xs/\r=(N2,(G++F).length,neq)/\F.length=neq+1/\dj lt (G++F)/\(∀u∈F,∀v∈F,lt u v=Wj))
    (MK (λi r U=>∃G F R neq,Kp st' U/\(Mm U).toList=L++((G++F)++R)/\((G++F)++R).Perm xs/\r=(N2,(G++F).length,neq)/\F.length=neq+1/\dj lt (G++F)/\(∀u∈F,∀v∈F,lt u v=Wj)/\(G++F).length=i) ?_ ?_ ?_) ?_)
   ·rintro i r U Jz hi ⟨G,F,R,neq,kp,ea,hp,rfl,hF,hN,hE,Je⟩;subst Je;let hlen:=hp.length_eq;rw[hH]at hlen;obtain⟨z,R',rfl⟩:∃z R',R=z::R':=by
     cases R with
     |nil=>simp at hlen;simp at hi;lia
     |cons z R'=>show⟨z,R',rfl⟩
    let Jp:F≠[]:=λz=>by rw[z]at hF;simp at hF
    obtain⟨F0,e,rfl⟩:∃F0 e,F=F0++[e]:=⟨F.dropLast,F.getLast Jp,(Ox _).symm⟩;let hz:(Mm U)[L.length+(G++(F0++[e])).length]?=Z z:=by rw[cy ea rfl,L3 ∅,Q2];rfl
    let he:(Mm U)[L.length+(G++(F0++[e])).length-1]?=Z e:=by rw[cy ea (n:=(G++F0).length) (by simp<;>lia),L8 (by simp<;>lia),<-Lx,L3 ∅,Q2];rfl
    let Jf:P z:=hP z (hp.mem_iff.mp (_))
    let Jg:P e:=hP e (hp.mem_iff.mp (_))
    dsimp only;calc La (dU c (kp.kind.trans hk) hz he Jf Jg ?_);dsimp only;let J0:dj lt (G++F0++[e]):=by rw[Lx];show hN
    refine ai (λJ1=>?_) (λJ1=>?_)
    ·let IR:lt e z=Wj:=c.asym _ _ J1;refine ai (λIS=>?_) (λIS=>?_)
     ·refine La (km (L:=L++G) (B:=F0++[e]) (R:=z::R') (by rw[ea];simp) (by simp only[hH]at hF⊢;simp only[LC]at hF⊢;lia) (by simp<;>lia) λfv e3 Y=>?_)
      refine ad ⟨G++(F0++[e]).reverse,[z],R',0,kp.trans Y,by rw[e3];simp,?_,by simp<;>lia,rfl,?_,?_,by simp<;>lia⟩
      ·calc OF.trans ?_ hp;rw[Lx,Lx,Lx];show MJ _ (MY _ (Qv _))
      ·let h1:=rS hN hE;refine L6.mpr ⟨h1,by simp,λu j v J=>?_⟩
       simp at J;subst J;let hm:=ji c J0 IR;refine(L6.mp hm).2.2 u ?_ v (_)
       rw[Lx]
       rcases Lb.mp j with g|g
       ·show Nu _ g
       ·show LH _ (Q1.mp g)
      ·intro u j v J;simp at j J;subst j J;show c.irr
     ·refine ad ⟨G++(F0++[e]),[z],R',0,kp,by rw[ea];simp,by simpa using hp,by simp<;>lia,rfl,?_,?_,by simp<;>lia⟩
      ·let hm:=ji c J0 IR;simpa using hm
      ·intro u j v J;simp at j J;subst j J;show c.irr
    ·let Jq:lt z e=Wj:=by simpa using J1
     calc La (dU c (kp.kind.trans hk) he hz Jg Jf ?_);dsimp only;refine ai (λJh=>?_) (λJh=>?_)
     ·show ad ⟨G,F0++[e],z::R',neq,kp,ea,hp,rfl,hF,hN,hE⟩
     ·let IR:lt e z=Wj:=by simpa using Jh
      refine ad ⟨G,(F0++[e])++[z],R',neq+1,kp,by rw[ea];simp,by simpa using hp,by simp<;>lia,by simp at hF⊢;lia,?_,?_,by simp<;>lia⟩
      ·let hm:=ji c J0 IR;simpa using hm
      ·let Jr:∀u∈F0++[e],lt u z=Wj:=fun u j=>by
        cases q1:lt u z with
        |false=>rfl
        | true=>rcases c.neg u e z q1 with r|r
                ·rw[hE u j e (_)]at r;cases r
                ·rw[IR]at r;cases r
       let Js:∀u∈F0++[e],lt z u=Wj:=λu j=>by
        cases q1:lt z u with
        |false=>rfl
        | true=>rcases c.neg z e u q1 with r|r
                ·rw[Jq]at r;cases r
                ·rw[hE e (_) u j]at r;cases r
       intro u j v J
       rcases Lb.mp j with g|g<;>rcases Lb.mp J with g2|g2
       ·show hE u g v g2
       ·simp at g2;subst g2;show Jr u g
       ·simp at g;subst g;show Js v g2
       ·simp at g g2;subst g g2;show c.irr
   ·rintro r U ⟨G,F,R,neq,kp,ea,hp,hr,hF,hN,hE,Je⟩;show⟨G,F,R,neq,kp,ea,hp,hr,hF,hN,hE⟩
   ·refine⟨B,[x],xs.drop (n+1),0,IQ,by rw[e1];simp,?_,by simp[IN],rfl,?_,?_,by simp[IN]⟩
    ·let h9:(B++x::xs.drop (n+1)).Perm xs:=by
      let h9:=MY (x::xs.drop (n+1)) hB;rw[<-exs]at h9;show h9
     simpa using h9
    ·refine L6.mpr ⟨P5 (λj J _=>IO _ j _ J) (List.pairwise_of_forall_mem_list (r:=λ_ _=>True) λ_ _ _ _=>trivial),by simp,λu j v J=>?_⟩
     simp at J;subst J
     cases q1:lt u v with
     |false=>rfl
     | true=>rcases c.neg u y v q1 with r|r
             ·rw[IO u j y IP]at r;cases r
             ·rw[c.asym _ _ Jn]at r;cases r
    ·intro u j v J;simp at j J;subst j J;show c.irr
   ·rintro r U ⟨G,F,R,neq,kp,ea,hp,rfl,hF,hN,hE⟩;dsimp -zeta -zetaHave -zetaUnused only
    extract_lets -underBinder +onlyGivenNames vr vs vn2 vq2
    dsimp -zeta -zetaHave -zetaUnused only[vr];let Jt:vn2=(G++F).length:=rfl;let eq2:neq=vq2:=rfl
    clear_value vn2 vq2
    clear vs vr;subst Jt eq2
    extract_lets -underBinder +onlyGivenNames IT
    let IX:∀(D:List Le) (fv:MN),(Mm fv).toList=L++(D++R)->dj lt D->(D++R).Perm xs->D.length=(G++F).length->0<D.length->Kp st' fv->wpS (LA prog w) A E s (IT ()) Q fv:=by
     intro D fv e3 J2 J3 IU IY Y;dsimp -zeta -zetaHave -zetaUnused only[IT];clear IT;let Ju:0<D.length:=∅
     refine La (km (L:=L) (B:=D) (R:=R) e3 rfl (by rw[IU]) λJi e4 Jj=>?_)
     let o4:Ord lt D.reverse:=T2.mpr J2;let IV:(D.reverse++R).Perm xs:=(MY _ (Qv D)).trans J3;let Jk:(D.reverse++R).length=xs.length:=IV.length_eq;let J6:Ord lt ((D.reverse++R).take D.length):=by rw[QW (_),Nk (_)];show o4
     let J7:∀u∈D.reverse++R,P u:=λu j=>hP u (IV.mem_iff.mp j);let Jv:D.length<=xs.length:=by rw[<-Jk];simp
     rw[<-IU];generalize D.length=N0 at J6 Ju Jv;generalize D.reverse++R=ys at e4 IV Jk J6 J7;refine La (aG (Q:=λr IK=>IK=Ji/\∃n,r=(N2,n)/\1<=n/\n<=xs.length/\Ord lt (ys.take n))
      (MK (λi r IK=>IK=Ji/\r=(N2,i)/\Ord lt (ys.take i)) ?_ ?_ ⟨rfl,rfl,J6⟩) ?_)
     ·rintro i r IK h1 hi ⟨rfl,rfl,ho⟩;dsimp only;obtain⟨u,j⟩:∃u,ys[i]?=Z u:=⟨_,z4 ∅⟩
      obtain⟨v,J⟩:∃v,ys[i-1]?=Z v:=⟨_,z4 ∅⟩
      refine La (dU c ((Y.trans Jj).kind.trans hk) ((cy e4 rfl).trans j) ((cy e4 ∅).trans J) (J7 _ (Lh j)) (J7 _ (Lh J)) ?_)
      dsimp only;refine ai (λh=>?_) (λh=>?_)
      ·show ad ⟨rfl,i,rfl,∅,∅,ho⟩
      ·show ad ⟨rfl,rfl,pL c ho ∅ j J (by simpa using h)⟩
     ·rintro r IK ⟨rfl,rfl,ho⟩;show⟨rfl,_,rfl,∅,∅,ho⟩
     ·rintro r IK ⟨rfl,m,rfl,JA,JB,ho⟩;calc ad ?_;let:=q (ys.take m) (ys.drop m) IK (by rw[e4,NG]) (perm_take.trans IV) (fun z=>by
       let h3:=congrArg Pb z;rw[LK,NN]at h3;lia) ho (Y.trans Jj)
      rw[LK,OQ ∅]at this
      show this
    clear_value IT
    refine ai (λIS=>?_) (λIS=>?_)
    ·refine La (km (L:=L++G) (B:=F) (R:=R) (by rw[ea];simp) (by simp<;>lia) (by simp<;>lia) λfv e3 Y=>?_)
     let Y:=kp.trans Y;let e3:(Mm fv).toList=L++((G++F.reverse)++R):=by rw[e3];simp
     let J2:=rS hN hE;let J3:((G++F.reverse)++R).Perm xs:=(MY _ (MJ _ (Qv _))).trans hp;let IU:(G++F.reverse).length=(G++F).length:=by simp
     let IY:0<(G++F.reverse).length:=by simp<;>lia
     show IX _ _ e3 J2 J3 IU IY Y
    ·show IX _ _ ea hN hp rfl (by simp<;>lia) kp
  clear_value jp
  refine ai (λh1=>?_) (λh1=>?_)
  ·obtain⟨x0,J8⟩:∃x0,xs[0]?=Z x0:=⟨_,z4 Ja⟩;refine La (dU c hk ((cy O (n:=0) ∅).trans J8) ((cy O ∅).trans hy) (hP _ (Lh J8)) (hP _ (Lh hy)) ?_)
   dsimp only;calc ai (λhr=>ad IW) (λhr=>?_);let hr:lt x0 y=Wj:=by simpa using hr
   let Jl:∀u∈xs.take n,lt u x0=Wj:=λu j=>by
    let⟨i,hi,eu⟩:=Og.mp j;let J9:(xs.take n)[i]?=Z u:=by rw[<-eu];show z4 hi
    let IZ:(xs.take n)[0]?=Z x0:=by rw[Ob ∅];show J8
    by_cases hi0:i=0
    ·subst hi0;rw[IZ]at J9;cases J9;show c.irr
    ·show fD ho ∅ IZ J9
   let Jw:∀u∈xs.take n,lt y u=Wj:=iJ c ho ∅ hy c.irr
   let heq:∀u∈xs.take n,∀v∈xs.take n,lt u v=Wj:=λu j v J=>by show c.le_trans (c.le_trans (Jw v J) hr) (Jl u j)
   refine La (km (L:=L) (B:=xs.take n) (R:=x::xs.drop (n+1)) (by rw[O];show congrArg (L ++ ·) exs) rfl (by rw[LK,OQ Jb]) λIM e1 IQ=>?_)
   let hB:(xs.take n).reverse.Perm (xs.take n):=Qv _;let IN:(xs.take n).reverse.length=n:=by rw[TR,LK];lia
   let IO:∀u∈(xs.take n).reverse,∀v∈(xs.take n).reverse,lt u v=Wj:=λu j v J=>heq u (Q1.mp j) v (Q1.mp J);let IP:y∈(xs.take n).reverse:=Q1.mpr Jc;show Jd _ _ e1 hB IN IO IP IQ
  ·let IM:=st';let hn:n=1:=by lia
   let IQ:Kp st' st':=Kp.refl;let e1:(Mm st').toList=L++(xs.take n++x::xs.drop (n+1)):=by rw[O];show congrArg (L ++ ·) exs
   let hB:(xs.take n).Perm (xs.take n):=Tq _;let IN:(xs.take n).length=n:=by rw[LK];lia
   let IP:=Jc;let IO:∀u∈xs.take n,∀v∈xs.take n,lt u v=Wj:=λu j v J=>by
    let e0:xs.take n=[y]:=by subst hn;rw[cQ ∅ hy];rfl
    rw[e0]at j J;simp at j J;subst j J;show c.irr
   show Jd _ _ e1 hB IN IO IP IQ
end
end Srt
namespace Srt
variable{R:List Le}{st:MN}
section
variable{prog:LN}{w:Mq}{A:Mz}{E:q7->J4->Prop}{s:J4}{kd:Q9}{P:Le->Prop}{lt:Le->Le->Bool}
def wd(c:Cm prog w A s kd P lt){L r:List Le}{n:Nat}{Q:Bool->MN->Prop}(hk:Nz st=kd)(fv:(Mm st).toList=L++(r++R))(h0:r≠[])(ho:Ord lt r)(hn:r.length<=n)(IK:n<=(r++R).length)(hP:∀x∈r++R,P x)(q:∀r' R' st',(Mm st').toList=L++(r'++R')->(r'++R').Perm (r++R)->r'.length=n->Ord lt r'->Kp st st'->Q Wi st'):wpS (LA prog w) A E s (binarySort' L.length n r.length) Q st:=by
 let IR:0<r.length:=MR.mpr h0;rw[binarySort'_eq];refine La (aG (Q:=λx st'=>x=(N2,())/\∃D T,Kp st st'/\(Mm st').toList=L++(D++T)/\(D++T).Perm (r++R)/\D.length=n/\Ord lt D)
  (MK (λi x st'=>x=(N2,())/\∃D T,Kp st st'/\(Mm st').toList=L++(D++T)/\(D++T).Perm (r++R)/\D.length=i/\Ord lt D) ?_ ?_ ⟨rfl,r,R,Kp.refl,fv,Tq _,∅,ho⟩) ?_)
 ·rintro k x B IS IT ⟨rfl,D,T,kp,ea,J,hD,O⟩;dsimp only;subst hD;let hlen:=J.length_eq;rw[hH]at hlen;obtain⟨z,T',rfl⟩:∃z T',T=z::T':=by
   cases T with
   |nil=>simp at hlen IK;lia
   |cons z T'=>show⟨z,T',rfl⟩
  let IM:∀u∈D,P u:=λu G=>hP u (J.mem_iff.mp (Nu _ G));let IN:P z:=hP z (J.mem_iff.mp (_))
  let hz:(Mm B)[L.length+D.length]?=Z z:=by rw[cy ea rfl,L3 ∅,Q2];rfl
  refine La (aG (Q:=λx st'=>st'=B/\∃k,x=(N2,k,k)/\Gal lt Wj z D k k)
   (MK (fun i x st'=>st'=B/\∃lo hi,x=(N2,lo,hi)/\Gal lt Wj z D lo hi/\hi-lo+i<=D.length) ?_ ?_ ⟨rfl,0,D.length,rfl,⟨∅,∅,fun _ _ h=>∅,fun i x hi hx=>by let:=(L5.mp hx).1;lia⟩,∅⟩) ?_)
  ·rintro i x U _ hi ⟨rfl,lo,j,rfl,F,hm⟩;dsimp only;let hl:=F.le;let IO:=F.len;refine ai (λIP=>?_) (λIP=>?_)
   ·show ad ⟨rfl,j,by rw[show lo=j by lia],by rw[show lo=j by lia]at F;show F⟩
   ·obtain⟨u,G⟩:∃u,D[(lo+j) / 2]?=Z u:=⟨_,z4 ∅⟩
    let IQ:(Mm U)[L.length+(lo+j) / 2]?=Z u:=by rw[cy ea rfl,L8 ∅];show G
    calc La (dU c (kp.kind.trans hk) hz IQ IN (IM _ (Lh G)) ?_);dsimp only;refine ai (λhf=>?_) (λhf=>?_)
    ·show ad ⟨rfl,_,_,rfl,⟨∅,∅,F.up,iI c O G (by simp[bey,hf])⟩,∅⟩
    ·show ad ⟨rfl,_,_,rfl,⟨∅,IO,iH c O G (by simpa[bey]using hf),F.dn⟩,∅⟩
  ·rintro x U ⟨rfl,lo,j,rfl,F,hm⟩;let hl:=F.le;show⟨rfl,j,by rw[show lo=j by lia],by rw[show lo=j by lia]at F;show F⟩
  ·rintro x U ⟨rfl,l,rfl,F⟩;dsimp only;let⟨X,Y,e,hl,hX,hY⟩:=F.out;subst hl e;rw[moveDown'_eq];calc La (O9 ?_);refine ad ⟨rfl,X++z::Y,T',kp.trans ⟨rfl,rfl,rfl⟩,r9 ea (_) (by simp;lia),?_,by simp;lia,?_⟩
   ·calc OF.trans ?_ J;rw[Lx,Lx];calc MJ _ ?_;rw[Sn];show List.perm_middle.symm
   ·let⟨o1,o2,o3⟩:=L6.mp O;refine L6.mpr ⟨o1,Nj.mpr ⟨λu G=>c.asym _ _ (by let:=hY u G;simpa[bey]using this),o2⟩,λu G v hv=>?_⟩
    rcases Lm.mp hv with g|g
    ·subst g;let:=hX u G;simpa[bey]using this
    ·show o3 u G v g
 ·rintro x B ⟨rfl,D,T,kp,ea,J,hD,O⟩;show⟨rfl,D,T,kp,ea,J,∅,O⟩
 ·rintro x B ⟨rfl,D,T,kp,ea,J,hD,O⟩;show ad (q D T B ea J hD O kp)
abbrev Pd:Nat->List (List Le)->List (Nat×Nat×Nat)->Prop
 |_,[],ps=>ps=[]
 |s,r::rs,ps=>∃p t,ps=(s,r.length,p)::t/\Pd (s+r.length) rs t
def Pd.split:∀{l t:List (List Le)} {s:Nat} {ps:List (Nat×Nat×Nat)},Pd s (l++t) ps->∃pl pt,ps=pl++pt/\pl.length=l.length/\Pd s l pl/\Pd (s+l.flatten.length) t pt
 |[],t,s,ps,h=>⟨[],ps,rfl,rfl,rfl,by simpa using h⟩
 |r::l,t,s,ps,h=>by
  let⟨p,q,e,h⟩:=h;let⟨pl,pt,j,z,h1,h2⟩:=Pd.split h;refine⟨(s,r.length,p)::pl,pt,by rw[e,j];rfl,by simp[z],⟨p,pl,rfl,h1⟩,?_⟩
  rw[MX,hH,<-Sa];show h2
def Pd.join:∀{l t:List (List Le)} {s:Nat} {pl pt:List (Nat×Nat×Nat)},Pd s l pl->Pd (s+l.flatten.length) t pt->Pd s (l++t) (pl++pt)
 |[],t,s,pl,pt,h,g=>by let:pl=[]:=h;subst this;simpa using g
 |r::l,t,s,pl,pt,h,g=>by let⟨p,q,e,h⟩:=h;subst e;calc⟨p,q++pt,rfl,Pd.join h ?_⟩;rw[MX,hH,<-Sa]at g;show g
def Pd.length:∀{l:List (List Le)} {s:Nat} {ps:List (Nat×Nat×Nat)},Pd s l ps->ps.length=l.length
 |[],_,_,h=>by rw[show _=[]from h];rfl
 |r::l,s,ps,h=>by let⟨p,q,e,h⟩:=h;rw[e];simp[h.length]
structure Rn(lt:Le->Le->Bool)(kd:Q9)(a₀:List Le)(st:MN)(rs:List (List Le))(R:List Le):Prop where
 arr:(Mm st).toList=rs.flatten++R
 perm:(rs.flatten++R).Perm a₀
 ord:∀r∈rs,r≠[]/\Ord lt r
 pend:Pd 0 rs (Lz st).toList
 kind:Nz st=kd
 fail:Oy st=N2
def Rn.merge(c:Cm prog w A s kd P lt){a₀:List Le}(hP:∀x∈a₀,P x){l t:List (List Le)}{j F:List Le}(h:Rn lt kd a₀ st (l++j::F::t) R){i:Nat}(hi:i=l.length){Q:Bool->MN->Prop}(q:∀m st',Rn lt kd a₀ st' (l++m::t) R->m.length=j.length+F.length->Q Wi st'):wpS (LA prog w) A E s (VJ i) Q st:=by
 let⟨g,lo,IQ,⟨O,U,Y⟩,fv⟩:=Ff (E:=E) c;let⟨pl,pt,ep,J,IK,IM⟩:=h.pend.split;let⟨L,t1,e1,IN⟩:=IM;let⟨p2,t2,e2,IO⟩:=IN;subst e1 e2;let o1:=h.ord j (_)
 let o2:=h.ord F (_)
 let G:∀x,x∈j∨x∈F->P x:=λx hx=>hP x (h.perm.mem_iff.mp (by simp only[Oz,MX,Lb];rcases hx with z|z<;>simp[z]))
 let ip:∀(k:Nat) (v:Nat×Nat×Nat),(Lz st).toList[k]?=Z v->(Lz st)[k]?=Z v:=λk v e=>by rw[<-LO];show e
 refine fv O (U O) (Y O) i (0+l.flatten.length) j.length L (0+l.flatten.length+j.length) F.length p2 l.flatten j F (t.flatten++R) st Q h.kind h.fail (ip _ _ ?_) (ip _ _ ?_) (by rw[h.arr];simp) (OV _) rfl ∅ rfl o1.1 o2.1 (λx hx=>G x (.inl hx)) (λx hx=>G x (.inr hx)) o1.2 o2.2 ?_
 ·rw[ep,hi,<-J,L3 ∅,Q2];rfl
 ·rw[ep,hi,<-J,L3 ∅,show pl.length+1-pl.length=1 by lia];rfl
 ·intro m st' ea hm om hk hf IP;let B:m.length=j.length+F.length:=by rw[hm.length_eq];simp
  refine q m st' ⟨by rw[ea];simp,?_,?_,?_,hk,hf⟩ B
  ·calc OF.trans ?_ h.perm;simp only[Oz,MX,Lx];calc MJ _ ?_;rw[<-Lx j];show MY _ hm
  ·intro r hr
   rcases Lb.mp hr with z|z
   ·show h.ord r (Nu _ z)
   ·rcases Lm.mp z with z|z
    ·subst z;show⟨λz=>by rw[z]at B;let:=MR.mpr o1.1;simp at B;lia,om⟩
    ·show h.ord r (by simp[z])
  ·rw[IP];let e3:(((Lz st).setIfInBounds i (0+l.flatten.length,j.length+F.length,L)).eraseIdxIfInBounds (i+1)).toList=pl++(0+l.flatten.length,j.length+F.length,L)::t2:=by
    rw[Array.toList_eraseIdxIfInBounds,RB,ep,hi,<-J];rw[List.set_append_right _ _ ∅,Q2,List.eraseIdx_append_of_length_le ∅,show pl.length+1-pl.length=1 by lia];rfl
   rw[e3];refine IK.join ⟨L,t2,by rw[B],?_⟩
   rw[B,<-Sa];show IO
def pM{α:Type}{l:List α}(h:1<l.length):∃t a b,l=t++[a,b]:=by
 obtain⟨t1,b,j⟩:∃t b,l=t++[b]:=⟨l.dropLast,l.getLast (λz=>by rw[z]at h;simp at h),(Ox _).symm⟩
 obtain⟨q,a,B⟩:∃t b,t1=t++[b]:=⟨t1.dropLast,t1.getLast (λz=>by rw[j,z]at h;simp at h),(Ox _).symm⟩
 show⟨q,a,b,by rw[j,B];simp⟩
def DA{α:Type}{l:List α}{i:Nat}(h:i+1<l.length):∃t a b u,l=t++a::b::u/\t.length=i:=by
 refine⟨l.take i,l[i],l[i+1],l.drop (i+2),?_,by rw[LK];lia⟩
 rw[<-Nh ∅,<-Nh ∅,NG]
def Rn.size{a₀:List Le}{rs:List (List Le)}(h:Rn lt kd a₀ st rs R):rs.flatten.length+R.length=a₀.length:=by let:=h.perm.length_eq;rw[hH]at this;show this
def rT:∀{rs:List (List Le)},(∀r∈rs,r≠[])->rs.length<=rs.flatten.length
 |[],_=>by simp
 |r::rs,h=>by
  let h1:=MR.mpr (h r (_))
  let h2:=rT (rs:=rs) λr j=>h r (by simp[j])
  rw[MX,hH,LB];lia
def we{l:List (List Le)}{s pw:Nat}{ps:Array (Nat×Nat×Nat)}(h:Pd s l ps.toList):Pd s l (ps.modify (ps.size-1) λx=>(x.1,x.2.1,pw)).toList:=by
 rw[Array.toList_modify];let g:∀(l:List (List Le)) (s k:Nat) (ps:List (Nat×Nat×Nat)),Pd s l ps->Pd s l (ps.modify k λx=>(x.1,x.2.1,pw)):=by
  intro l
  induction l with
  |nil=>intro s k ps h;let:ps=[]:=h;subst this;cases k<;>rfl
  |cons r l ih=>
   intro s k ps h;let⟨p,t,e,h⟩:=h;subst e
   cases k with
   |zero=>show⟨pw,t,rfl,h⟩
   |succ k=>show⟨p,_,rfl,ih _ k t h⟩
 show g _ _ _ _ h
def rg(c:Cm prog w A s kd P lt){Q:Unit->MN->Prop}(hk:Nz st=kd)(hf:Oy st=N2)(hp:Lz st=#[])(hP:∀x∈(Mm st).toList,P x)(q:∀st',(Mm st').toList.Perm (Mm st).toList->Ord lt (Mm st').toList->Oy st'=N2->Q () st'):wpS (LA prog w) A E s sortRuns' Q st:=by
 rw[sortRuns'_eq];refine La (Qb ?_)
 try dsimp only
 let hsz:(Mm st).size=(Mm st).toList.length:=by simp
 generalize hA:(Mm st).toList=a₀ at hP q hsz;generalize hS:(Mm st).size=size at hsz;generalize minRun' size size 0=minrun;refine La (aG (Q:=λr st'=>∃rs lo,r=(N2,lo)/\Rn lt kd a₀ st' rs [])
  (MK (λi r st'=>∃rs R,r=(N2,rs.flatten.length)/\Rn lt kd a₀ st' rs R/\i<=rs.flatten.length) ?_ ?_ ⟨[],a₀,rfl,⟨by simpa using hA,by simp,by simp,by rw[hp];rfl,hk,hf⟩,by simp⟩) ?_)
 ·rintro i r IS _ hi ⟨rs,R,rfl,L,IP⟩
  try dsimp only
  let J3:=L.size;refine ai (λJ0=>?_) (λJ0=>?_)
  ·let:R=[]:=LV.mp ∅
   subst this;show ad ⟨rs,_,rfl,L⟩
  ·let IT:size-rs.flatten.length=R.length:=by lia
   let J1:R≠[]:=λz=>by rw[z,NN]at IT;lia
   let IU:∀x∈R,P x:=λx hx=>hP x (L.perm.mem_iff.mp (LH _ hx));rw[IT];refine La (rf c L.kind L.arr J1 IU λr R1 J ea IK U ho kp=>?_)
   try dsimp only
   let F:Rn lt kd a₀ J rs (r++R1):=⟨ea,(MJ _ IK).trans L.perm,L.ord,by rw[kp.pend];show L.pend,kp.kind.trans L.kind,kp.fail.trans L.fail⟩
   let IV:r.length+R1.length=R.length:=by rw[<-IK.length_eq];simp
   refine ai (λIQ=>?_) (λIQ=>?_)
   ·calc La (cP ?_);refine La (wd c F.kind F.arr U ho (n:=min R.length minrun) ∅ (by simp;lia) (λx hx=>IU x (IK.mem_iff.mp hx)) λr2 R2 B IW IO G J2 IN=>?_)
    try dsimp only
    refine ai (λh=>absurd h (_)) (λ_=>?_)
    let IX:r2≠[]:=λz=>by rw[z]at G;simp at G;let:=MR.mpr U;lia
    let F:Rn lt kd a₀ B rs (r2++R2):=⟨IW,(MJ _ IO).trans F.perm,F.ord,by rw[IN.pend];show F.pend,IN.kind.trans F.kind,IN.fail.trans F.fail⟩
    rw[<-G];clear G IO IW IN ea IK kp IV IQ;generalize B=J at F;clear ho U;let ho:=J2;let U:=IX;generalize r2=r at F ho U;generalize R2=R1 at F;refine La (Qb ?_)
    try dsimp only
    let IY:(Lz J).size=rs.length:=by rw[<-LI];show F.pend.length
    cases hb:(Lz J).back? with
    |none=>
     try dsimp only
     let HL:rs.flatten.length=rs.flatten.length:=rfl;calc La (O9 ?_);let IR:=MR.mpr U;let Y:(rs++[r]).flatten.length=rs.flatten.length+r.length:=by rw[Oz,hH,HL];simp
     refine ad ⟨rs++[r],R1,by rw[Y],⟨by rw[show _=_ from F.arr];simp,?_,?_,?_,F.kind,F.fail⟩,by rw[Y];lia⟩
     ·refine OF.trans (Py (_)) F.perm
     ·intro u hu
      rcases Lb.mp hu with z|z
      ·show F.ord u z
      ·simp at z;subst z;show⟨U,ho⟩
     ·let h8:(Lz (Qg J ((Lz J).push (rs.flatten.length,r.length,0)))).toList=(Lz J).toList++[(rs.flatten.length,r.length,0)]:=by
       change((Lz J).push _).toList=_;rw[Ly]
      rw[show _=_ from h8];show F.pend.join ⟨0,[],by rw[HL,OV],rfl⟩
    |some v=>
     let⟨s1,n1,p1⟩:=v
     try dsimp only
     refine La (aG (Q:=λx st'=>x=(N2,())/\∃rs',Rn lt kd a₀ st' rs' (r++R1)/\rs'.flatten.length=rs.flatten.length)
      (MK (λi x st'=>x=(N2,())/\∃rs',Rn lt kd a₀ st' rs' (r++R1)/\rs'.flatten.length=rs.flatten.length) ?_ ?_ ⟨rfl,rs,F,rfl⟩) ?_)
     ·rintro j x B _ hj ⟨rfl,rs',O,G⟩;refine La (Qb ?_)
      try dsimp only
      let IM:(Lz B).size=rs'.length:=by rw[<-LI];show O.pend.length
      by_cases h1:(Lz B).size > 1
      ·rw[if_pos h1];let h2:(Lz B)[(Lz B).size-2]?=Z ((Lz B)[(Lz B).size-2]'∅):=Ma ∅
       rw[h2]
       try dsimp only
       refine ai (λh=>?_) (λh=>?_)
       ·show ad ⟨rfl,rs',O,G⟩
       ·let⟨t,a,b,e⟩:=pM (l:=rs') ∅
        subst e;refine La (O.merge c hP (by rw[IM];simp) λm fv h4 hm=>?_)
        refine ai (λh=>absurd h (_)) (λ_=>ad ⟨rfl,_,h4,?_⟩)
        rw[<-G];simp[hm]
      ·rw[if_neg h1];show ad ⟨rfl,rs',O,G⟩
     ·rintro x B ⟨rfl,rs',O,G⟩;show⟨rfl,rs',O,G⟩
     ·rintro x B ⟨rfl,rs',O,G⟩
      try dsimp only
      calc La (O9 ?_);let h4:Rn lt kd a₀ (Qg B ((Lz B).modify ((Lz B).size-1) λx=>(x.1,x.2.1,power' size (2*s1+n1) (2*s1+n1+n1+r.length) size))) rs' (r++R1):=⟨O.arr,O.perm,O.ord,we O.pend,O.kind,O.fail⟩;generalize IZ:Qg B ((Lz B).modify ((Lz B).size-1) λx=>(x.1,x.2.1,power' size (2*s1+n1) (2*s1+n1+n1+r.length) size))=fv at h4;let HL:=G;calc La (O9 ?_);let IR:=MR.mpr U;let Y:(rs'++[r]).flatten.length=rs.flatten.length+r.length:=by rw[Oz,hH,HL];simp
      refine ad ⟨rs'++[r],R1,by rw[Y],⟨by rw[show _=_ from h4.arr];simp,?_,?_,?_,h4.kind,h4.fail⟩,by rw[Y];lia⟩
      ·refine OF.trans (Py (_)) h4.perm
      ·intro u hu
       rcases Lb.mp hu with z|z
       ·show h4.ord u z
       ·simp at z;subst z;show⟨U,ho⟩
      ·let h8:(Lz (Qg fv ((Lz fv).push (rs.flatten.length,r.length,0)))).toList=(Lz fv).toList++[(rs.flatten.length,r.length,0)]:=by
        change((Lz fv).push _).toList=_;rw[Ly]
       rw[show _=_ from h8];show h4.pend.join ⟨0,[],by rw[HL,OV],rfl⟩
   ·clear ea IK kp IV IQ;refine La (Qb ?_)
    try dsimp only
    let IY:(Lz J).size=rs.length:=by rw[<-LI];show F.pend.length
    cases hb:(Lz J).back? with
    |none=>
     try dsimp only
     let HL:rs.flatten.length=rs.flatten.length:=rfl;calc La (O9 ?_);let IR:=MR.mpr U;let Y:(rs++[r]).flatten.length=rs.flatten.length+r.length:=by rw[Oz,hH,HL];simp
     refine ad ⟨rs++[r],R1,by rw[Y],⟨by rw[show _=_ from F.arr];simp,?_,?_,?_,F.kind,F.fail⟩,by rw[Y];lia⟩
     ·refine OF.trans (Py (_)) F.perm
     ·intro u hu
      rcases Lb.mp hu with z|z
      ·show F.ord u z
      ·simp at z;subst z;show⟨U,ho⟩
     ·let h8:(Lz (Qg J ((Lz J).push (rs.flatten.length,r.length,0)))).toList=(Lz J).toList++[(rs.flatten.length,r.length,0)]:=by
       change((Lz J).push _).toList=_;rw[Ly]
      rw[show _=_ from h8];show F.pend.join ⟨0,[],by rw[HL,OV],rfl⟩
    |some v=>
     let⟨s1,n1,p1⟩:=v
     try dsimp only
     refine La (aG (Q:=λx st'=>x=(N2,())/\∃rs',Rn lt kd a₀ st' rs' (r++R1)/\rs'.flatten.length=rs.flatten.length)
      (MK (λi x st'=>x=(N2,())/\∃rs',Rn lt kd a₀ st' rs' (r++R1)/\rs'.flatten.length=rs.flatten.length) ?_ ?_ ⟨rfl,rs,F,rfl⟩) ?_)
     ·rintro j x B _ hj ⟨rfl,rs',O,G⟩;refine La (Qb ?_)
      try dsimp only
      let IM:(Lz B).size=rs'.length:=by rw[<-LI];show O.pend.length
      by_cases h1:(Lz B).size > 1
      ·rw[if_pos h1];let h2:(Lz B)[(Lz B).size-2]?=Z ((Lz B)[(Lz B).size-2]'∅):=Ma ∅
       rw[h2]
       try dsimp only
       refine ai (λh=>?_) (λh=>?_)
       ·show ad ⟨rfl,rs',O,G⟩
       ·let⟨t,a,b,e⟩:=pM (l:=rs') ∅
        subst e;refine La (O.merge c hP (by rw[IM];simp) λm fv h4 hm=>?_)
        refine ai (λh=>absurd h (_)) (λ_=>ad ⟨rfl,_,h4,?_⟩)
        rw[<-G];simp[hm]
      ·rw[if_neg h1];show ad ⟨rfl,rs',O,G⟩
     ·rintro x B ⟨rfl,rs',O,G⟩;show⟨rfl,rs',O,G⟩
     ·rintro x B ⟨rfl,rs',O,G⟩
      try dsimp only
      calc La (O9 ?_);let h4:Rn lt kd a₀ (Qg B ((Lz B).modify ((Lz B).size-1) λx=>(x.1,x.2.1,power' size (2*s1+n1) (2*s1+n1+n1+r.length) size))) rs' (r++R1):=⟨O.arr,O.perm,O.ord,we O.pend,O.kind,O.fail⟩;generalize IZ:Qg B ((Lz B).modify ((Lz B).size-1) λx=>(x.1,x.2.1,power' size (2*s1+n1) (2*s1+n1+n1+r.length) size))=fv at h4;let HL:=G;calc La (O9 ?_);let IR:=MR.mpr U;let Y:(rs'++[r]).flatten.length=rs.flatten.length+r.length:=by rw[Oz,hH,HL];simp
      refine ad ⟨rs'++[r],R1,by rw[Y],⟨by rw[show _=_ from h4.arr];simp,?_,?_,?_,h4.kind,h4.fail⟩,by rw[Y];lia⟩
      ·refine OF.trans (Py (_)) h4.perm
      ·intro u hu
       rcases Lb.mp hu with z|z
       ·show h4.ord u z
       ·simp at z;subst z;show⟨U,ho⟩
      ·let h8:(Lz (Qg fv ((Lz fv).push (rs.flatten.length,r.length,0)))).toList=(Lz fv).toList++[(rs.flatten.length,r.length,0)]:=by
        change((Lz fv).push _).toList=_;rw[Ly]
       rw[show _=_ from h8];show h4.pend.join ⟨0,[],by rw[HL,OV],rfl⟩
 ·rintro r IS ⟨rs,R,rfl,L,IP⟩;let:=L.size;let:R=[]:=LV.mp ∅
  subst this;show⟨rs,_,rfl,L⟩
 ·rintro r IS ⟨rs,lo,rfl,L⟩
  try dsimp only
  refine La (aG (Q:=λr st'=>r=(N2,())/\∃rs,Rn lt kd a₀ st' rs []/\rs.length<=1)
   (MK (λi r st'=>r=(N2,())/\∃rs,Rn lt kd a₀ st' rs []/\rs.length+i<=size) ?_ ?_ ⟨rfl,rs,L,?_⟩) ?_)
  ·rintro i r J _ hi ⟨rfl,rs,L,IP⟩;refine La (Qb ?_)
   try dsimp only
   let IY:(Lz J).size=rs.length:=by rw[<-LI];show L.pend.length
   refine ai (λh=>?_) (λh=>?_)
   ·show ad ⟨rfl,rs,L,∅⟩
   ·let go:∀k,k+1<rs.length->wpS (LA prog w) A E s (VJ k) (fun b st'=>b=Wi/\∃rs',Rn lt kd a₀ st' rs' []/\rs'.length+1=rs.length) J:=by
     intro k hk;let⟨t,a,b,u,e,ht⟩:=DA hk;subst e;refine L.merge c hP ht.symm λm B O _=>⟨rfl,_,O,by simp;lia⟩
    refine La (aG (go _ ?_) ?_)
    ·(repeat' split)<;>lia
    ·rintro b B ⟨rfl,rs',O,G⟩;refine ai (λh=>absurd h (_)) (λ_=>ad ⟨rfl,rs',O,∅⟩)
  ·rintro r J ⟨rfl,rs,L,IP⟩;show⟨rfl,rs,L,∅⟩
  ·let h1:=rT λr hr=>(L.ord r hr).1;let h2:=L.size;simp only[NN]at h2;lia
  ·rintro r J ⟨rfl,rs,L,hl⟩;refine ad (q J (by rw[L.arr];show L.perm) ?_ L.fail)
   rw[L.arr,MB]
   match rs,hl,L with
   |[],_,_=>show RU
   |[r],_,L=>simpa using(L.ord r (_)).2
end
end Srt
namespace Srt
abbrev iK(cap:Nat):Prop:=∀(prog:LN) (w:Mq) (A:Mz) (E:q7->J4->Prop) (s:J4) (kd:Q9) (P:Le->Prop) (lt:Le->Le->Bool),Cm prog w A s kd P lt->∀(st:MN) (Q:Unit->MN->Prop),Nz st=kd->Oy st=N2->Lz st=#[]->(∀x∈(Mm st).toList,P x)->2<=(Mm st).size->(Mm st).size<=cap->
 (∀st',(Mm st').toList.Perm (Mm st).toList->Ord lt (Mm st').toList->Oy st'=N2->Q () st')->wpS (LA prog w) A E s sortRuns' Q st
def ua{cap:Nat}:iK cap:=λ_ _ _ _ _ _ _ _ c _ _ j hf z B _ _ q=>rg c j hf z B q
end Srt
namespace Srt
inductive Ky where
 |int (i:Int)
 |tup (l:List Ky)
mutual
noncomputable def aD:Ky->Ky->Ordering
 |.int a,.int b=>if a<b then .lt else if a=b then .eq else .gt
 |.int _,.tup _=>.lt
 |.tup _,.int _=>.gt
 |.tup a,.tup b=>cmpKs a b
noncomputable def cmpKs:List Ky->List Ky->Ordering
 |[],[]=>.eq
 |[],_::_=>.lt
 |_::_,[]=>.gt
 |x::xs,y::ys=>(aD x y).then (cmpKs xs ys)
end
mutual
theorem dl:∀a b,aD b a=(aD a b).swap
 |.int a,.int b=>by
  simp only[aD]
  by_cases h1:a<b
  ·rw[if_pos h1,if_neg ∅,if_neg ∅];rfl
  ·by_cases h2:a=b
   ·rw[if_neg h1,if_pos h2,if_neg ∅,if_pos h2.symm];rfl
   ·rw[if_neg h1,if_neg h2,if_pos ∅];rfl
 |.int _,.tup _=>by simp[aD]
 |.tup _,.int _=>by simp[aD]
 |.tup a,.tup b=>by simp only[aD];show cmpKs_swap a b
theorem cmpKs_swap:∀a b,cmpKs b a=(cmpKs a b).swap
 |[],[]=>rfl
 |[],_::_=>rfl
 |_::_,[]=>rfl
 |x::xs,y::ys=>by
  simp only[cmpKs];rw[dl x y,cmpKs_swap xs ys]
  cases aD x y<;>rfl
end
mutual
theorem iL:∀a b,aD a b=.eq->a=b
 |.int a,.int b,h=>by
  simp only[aD]at h
  by_cases h1:a<b
  ·rw[if_pos h1]at h;cases h
  ·by_cases h2:a=b
   ·rw[h2]
   ·rw[if_neg h1,if_neg h2]at h;cases h
 |.int _,.tup _,h=>by simp[aD]at h
 |.tup _,.int _,h=>by simp[aD]at h
 |.tup a,.tup b,h=>by simp only[aD]at h;rw[cmpKs_eq a b h]
theorem cmpKs_eq:∀a b,cmpKs a b=.eq->a=b
 |[],[],_=>rfl
 |[],_::_,h=>by simp[cmpKs]at h
 |_::_,[],h=>by simp[cmpKs]at h
 |x::xs,y::ys,h=>by
  simp only[cmpKs]at h
  cases e:aD x y with
  |lt=>rw[e]at h;cases h
  |gt=>rw[e]at h;cases h
  |eq=>rw[e]at h;rw[iL x y e,cmpKs_eq xs ys h]
end
mutual
theorem kn:∀a b c,aD a b=.lt->aD b c=.lt->aD a c=.lt
 |.int a,.int b,.int c,h,g=>by
  simp only[aD]at h g⊢;let h1:a<b:=by
   by_cases h1:a<b
   ·show h1
   ·rw[if_neg h1]at h;split at h<;>cases h
  let h2:b<c:=by
   by_cases h1:b<c
   ·show h1
   ·rw[if_neg h1]at g;split at g<;>cases g
  rw[if_pos ∅]
 |.int _,.tup _,.int _,_,g=>by simp[aD]at g
 |.int _,.int _,.tup _,_,_=>by simp[aD]
 |.int _,.tup _,.tup _,_,_=>by simp[aD]
 |.tup _,.int _,_,h,_=>by simp[aD]at h
 |.tup _,.tup _,.int _,_,g=>by simp[aD]at g
 |.tup a,.tup b,.tup c,h,g=>by simp only[aD]at h g⊢;show cmpKs_trans a b c h g
theorem cmpKs_trans:∀a b c,cmpKs a b=.lt->cmpKs b c=.lt->cmpKs a c=.lt
 |[],[],_,h,_=>by simp[cmpKs]at h
 |[],_::_,[],_,g=>by simp[cmpKs]at g
 |[],_::_,_::_,_,_=>by simp[cmpKs]
 |_::_,[],_,h,_=>by simp[cmpKs]at h
 |_::_,_::_,[],_,g=>by simp[cmpKs]at g
 |x::xs,y::ys,z::zs,h,g=>by
  simp only[cmpKs]at h g⊢
  cases e:aD x y with
  |gt=>rw[e]at h;cases h
  |eq=>
   let:=iL x y e;subst this;rw[e]at h
   cases e2:aD x z with
   |gt=>rw[e2]at g;cases g
   |lt=>rfl
   |eq=>rw[e2]at g;show cmpKs_trans xs ys zs h g
  |lt=>
   cases e2:aD y z with
   |gt=>rw[e2]at g;cases g
   |lt=>rw[kn x y z e e2];rfl
   |eq=>let:=iL y z e2;subst this;rw[e];rfl
end
abbrev ltK(a b:Ky):Bool:=aD a b==.lt
abbrev pN(a b:List Ky):Bool:=cmpKs a b==.lt
def zg(a b:Ky)(h:ltK a b=Wi):ltK b a=Wj:=by unfold ltK at h⊢;rw[dl a b,(by simpa using h:aD a b=.lt)];rfl
def mX(a b:Ky)(h:ltK a b=Wj)(g:ltK b a=Wj):a=b:=by
 unfold ltK at h g;rw[dl a b]at g;apply iL
 cases e:aD a b with
 |eq=>rfl
 |lt=>rw[e]at h;cases h
 |gt=>rw[e]at g;cases g
def Bt(a b c:Ky)(h:ltK a c=Wi):ltK a b=Wi∨ltK b c=Wi:=by
 cases e:ltK a b with
 |true=>show .inl rfl
 |false=>
  right
  cases j:ltK b a with
  |false=>rw[mX a b e j]at h;show h
  |true=>unfold ltK at h j⊢;rw[kn b a c (by simpa using j) (by simpa using h)];rfl
def wf(x y:Ky)(xs ys:List Ky):pN (x::xs) (y::ys)=if(!ltK x y && !ltK y x)=Wi then pN xs ys else ltK x y:=by
 unfold pN ltK;rw[dl x y];simp only[cmpKs]
 cases aD x y<;>simp
mutual
noncomputable def toK:Ni->Ky
 |.int i=>.int i
 |.tuple xs=>.tup (toKs xs)
 |_=>.int 0
noncomputable def toKs:List Ni->List Ky
 |[]=>[]
 |x::xs=>toK x::toKs xs
end
inductive Cmpb:Ni->Ni->Prop where
 |int (a b:Int):Cmpb (.int a) (.int b)
 |nil (ys:List Ni):Cmpb (.tuple []) (.tuple ys)
 |nil' (xs:List Ni):Cmpb (.tuple xs) (.tuple [])
 |cons {x y:Ni} {xs ys:List Ni}:Cmpb x y->Cmpb (.tuple xs) (.tuple ys)->Cmpb (.tuple (x::xs)) (.tuple (y::ys))
def Cmpb.eqv{x y:Ni}(h:Cmpb x y):Mr x y=(!ltK (toK x) (toK y) && !ltK (toK y) (toK x)):=by
 let g:∀{x y:Ni},Cmpb x y->Mr x y=(aD (toK x) (toK y)==.eq):=by
  intro x y h
  induction h with
  |int a b=>
   simp only[Mr,toK,aD]
   by_cases h1:a<b
   ·rw[if_pos h1];simp;lia
   ·by_cases h2:a=b
    ·rw[if_neg h1,if_pos h2];simp[h2]
    ·rw[if_neg h1,if_neg h2];simp;lia
  |nil ys=>cases ys<;>simp[Mr,MU,toK,toKs,aD,cmpKs]
  |nil' xs=>cases xs<;>simp[Mr,MU,toK,toKs,aD,cmpKs]
  |@cons x y xs ys h1 h2 ih1 j=>
   simp only[Mr]at j⊢;simp only[MU,toK,toKs,aD,cmpKs]at j⊢;rw[ih1,j]
   cases aD (toK x) (toK y)<;>simp
 rw[g h];unfold ltK;rw[dl (toK x) (toK y)]
 cases aD (toK x) (toK y)<;>rfl
section
variable{prog:LN}{w:Mq}{A:Mz}{E:q7->J4->Prop}{s:J4}
def trd{b:Bool}{Q:Bool->J4->Prop}(q:Q b s):Lu (LA prog w) A (truthOfDropped (.bool b)) Q E s:=by
 unfold truthOfDropped
 wp_walk
 show q
def iM(a b:Int):ltK (.int a) (.int b)=decide (a<b):=by
 simp only[ltK,aD]
 by_cases h:a<b
 ·simp[h]
 ·by_cases h2:a=b<;>simp[h,h2]
def wg{a b:Int}{t u:Tok}{Q:q7->J4->Prop}(q:Q (.bool (decide (a<b))) s):Lu (LA prog w) A (Vj .Lt (.int a t) (.int b u)) Q E s:=wpAny_richCompare_same (T:="int") rfl rfl F.slot_int_lt (call_int_lt ⟨by simp,q⟩)
abbrev cB:List Ni->List Ni->Option Bool
 |x::xs,y::ys=>if Mr x y=Wi then cB xs ys else Z (ltK (toK x) (toK y))
 |_,_=>N2
def jj:∀{xs ys:List Ni},Cmpb (.tuple xs) (.tuple ys)->ltK (toK (.tuple xs)) (toK (.tuple ys))=match cB xs ys with|some b=>b|none=>decide (xs.length<ys.length)
 |[],[],_=>rfl
 |[],_::_,_=>by simp[cB,toK,toKs,ltK,aD,cmpKs]
 |_::_,[],_=>by simp[cB,toK,toKs,ltK,aD,cmpKs]
 |x::xs,y::ys,h=>by
  cases h with
  |cons h1 h2=>
   let ih:=jj h2;let e:∀a b:List Ky,ltK (.tup a) (.tup b)=pN a b:=λa b=>by simp[ltK,pN,aD]
   simp only[toK,toKs,e]at ih⊢;rw[wf,<-h1.eqv];simp only[cB]
   split
   ·rw[ih];simp
   ·rfl
abbrev cH{α β:Type}(M:QE)(A:Mz)(E:q7->J4->Prop)(f:α->β->Sem (ForInStep β))(Q:β->J4->Prop):List α->β->J4->Prop
 |[],c,s=>Q c s
 |x::xs,c,s=>Lu M A (f x c) (λr s'=>match r with|.done c'=>Q c' s'|.yield c'=>cH M A E f Q xs c' s') E s
def gm{α β:Type}{M:QE}{f:α->β->Sem (ForInStep β)}{Q:β->J4->Prop}:∀{l:List α} {c:β} {s:J4},cH M A E f Q l c s->Lu M A (forIn l c f) Q E s
 |[],c,s,h=>by rw[Td];show KZ h
 |x::xs,c,s,h=>by
  rw[OP];refine gV (O7 h (λr s' j=>?_) λ_ _ z=>z)
  cases r with
  |done c'=>show KZ j
  |yield c'=>show gm j
def cg{h:Heap}:∀{vs:List q7} {xs:List Ni} {as:List Wk},Tj h vs xs as->vs.length=xs.length
 |_,_,_,.nil=>rfl
 |_,_,_,.cons _ r=>by simp[cg r]
def jk{α β:Type}{M:QE}{n:Nat}{f:α->Option β×Unit->Sem (ForInStep (Option β×Unit))}{g:Bool->β}{pr:α->q7×q7}{Q:Option β×Unit->J4->Prop}:
 ∀{l:List α} {vs us:List q7} {xs ys:List Ni} {as bs:List Wk},l.map pr=vs.zip us->Tj s.heap vs xs as->Tj s.heap us ys bs->Cmpb (.tuple xs) (.tuple ys)->Nq xs=Wi->Nq ys=Wi->Ow xs<=n->
  (∀(z:α) (x y:q7) (d e:Ni) (as bs:List Wk) (R:ForInStep (Option β×Unit)->J4->Prop),z∈l->pr z=(x,y)->Qt s.heap x d as->Qt s.heap y e bs->Cmpb d e->d.canLay0=Wi->e.canLay0=Wi->d.depth<=n->
   R (if Mr d e=Wi then .yield (N2,())else .done (Z (g (ltK (toK d) (toK e))),())) s->Lu M A (f z (N2,())) R E s)->
  Q ((cB xs ys).map g,()) s->cH M A E f Q l (N2,()) s
 |[],vs,us,xs,ys,as,bs,e,j,B,F,_,_,_,_,q=>by
  let h1:=cg j;let h2:=cg B;let:vs=[]∨us=[]:=by
   cases vs with
   |nil=>show .inl rfl
   | cons v vs=>cases us with
     |nil=>show .inr rfl
     |cons u us=>simp at e
  let G:cB xs ys=N2:=by
   rcases this with rfl|rfl
   ·cases xs with
    |nil=>simp[cB]
    |cons x xs=>simp at h1
   ·cases ys with
    |nil=>cases xs<;>simp[cB]
    |cons y ys=>simp at h2
  rw[G]at q;show q
 |z::l,vs,us,xs,ys,as,bs,e,j,B,F,lx,ly,hd,hf,q=>by
  cases j with
  |nil=>simp at e
  |cons rx j=>
   cases B with
   |nil=>simp at e
   |cons ry B=>
    simp only[Lj,List.zip_cons_cons,Vu]at e;simp only[Nq,D1]at lx ly;simp only[Ow]at hd
    cases F with
    |cons J L=>
     simp only[cH];refine hf z _ _ _ _ _ _ _ (_) e.1 rx ry J lx.1 ly.1 ∅ ?_
     simp only[cB]at q
     split at q
     ·next h=>rw[if_pos h];show jk e.2 j B L lx.2 ly.2 ∅ (λz x y d e as bs R O=>hf z x y d e as bs R (by simp[O])) q
     ·next h=>rw[if_neg h];show q
abbrev Gj(n:Nat):Prop:=∀(prog:LN) (w:Mq) (A:Mz) (s:J4) (a b:q7) (d e:Ni) (as bs:List Wk) (E:q7->J4->Prop) (Q:q7->J4->Prop),d.depth<=n->Cmpb d e->Qt s.heap a d as->Qt s.heap b e bs->d.canLay0=Wi->e.canLay0=Wi->A.units+n+1<Ol->
 Q (.bool (ltK (toK d) (toK e))) s->Lu (LA prog w) A (Vj .Lt a b) Q E s
def Fg:∀n,Gj n:=by
 intro n
 induction n with
 |zero=>
  intro prog w A s a b d e as bs E Q hd z ra rb ld le fv q
  cases z with
  |int i j=>
   cases ra;cases rb
   show wg (by rw[<-iM];show q)
  |nil ys=>simp[Pn]at hd
  |nil' xs=>simp[Pn]at hd
  |cons _ _=>simp[Pn]at hd
 |succ n ih=>
  intro prog w A s a b d e as bs E Q hd z ra rb ld le fv q;let tup:∀xs ys,d=.tuple xs->e=.tuple ys->Lu (LA prog w) A (Vj .Lt a b) Q E s:=by
   rintro xs ys rfl rfl
   cases ra with
   |tuple h1 h2 h3 J=>
    cases rb with
    |tuple g1 g2 g3 L=>
     rename_i l ol vl nl p ob vb nb;let tl:s.TypeIs (.ref l) "tuple":=⟨_,h1,h2⟩;let tb:s.TypeIs (.ref p) "tuple":=⟨_,g1,g2⟩;refine Rg tl tb Vv (MA Vv tl F.entry_tuple_lt ?_ (F.args_tuple_lt_2 _ _)) ∅
     unfold Oq.«tuple.__lt__»;calc gV ?_;let O:isSubtype (.type "tuple") (.type "tuple")=pure Wi:=by rw[Qw];kernel_rfl
     wp_walk
     rw[h3]
     wp_walk
     rw[g3];calc KZ ?_;calc KZ ?_;refine gV (gm (jk (n:=n) (g:=λb=>Fin.done (Flow.ret (U9 b))) (pr:=id) (List.map_id _) J L z ld le (by simp[Pn]at hd;lia) ?_ ?_))
     ·rintro⟨x,y⟩ x' y' d e as bs R _ hz rx ry z ld le hd r
      cases hz
      dsimp only;refine gV (V1 d e _ _ _ _ _ _ rx ry ld le ?_ prog w E _ ?_)
      ·change A.units+1+min d.depth e.depth<Ol;lia
      ·by_cases B:Mr d e=Wi
       ·rw[if_pos B]at r;rw[B];show KZ r
       ·rw[if_neg B]at r;let B:Mr d e=Wj:=by simpa using B
        rw[B];refine gV (NT (gV (ih prog w _ s x y d e as bs E _ hd z rx ry ld le ?_ ?_)))
        ·change A.units+1+n+1<Ol;lia
        ·show KZ r
     ·let G:=jj z
      cases e2:cB xs ys with
      |some b=>rw[e2]at G;dsimp only at G;rw[G]at q;show KZ ⟨_,rfl,by simp,q⟩
      |none=>
       rw[e2]at G;dsimp only at G;rw[G]at q;let U:=cg J;let Y:=cg L;refine KZ ⟨_,rfl,?_,?_⟩
       ·simp[QB]
       ·simp only[LI]at U Y;simp only[QB];rw[U,Y];show q
  cases z with
  |int i j=>
   cases ra;cases rb
   show wg (by rw[<-iM];show q)
  |nil ys=>show tup _ _ rfl rfl
  |nil' xs=>show tup _ _ rfl rfl
  |cons _ _=>show tup _ _ rfl rfl
end
end Srt
namespace Srt
section
variable{prog:LN}{w:Mq}{A:Mz}{E:q7->J4->Prop}{s:J4}
def ko{α β:Type}{M:QE}{f:α->Sem β}{g:α->β}:∀{l:List α} {Q:List β->J4->Prop},(∀x∈l,∀R:β->J4->Prop,R (g x) s->Lu M A (f x) R E s)->Q (l.map g) s->Lu M A (l.mapM f) Q E s
 |[],Q,_,q=>by rw[List.mapM_nil];show KZ q
 |x::xs,Q,h,q=>by rw[List.mapM_cons];calc gV (h x (_) _ (gV (ko (λy j=>h y (by simp[j])) (KZ q))))
def fb{α β:Type}{M:QE}{f:α->Sem β}{g:α->β}{xs:Array α}{Q:Array β->J4->Prop}(h:∀x∈xs.toList,∀R:β->J4->Prop,R (g x) s->Lu M A (f x) R E s)(q:Q (xs.map g) s):Lu M A (xs.mapM f) Q E s:=by
 rw[Array.mapM_eq_mapM_toList];rw[map_eq_pure_bind];calc gV (ko h (KZ ?_));let:(xs.toList.map g).toArray=xs.map g:=by apply QO.mp;simp
 rw[this];show q
def mY{a:Wk}{v:q7}{vs:List q7}{o:Obj}{n:Nat}(h1:s.heap.get? a=Z o)(h2:o.cls=.type "tuple")(j:o.data=.seq (v::vs).toArray n){Q:Option q7->J4->Prop}(q:Q (Z v) s):Lu (LA prog w) A (firstOfTuple' (.ref a)) Q E s:=by
 unfold firstOfTuple';let ty:s.TypeIs (.ref a) "tuple":=⟨_,h1,h2⟩
 wp_walk
 rw[j];calc KZ ?_;calc KZ ?_;show KZ q
def Bu{a:Wk}{o:Obj}{T:q7}(h1:s.heap.get? a=Z o)(h2:o.cls=T){Q:q7->J4->Prop}(q:Q T s):Lu (LA prog w) A (typeOf (.ref a)) Q E s:=by
 wp_walk
 rw[h2];show q
def wj{n:Nat}{x y:q7}{d e:Ni}{as bs:List Wk}(j:Cmpb d e)(rx:Qt s.heap x d as)(ry:Qt s.heap y e bs)(ld:d.canLay0=Wi)(le:e.canLay0=Wi)(hd:d.depth<=n)(z:A.units+n+1<Ol){Q:Bool->J4->Prop}(q:Q (ltK (toK d) (toK e)) s):Lu (LA prog w) A (oneLt' Wj x y) Q E s:=by rw[oneLt'_eq];show gV (Fg n prog w A s x y d e as bs E _ hd j rx ry ld le z (trd q))
def mZ{n:Nat}{b:Bool}{x y:q7}{xs ys:List Ni}{as bs:List Wk}(hb:b=Wi->∀d e,xs.head?=Z d->ys.head?=Z e->(∃i,d=.int i)/\∃i,e=.int i)(G:Cmpb (.tuple xs) (.tuple ys))(rx:Qt s.heap x (.tuple xs) as)(ry:Qt s.heap y (.tuple ys) bs)(lx:Nq xs=Wi)(ly:Nq ys=Wi)(hd:Ow xs<=n)(hu:A.units+n+1<Ol){Q:Bool->J4->Prop}(q:Q (ltK (toK (.tuple xs)) (toK (.tuple ys))) s):
 Lu (LA prog w) A (keyLt' (tuples' b) x y) Q E s:=by
 cases rx with
 |tuple h1 h2 h3 J=>
  cases ry with
  |tuple g1 g2 g3 L=>
   calc gV (UI h1 h3 ?_);calc gV (UI g1 g3 ?_);refine gV (gm (jk (n:=n) (g:=id) (pr:=Prod.fst) (List.zipIdx_map_fst _ _) J L G lx ly hd ?_ ?_))
   ·rintro⟨⟨x,y⟩,i⟩ x' y' d e as bs R hz hp rx ry G ld le hd r
    cases hp
    dsimp only;refine gV (V1 d e _ _ _ _ _ _ rx ry ld le ∅ prog w E _ ?_)
    by_cases F:Mr d e=Wi
    ·rw[if_pos F]at r;rw[F];show KZ r
    ·rw[if_neg F]at r;let F:Mr d e=Wj:=by simpa using F
     rw[F];refine gV ?_
     by_cases z:(b&&i==0)=Wi
     ·rw[z];simp only[D1,beq_iff_eq]at z;let⟨rfl,rfl⟩:=z;let j:=Pz.mp hz;obtain⟨U,Y,t1,fv,B,O⟩:∃(U Y:Int) (t1 fv:Tok),x=.int U t1/\y=.int Y fv:=by
       generalize hV:Sv _=vl at J j;generalize hU:Sv _=ul at L j
       cases J with
       |nil=>simp at j
       |cons p1 p2=>
        cases L with
        |nil=>simp at j
        |cons q1 q2=>
         simp at j;let⟨⟨U,ei⟩,⟨Y,ej⟩⟩:=hb rfl _ _ rfl rfl;subst ei ej
         cases p1;cases q1
         show⟨_,_,_,_,j.1.symm,j.2.symm⟩
      subst B O
      cases rx;cases ry
      calc oneLt_int ?_;rw[<-iM];show KZ r
     ·let z:(b&&i==0)=Wj:=by simpa using z
      rw[z];show wj G rx ry ld le hd hu (KZ r)
   ·let B:=jj G
    cases O:cB xs ys with
    |some b=>rw[O]at B;dsimp only at B;rw[B]at q;show KZ q
    |none=>rw[O]at B;dsimp only at B;rw[B]at q;let n1:=cg J;let n2:=cg L;calc KZ ?_;simp only[LI]at n1 n2;rw[n1,n2];show q
end
end Srt
namespace Srt
structure pO(n:Nat)(ds:List Ni):Prop where
 cmp:∀d∈ds,∀e∈ds,Cmpb d e
 lay:∀d∈ds,d.canLay0=Wi/\d.depth<=n
 kind:(∀d∈ds,∃i,d=.int i)∨(∀d∈ds,∃i xs,d=.tuple (.int i::xs))∨(∀d∈ds,∃ys xs,d=.tuple (.tuple ys::xs))
abbrev cL(h:Heap):q7->Option q7
 |.ref a=>(h.get? a).bind λo=>match o.data with|.seq xs _=>xs[0]?|_=>N2
 |_=>N2
variable{vs:List q7}{h:Heap}{v:q7}
section
variable{prog:LN}{w:Mq}{A:Mz}{E:q7->J4->Prop}{s:J4}
abbrev dH(h:Heap)(x:Le):Ky:=toK (NW h x.1)
abbrev RdL(h:Heap)(vs:List q7)(ds:List Ni):Prop:=∀v∈vs,∃d∈ds,∃as,Qt h v d as
def hZ{arr:Array q7}{T:String}(h0:0<arr.size)(h:∀v∈arr.toList,∀R:q7->J4->Prop,R (.type T) s->Lu (LA prog w) A (typeOf v) R E s){Q:Option q7->J4->Prop}(q:Q (Z (.type T)) s):Lu (LA prog w) A (oneTypeOnly' arr) Q E s:=by
 rw[oneTypeOnly'_eq];calc gV (fb (g:=λ_=>Nt T) h ?_);let e:(QP (λ_=>Nt T) arr)[0]?=Z (Nt T):=by rw[Array.getElem?_map,Ma h0];rfl
 rw[e];dsimp only;let j:((QP (λ_=>Nt T) arr).all λx=>x==Nt T)=Wi:=by rw[UJ];intro i hi;simp
 rw[j];show KZ q
def ub{n:Nat}{kd:Q9}{ds:List Ni}(j:RdL s.heap vs ds)(hs:pO n ds)(h:∀(x y:q7) (d e:Ni) (as bs:List Wk) (E:q7->J4->Prop) (Q:Bool->J4->Prop),d∈ds->e∈ds->Qt s.heap x d as->Qt s.heap y e bs->Q (ltK (toK d) (toK e)) s->Lu (LA prog w) A (keyLt' kd x y) Q E s):
 Cm prog w A s kd (λx=>x.1∈vs) (λx y=>ltK (dH s.heap x) (dH s.heap y)) where
 asym:=λx y=>zg _ _
 neg:=λx y z=>Bt _ _ _
 run:=λx y E Q hx B q=>by let⟨d,hd,as,ra⟩:=j _ hx;let⟨e,he,bs,rb⟩:=j _ B;let F:=OR (hs.lay d hd).1 ra;let G:=OR (hs.lay e he).1 rb;unfold dH at q;rw[F,G]at q;show h _ _ d e as bs E Q hd he ra rb q
def pP(j:∀v∈vs,∃u,cL h v=Z u):((vs.toArray.map (cL h)).all λx=>x.isSome)=Wi:=by rw[UJ];intro i hi;simp at hi;let⟨u,q⟩:=j vs[i] (Nm hi);simp[q]
def wk{x:q7}(hx:x∈(Vw id (vs.toArray.map (cL h))).toList):∃v∈vs,cL h v=Z x:=by simp at hx;show hx
def wl{u:q7}(j:cL h v=Z u):0<(Vw id ((v::vs).toArray.map (cL h))).size:=by rw[<-LI];simp[j]
def n6{d:Ni}{xs:List Ni}{as:List Wk}(r:Qt h v (.tuple (d::xs)) as):∃a o u us n bs,v=.ref a/\h.get? a=Z o/\o.cls=.type "tuple"/\o.data=.seq (u::us).toArray n/\Qt h u d bs:=by
 cases r with
 |@tuple a o vs n xs as h1 h2 j h4=>
  generalize q:vs.toList=vl at h4
  cases h4 with
  |@cons u us _ _ bs _ z p2=>show⟨_,_,u,us,n,bs,rfl,h1,h2,by rw[j];congr 1;apply QO.mp;simpa using q,z⟩
def Fh{n:Nat}{ds:List Ni}(Y:RdL s.heap (v::vs) ds)(hs:pO n ds)(z:A.units+n+1<Ol):
 ∃kd,(∀(E:q7->J4->Prop) (Q:Q9->J4->Prop),Q kd s->Lu (LA prog w) A (keyKind' (v::vs).toArray) Q E s)/\Cm prog w A s kd (λx=>x.1∈v::vs) (λx y=>ltK (dH s.heap x) (dH s.heap y)):=by
 rcases hs.kind with J|J|J
 ·refine⟨oneType',λE Q q=>?_,ub Y hs λx y d e as bs E Q hd he ra rb q=>?_⟩
  ·let hint:∀u∈v::vs,∃i t,u=.int i t:=fun u z=>by
    let⟨d,hd,as,ra⟩:=Y u z;let⟨i,rfl⟩:=J d hd
    cases ra
    show⟨_,_,rfl⟩
   rw[Vk];refine gV (fb (g:=λ_=>(N2:Option q7)) (λu z R r=>?_) ?_)
   ·let⟨i,t,rfl⟩:=hint u (by simpa using z)
    rw[firstOfTuple'_int];show KZ r
   ·let fv:((QP (fun _=>(N2:Option q7)) (v::vs).toArray).all fun x=>x.isSome)=Wj:=by
     simp
    rw[fv];let B:((QP (λ_=>(N2:Option q7)) (v::vs).toArray)[0]?.bind id).isSome=Wj:=by simp
    simp only[B,NO,if_false];refine gV (hZ (T:="int") (_) (λu z R r=>?_) ?_)
    ·let⟨i,t,rfl⟩:=hint u (by simpa using z)
     show KZ r
    ·show KZ q
  ·let⟨i,rfl⟩:=J d hd;let⟨j,rfl⟩:=J e he
   cases ra;cases rb
   rw[keyLt'_oneType];show oneLt_int (by rw[<-iM];show q)
 ·refine⟨tuples' Wi,λE Q q=>?_,ub Y hs λx y d e as bs E Q hd he ra rb q=>?_⟩
  ·let hf:∀u∈v::vs,∃a o i t us n,u=.ref a/\s.heap.get? a=Z o/\o.cls=.type "tuple"/\o.data=.seq (.int i t::us).toArray n:=fun u z=>by
    let⟨d,hd,as,ra⟩:=Y u z;let⟨i,xs,rfl⟩:=J d hd;let⟨a,o,u1,us,n,bs,fv,B,L,G,O⟩:=n6 ra
    cases O
    show⟨a,o,_,_,us,n,fv,B,L,G⟩
   let F:∀u∈v::vs,∃i t,cL s.heap u=Z (.int i t):=λu z=>by let⟨a,o,i,t,us,n,rfl,B,L,G⟩:=hf u z;show⟨i,t,by simp[cL,B,G]⟩
   rw[Vk];refine gV (fb (g:=cL s.heap) (λu z R r=>?_) ?_)
   ·let⟨a,o,i,t,us,n,rfl,B,L,G⟩:=hf u (by simpa using z)
    calc mY B L G ?_;simpa[cL,B,G]using r
   ·rw[pP (λu z=>let⟨i,t,e⟩:=F u z; ⟨_,e⟩)];calc gV (NT ?_);let⟨i0,t0,e0⟩:=F v (_)
    refine gV (hZ (T:="int") (wl e0) (λu z R r=>?_) ?_)
    ·let⟨u',U,e⟩:=wk z;let⟨i,t,e'⟩:=F u' U;rw[e']at e;cases e;show KZ r
    ·show KZ q
  ·let⟨i,xs,rfl⟩:=J d hd;let⟨j,ys,rfl⟩:=J e he;let l1:=hs.lay _ hd;let l2:=hs.lay _ he;refine mZ (n:=n) (λ_ d e hd he=>?_) (hs.cmp _ hd _ he) ra rb (by simpa[Qx]using l1.1) (by simpa[Qx]using l2.1) (by let:=l1.2;simp[Pn]at this;lia) z q
   simp at hd he;subst hd he;show⟨⟨_,rfl⟩,_,rfl⟩
 ·refine⟨tuples' Wj,λE Q q=>?_,ub Y hs λx y d e as bs E Q hd he ra rb q=>?_⟩
  ·let hf:∀u∈v::vs,∃a o b ob us n,u=.ref a/\s.heap.get? a=Z o/\o.cls=.type "tuple"/\o.data=.seq (.ref b::us).toArray n/\s.heap.get? b=Z ob/\ob.cls=.type "tuple":=fun u z=>by
    let⟨d,hd,as,ra⟩:=Y u z;let⟨ys,xs,rfl⟩:=J d hd;let⟨a,o,u1,us,n,bs,fv,B,L,G,O⟩:=n6 ra
    cases O with
    |tuple h1 h2 h3 h4=>show⟨a,o,_,_,us,n,fv,B,L,G,h1,h2⟩
   let F:∀u∈v::vs,∃b ob,cL s.heap u=Z (.ref b)/\s.heap.get? b=Z ob/\ob.cls=.type "tuple":=λu z=>by let⟨a,o,b,ob,us,n,rfl,B,L,G,O,e6⟩:=hf u z;show⟨b,ob,by simp[cL,B,G],O,e6⟩
   rw[Vk];refine gV (fb (g:=cL s.heap) (λu z R r=>?_) ?_)
   ·let⟨a,o,b,ob,us,n,rfl,B,L,G,O,e6⟩:=hf u (by simpa using z)
    calc mY B L G ?_;simpa[cL,B,G]using r
   ·rw[pP (λu z=>let⟨i,t,e,_⟩:=F u z; ⟨_,e⟩)];calc gV (NT ?_);let⟨i0,t0,e0,_⟩:=F v (_)
    refine gV (hZ (T:="tuple") (wl e0) (λu z R r=>?_) ?_)
    ·let⟨u',U,e⟩:=wk z;let⟨b,ob,e',O,e6⟩:=F u' U;rw[e']at e;cases e;show Bu O e6 r
    ·show KZ q
  ·let⟨zs,xs,rfl⟩:=J d hd;let⟨zs',ys,rfl⟩:=J e he;let l1:=hs.lay _ hd;let l2:=hs.lay _ he;show mZ (n:=n) (λh=>by cases h) (hs.cmp _ hd _ he) ra rb (by simpa[Qx]using l1.1) (by simpa[Qx]using l2.1) (by let:=l1.2;simp[Pn]at this;lia) z q
end
end Srt
namespace Srt
inductive Pl:Ni->Prop where
 |int (i:Int):Pl (.int i)
 |tup (xs:List Ni):(∀x∈xs,Pl x)->Pl (.tuple xs)
def bK{h h':Heap}(k:∀b o,h.get? b=Z o->o.cls=.type "tuple"->h'.get? b=Z o){d:Ni}(p:Pl d):∀{v:q7} {as:List Wk},Qt h v d as->Qt h' v d as:=by
 induction p with
 |int i=>intro v as r;cases r;show .int _ _
 |tup xs hx ih=>
  intro v as r
  cases r with
  |tuple h1 h2 q z=>
   calc .tuple (k _ _ h1 h2) h2 q ?_;let g:∀(xs:List Ni),(∀x∈xs,∀{v:q7} {as:List Wk},Qt h v x as->Qt h' v x as)->∀(vs:List q7) (as:List Wk),Tj h vs xs as->Tj h' vs xs as:=by
    intro xs
    induction xs with
    |nil=>intro _ vs as r;cases r;show .nil
    |cons x xs ihx=>
     intro j vs as r
     cases r with
     |cons B p2=>show .cons (j x (_) B) (ihx (λy F=>j y (by simp[F])) _ _ p2)
   show g xs ih _ _ z
section
variable{prog:LN}{w:Mq}{A:Mz}{E:q7->J4->Prop}{s:J4}
def zh{α:Type}{R:α->α->Prop}:∀{l:List α},l.length<2->l.Pairwise R
 |[],_=>.nil
 |[_],_=>List.pairwise_singleton _ _
def Bv{α:Type}:∀{l:List α},2<=l.length->∃x r,l=x::r
 |x::r,_=>⟨x,r,rfl⟩
def Bw{cap:Nat}(S:iK cap){m:Nat}{a:Wk}{vs:List q7}{n:Nat}{ds:List Ni}(ha:s.heap.get? a=Z (V2 "list" vs.toArray n))(Y:RdL s.heap vs ds)(hs:pO m ds)(hp:∀d∈ds,Pl d)(hl:vs.length<=Lf)(IP:vs.length<=cap)(hu:A.units+m+1<Ol){Q:PySem.Fin->J4->Prop}(q:∀(h':Heap) (out:List q7) (n':Nat),(∀b o,b≠a->s.heap.get? b=Z o->h'.get? b=Z o)->h'.get? a=Z (V2 "list" out.toArray n')->out.Perm vs->out.Pairwise (λx y=>ltK (toK (NW s.heap y)) (toK (NW s.heap x))=Wj)->Q (.done (.ret .none)) {s with heap:=h'}):
 Lu (LA prog w) A (Oq.«list.sort» ⟨[.ref a],[]⟩) Q E s:=by
 rw[list_sort_plain];calc gV (UI ha rfl ?_);refine gV (QT ha rfl ?_ (by simpa using hl) (_))
 let g1:=Qc ha (λ_=>#[]);generalize IQ:s.heap.update a (Pk λ_=>#[])=h1 at g1;generalize (if((#[]:Array q7).size==vs.toArray.size)=Wi then n else n+1)=n1 at g1
 calc gV (Vl g1 rfl ?_);refine gV (Te ?_ (by simpa using hl))
 refine gV (S4 ?_ (_))
 calc MP ?_;dsimp only;generalize O:({heap:=(h1.push {cls:=Nt "tuple",data:=QU vs.toArray.toList.toArray}).push {cls:=Nt "list",data:=QU [].toArray},gens:=s.gens,drawn:=s.drawn,toks:=s.toks,os:=s.os}:J4)=s3;let g3:s3.heap.get? a=Z (V2 "list" #[] n1):=by rw[<-O];show D2 _ (D2 _ g1)
 let keep:∀b o,b≠a->s.heap.get? b=Z o->s3.heap.get? b=Z o:=λb o G J=>by rw[<-O,<-IQ];show D2 _ (D2 _ (by rw[NZ _ _ _ _ G];show J))
 let keepT:∀b o,s.heap.get? b=Z o->o.cls=.type "tuple"->s3.heap.get? b=Z o:=λb o G hc=>keep b o (λz=>by rw[z,ha]at G;cases G;simp at hc) G
 let IR:RdL s3.heap vs ds:=λv hv=>by let⟨d,hd,as,r⟩:=Y v hv;show⟨d,hd,as,bK keepT (hp d hd) r⟩
 let same:∀v∈vs,NW s3.heap v=NW s.heap v:=λv hv=>by let⟨d,hd,as,r⟩:=Y v hv;rw[OR (hs.lay d hd).1 r,OR (hs.lay d hd).1 (bK keepT (hp d hd) r)]
 let q:∀(h':Heap) (out:List q7) (n':Nat),(∀b o,b≠a->s.heap.get? b=Z o->h'.get? b=Z o)->h'.get? a=Z (V2 "list" out.toArray n')->out.Perm vs->out.Pairwise (λx y=>ltK (toK (NW s.heap y)) (toK (NW s.heap x))=Wj)->Q (.done (.ret .none)) {s3 with heap:=h'}:=by rw[<-O];show q
 let IT:∀A':Mz,A'.units=A.units->True:=λ_ _=>trivial;clear O
 refine_lift let Good:MN->Prop:=λst'=>Oy st'=N2/\(Mm st').toList.Perm (vs.zip vs)/\(Mm st').toList.Pairwise (λx y=>ltK (dH s3.heap y) (dH s3.heap x)=Wj);?_
 by_cases F:vs.toArray.size<2
 ·rw[if_pos F,if_pos F];calc gV (KZ ?_);let B:vs.length<2:=by simpa using F
  let run:Lu (LA prog w) A ((pure ():StateT MN Sem Unit).run (QN general' (vs.toArray.zip vs.toArray) #[] 7 N2)) (λr s'=>s'=s3/\Good r.2) E s3:=by
   refine KZ ⟨rfl,rfl,?_,?_⟩
   ·change(vs.toArray.zip vs.toArray).toList.Perm _;simp
   ·change List.Pairwise _ (vs.toArray.zip vs.toArray).toList;show zh (by simpa using B)
  calc gV (O7 (Q:=λr s'=>s'=s3/\Good r.2) run (λr s' Y=>?_) (λ_ _ z=>z));let⟨rfl,L,j,U⟩:=Y;let⟨u,st'⟩:=r;calc gV (Vl g3 rfl ?_);refine gV (QT g3 rfl ?_ (_) (by simp only[Array.size_map];let:=j.length_eq;simp at this;rw[this];lia))
  dsimp only at L;rw[L];simp only[bne_self_eq_false,NO,if_false];calc KZ ?_;let gq:=Qc g3 (λ_=>QP (λx=>x.snd) (Mm st'));let eo:QP (λx=>x.snd) (Mm st')=((Mm st').toList.map λx=>x.snd).toArray:=by apply QO.mp;simp
  refine q _ ((Mm st').toList.map λx=>x.snd) _ (λb o G J=>?_) (by rw[gq,eo]) ?_ ?_
  ·rw[NZ _ _ _ _ G];show keep b o G J
  ·let fv:=j.map (λx:Le=>x.snd);rw[V3 (_)]at fv
   show fv
  ·rw[Nr];calc U.imp_of_mem λ{x y} hx hy hxy=>?_;let mx:=Rh (j.mem_iff.mp hx);let my:=Rh (j.mem_iff.mp hy);unfold dH at hxy;rw[mx.1,my.1,same y.2 (by rw[<-my.1];show my.2),same x.2 (by rw[<-mx.1];show mx.2)]at hxy
   show hxy
 ·rw[if_neg F,if_neg F];let B:2<=vs.length:=by simpa using F
  let⟨v0,IS,IK⟩:=Bv B;let⟨kd,IM,IN⟩:=Fh (prog:=prog) (w:=w) (A:=A) (v:=v0) (vs:=IS) (by rw[<-IK];show IR) hs hu
  rw[<-IK]at IM IN;calc gV (IM E _ ?_);let run:Lu (LA prog w) A (sortRuns'.run (QN kd (vs.toArray.zip vs.toArray) #[] 7 N2)) (λr s'=>s'=s3/\Good r.2) E s3:=by
   let ez:(Mm (QN kd (vs.toArray.zip vs.toArray) #[] 7 N2)).toList=vs.zip vs:=by change(vs.toArray.zip vs.toArray).toList=_;simp
   let h9:wpS (LA prog w) A E s3 sortRuns' (λ_ st'=>Good st') (QN kd (vs.toArray.zip vs.toArray) #[] 7 N2):=by
    let IO:(Mm (QN kd (vs.toArray.zip vs.toArray) #[] 7 N2)).size=vs.length:=by rw[<-LI,ez];simp
    refine S _ _ _ _ _ _ _ _ IN (QN kd (vs.toArray.zip vs.toArray) #[] 7 N2) _ rfl rfl rfl (λx hx=>?_) (by rw[IO];show B) (by rw[IO];show IP) λst' p1 p2 p3=>⟨p3,by rw[ez]at p1;show p1,p2⟩
    rw[ez]at hx;show(Rh hx).2
   show h9
  calc gV (O7 (Q:=λr s'=>s'=s3/\Good r.2) run (λr s' Y=>?_) (λ_ _ z=>z));let⟨rfl,L,j,U⟩:=Y;let⟨u,st'⟩:=r;calc gV (Vl g3 rfl ?_);refine gV (QT g3 rfl ?_ (_) (by simp only[Array.size_map];let:=j.length_eq;simp at this;rw[this];lia))
  dsimp only at L;rw[L];simp only[bne_self_eq_false,NO,if_false];calc KZ ?_;let gq:=Qc g3 (λ_=>QP (λx=>x.snd) (Mm st'));let eo:QP (λx=>x.snd) (Mm st')=((Mm st').toList.map λx=>x.snd).toArray:=by apply QO.mp;simp
  refine q _ ((Mm st').toList.map λx=>x.snd) _ (λb o G J=>?_) (by rw[gq,eo]) ?_ ?_
  ·rw[NZ _ _ _ _ G];show keep b o G J
  ·let fv:=j.map (λx:Le=>x.snd);rw[V3 (_)]at fv
   show fv
  ·rw[Nr];calc U.imp_of_mem λ{x y} hx hy hxy=>?_;let mx:=Rh (j.mem_iff.mp hx);let my:=Rh (j.mem_iff.mp hy);unfold dH at hxy;rw[mx.1,my.1,same y.2 (by rw[<-my.1];show my.2),same x.2 (by rw[<-mx.1];show mx.2)]at hxy
   show hxy
def uc(u:q7):checkBuiltinCall "sorted" ⟨[u],[]⟩=pure ():=by kernel_rfl
def wm{cap:Nat}(S:iK cap){m:Nat}{u:q7}{ds:List Ni}{C:Heap->List q7->Prop}{Q:q7->J4->Prop}(hu:A.units+m+3<Ol)(hs:pO m ds)(F:∀d∈ds,Pl d)(G:∀(E:q7->J4->Prop) (R:List q7->J4->Prop),(∀(h':Heap) (vs':List q7) (t':Nat),C h' vs'->RdL h' vs' ds->vs'.length<=Lf/\vs'.length<=cap->s.toks<=t'->R vs' {s with heap:=h',toks:=t'})->Lu (LA prog w) A.in1 (collect u) R E s)(q:∀(h1 h2:Heap) (vs out:List q7) (n' t':Nat),C h1 vs->(∀b o,h1.get? b=Z o->h2.get? b=Z o)->h2.get? h1.objs.size=Z (V2 "list" out.toArray n')->out.Perm vs->out.Pairwise (λx y=>ltK (toK (NW h2 y)) (toK (NW h2 x))=Wj)->RdL h2 out ds->vs.length<=Lf->s.toks<=t'->Q (.ref h1.objs.size) {s with heap:=h2,toks:=t'}):
 Lu (LA prog w) A (call (.builtin "sorted") [u]) Q E s:=by
 calc wpAny_call (codeAny_call_builtin plain_sorted entry_sorted (Pc (uc u) ?_));unfold Builtin.sorted;refine gV (Pc (a:=()) (by kernel_rfl) ?_)
 calc gV (G _ _ λh1 vs t' hC L J ht=>?_);let⟨J,O⟩:=J;calc gV (S4 ?_ J);calc gV (MP ?_);let U:RdL (h1.push {cls:=Nt "list",data:=QU vs.toArray}) vs ds:=λv B=>by let⟨d,hd,as,r⟩:=L v B;show⟨d,hd,as,bK (λb o z _=>D2 _ z) (F d hd) r⟩
 let ha:(h1.push {cls:=Nt "list",data:=QU vs.toArray}).get? h1.objs.size=Z (V2 "list" vs.toArray 0):=Lk _ rfl;calc MA slot_list_sort (T:="list") ⟨_,ha,rfl⟩ entry_list_sort ?_ (args_list_sort _);refine Bw S (m:=m) ha U hs F J O (by change A.units+1+1+m+1<Ol;lia) λh2 out n' keep g2 j Y=>⟨_,rfl,KZ ?_⟩
 let old:∀b o,h1.get? b=Z o->h2.get? b=Z o:=λb o z=>keep b o (Md (Lr z)) (D2 _ z);let fv:RdL h2 vs ds:=λv B=>by let⟨d,hd,as,r⟩:=L v B;show⟨d,hd,as,bK (λb o z _=>old b o z) (F d hd) r⟩
 calc q h1 h2 vs out n' t' hC old g2 j ?_ (λv B=>fv v (j.mem_iff.mp B)) J ht;let same:∀v∈vs,NW (h1.push {cls:=Nt "list",data:=QU vs.toArray}) v=NW h2 v:=λv B=>by let⟨d,hd,as,r⟩:=L v B;rw[OR (hs.lay d hd).1 (bK (λb o z _=>old b o z) (F d hd) r),OR (hs.lay d hd).1 (bK (λb o z _=>D2 _ z) (F d hd) r)]
 calc Y.imp_of_mem λ{x y} hx hy hxy=>?_;rw[same y (j.mem_iff.mp hy),same x (j.mem_iff.mp hx)]at hxy;show hxy
end
end Srt
namespace It
end It
namespace It
end It
namespace It
end It
section
section
variable{P:LN}{w:Mq}{H:Hp}{h:Heap}{a:Wk}{o:HO}
def ObjOk.there(x:ObjOk P w H h a o):∃ob,h.get? a=Z ob:=by
 cases o with
 |lst xs=>let⟨_,_,_,_,e⟩:=x;show⟨_,e⟩
 |tup xs=>let⟨_,_,_,_,e,_⟩:=x;show⟨_,e⟩
 |dK kvs=>let⟨_,_,_,_,o,_,_,e,_⟩:=x;show⟨_,e⟩
 |dT kvs=>let⟨_,_,_,_,o,_,_,e,_⟩:=x;show⟨_,e⟩
 |set S n=>let⟨o,_,_,_,e,_⟩:=x;show⟨_,e⟩
 |ins C dx fs=>let⟨_,_,_,e,_⟩:=x;show⟨_,e⟩
 |own y=>let⟨_,e⟩:=x;show⟨_,e⟩
 |xd fs=>let⟨_,⟨_,_,_,e,_⟩,_⟩:=x;show⟨_,e⟩
 |rng lo hi=>let⟨_,_,_,e⟩:=x;show⟨_,e⟩
 |frz ob u=>let⟨e,_⟩:=x;show⟨_,e⟩
 |tbl ps=>show⟨_,show h.get? a=Z _ from x⟩
 |met f y=>show⟨_,show h.get? a=Z _ from x⟩
 |ext φ=>let⟨_,⟨_,e⟩,_⟩:=x;show⟨_,e⟩
end
abbrev lay(H:Hp)(N:Wk->Option HO):Hp:=λb=>match N b with|some o=>Z o|none=>H b
section
variable{X:Cx}{pins:List (Wk×Obj)}{σ:List (Option V)}{H:Hp}{s:J4}{h':Heap}{N:Wk->Option HO}
def By{o:HO}(e:N b=Z o):lay H N b=Z o:=by unfold lay;rw[e]
def ll(e:N b=N2):lay H N b=H b:=by unfold lay;rw[e]
def Inv.fresh'(I:Inv X pins σ H s)(e:s.heap.get? b=N2):H b=N2:=by
 cases q:H b with
 |none=>rfl
 |some o=>let⟨ob,eo⟩:=(I.hok b o q).there;rw[e]at eo;cases eo
def Inv.laidN(I:Inv X pins σ H s)(k:∀b u,s.heap.get? b=Z u->h'.get? b=Z u)(j:∀b o,N b=Z o->s.heap.get? b=N2)(new:∀b o,N b=Z o->ObjOk X.prog X.w (lay H N) h' b o):Inv X pins σ (lay H N) {s with heap:=h',toks:=t'}:=by
 let old:∀b u,s.heap.get? b=Z u->N b=N2:=λb u e=>by
  cases q:N b with
  |none=>rfl
  |some o=>rw[j b o q]at e;cases e
 let oldH:∀b o,H b=Z o->lay H N b=Z o:=λb o e=>by let⟨ob,eo⟩:=(I.hok b o e).there;rw[ll (old b ob eo)];show e
 refine I.un ⟨λb u q _ _ _=>k b u q,λb u q _ _ _=>⟨u.slots,k b u q⟩,λb u q n _=>by rw[ll (old b u q)];show n,λb u q _=>⟨u,k b u q⟩,λb xs q=>oldH b _ q,λb u xs q=>oldH b _ q,λb ps q=>⟨#[],by rw[oldH b _ q];simp⟩⟩ λb o e=>?_
 cases q:N b with
 |some o'=>rw[By q]at e;cases e;show new b o q
 |none=>rw[ll q]at e;show(I.hok b o e).stay (λc v _ q=>k c v q) (λc q=>oldH c _ q) λc xs q=>oldH c _ q
end
namespace Mi
open L2.Srt
inductive Sh where
 |int
 |tup (l:List Sh)
mutual
noncomputable def hs:Sh->D->Bool
 |.int,.int _=>Wi
 |.tup l,.tup ds=>hss l ds
 |_,_=>Wj
noncomputable def hss:List Sh->List D->Bool
 |[],[]=>Wi
 |s::l,d::ds=>hs s d&&hss l ds
 |_,_=>Wj
end
mutual
noncomputable def pd:D->Ni
 |.int i=>.int i
 |.tup ds=>.tuple (pds ds)
 |_=>.none
noncomputable def pds:List D->List Ni
 |[]=>[]
 |d::ds=>pd d::pds ds
end
mutual
noncomputable def dep:Sh->Nat
 |.int=>0
 |.tup l=>deps l+1
noncomputable def deps:List Sh->Nat
 |[]=>0
 |s::l=>max (dep s) (deps l)
end
abbrev lm:Sh->Bool
 |.int=>Wi
 |.tup (.int::l)=>decide (deps l<=6)
 |.tup (.tup a::l)=>decide (deps (.tup a::l)<=6)
 |.tup []=>Wj
abbrev kyD(d:D):Ky:=toK (pd d)
mutual
theorem wn:∀(s:Sh) (x y:D),hs s x=Wi->hs s y=Wi->Cmpb (pd x) (pd y)
 |.int,.int a,.int b,_,_=>by simp only[pd];show .int a b
 |.tup l,.tup a,.tup b,h,g=>by simp only[hs]at h g;simp only[pd];show hss_cmp l a b h g
 |.int,.int _,.non,_,g=>by simp[hs]at g
 |.int,.int _,.bl _,_,g=>by simp[hs]at g
 |.int,.int _,.str _,_,g=>by simp[hs]at g
 |.int,.int _,.tup _,_,g=>by simp[hs]at g
 |.int,.int _,.con _,_,g=>by simp[hs]at g
 |.int,.int _,.ref _,_,g=>by simp[hs]at g
 |.int,.non,_,h,_=>by simp[hs]at h
 |.int,.bl _,_,h,_=>by simp[hs]at h
 |.int,.str _,_,h,_=>by simp[hs]at h
 |.int,.tup _,_,h,_=>by simp[hs]at h
 |.int,.con _,_,h,_=>by simp[hs]at h
 |.int,.ref _,_,h,_=>by simp[hs]at h
 |.tup _,.non,_,h,_=>by simp[hs]at h
 |.tup _,.bl _,_,h,_=>by simp[hs]at h
 |.tup _,.int _,_,h,_=>by simp[hs]at h
 |.tup _,.str _,_,h,_=>by simp[hs]at h
 |.tup _,.con _,_,h,_=>by simp[hs]at h
 |.tup _,.ref _,_,h,_=>by simp[hs]at h
 |.tup _,.tup _,.non,_,g=>by simp[hs]at g
 |.tup _,.tup _,.bl _,_,g=>by simp[hs]at g
 |.tup _,.tup _,.int _,_,g=>by simp[hs]at g
 |.tup _,.tup _,.str _,_,g=>by simp[hs]at g
 |.tup _,.tup _,.con _,_,g=>by simp[hs]at g
 |.tup _,.tup _,.ref _,_,g=>by simp[hs]at g
theorem hss_cmp:∀(l:List Sh) (a b:List D),hss l a=Wi->hss l b=Wi->Cmpb (.tuple (pds a)) (.tuple (pds b))
 |[],[],[],_,_=>by simp only[pds];show .nil _
 |[],[],_::_,_,g=>by simp[hss]at g
 |[],_::_,_,h,_=>by simp[hss]at h
 |_::_,[],_,h,_=>by simp[hss]at h
 |_::_,_::_,[],_,g=>by simp[hss]at g
 |s::l,x::a,y::b,h,g=>by simp only[hss,D1]at h g;simp only[pds];show .cons (wn s x y h.1 g.1) (hss_cmp l a b h.2 g.2)
end
mutual
theorem ud:∀(s:Sh) (x:D),hs s x=Wi->Pl (pd x)/\(pd x).canLay0=Wi/\(pd x).depth<=dep s
 |.int,.int a,_=>by simp only[pd];show⟨.int a,rfl,by simp[Pn]⟩
 |.tup l,.tup a,h=>by simp only[hs]at h;let⟨h1,h2,j⟩:=hss_pl l a h;simp only[pd];show⟨.tup _ h1,by simpa[Qx]using h2,by simp[Pn,dep];lia⟩
 |.int,.non,h=>by simp[hs]at h
 |.int,.bl _,h=>by simp[hs]at h
 |.int,.str _,h=>by simp[hs]at h
 |.int,.tup _,h=>by simp[hs]at h
 |.int,.con _,h=>by simp[hs]at h
 |.int,.ref _,h=>by simp[hs]at h
 |.tup _,.non,h=>by simp[hs]at h
 |.tup _,.bl _,h=>by simp[hs]at h
 |.tup _,.int _,h=>by simp[hs]at h
 |.tup _,.str _,h=>by simp[hs]at h
 |.tup _,.con _,h=>by simp[hs]at h
 |.tup _,.ref _,h=>by simp[hs]at h
theorem hss_pl:∀(l:List Sh) (a:List D),hss l a=Wi->(∀x∈pds a,Pl x)/\Nq (pds a)=Wi/\Ow (pds a)<=deps l
 |[],[],_=>by simp[pds,Nq,Ow]
 |[],_::_,h=>by simp[hss]at h
 |_::_,[],h=>by simp[hss]at h
 |s::l,x::a,h=>by
  simp only[hss,D1]at h;let⟨h1,h2,q⟩:=ud s x h.1;let⟨g1,g2,g3⟩:=hss_pl l a h.2;simp only[pds];refine⟨λy j=>?_,by simp[Nq,h2,g2],by simp[Ow,deps];lia⟩
  rcases Lm.mp j with z|z
  ·rw[z];show h1
  ·show g1 y z
end
mutual
theorem Ab(M:Mem):∀(s:Sh) (x:D) (n:Nat),hs s x=Wi->dep s<=n->rb n M x=Z (pd x)
 |.int,.int a,n,_,_=>by cases n<;>simp[rb,pd]
 |.tup l,.tup a,n,h,j=>by
  simp only[hs]at h;simp only[dep]at j;obtain⟨k,rfl⟩:∃k,n=k+1:=⟨n-1,∅⟩
  simp only[rb,pd];rw[hss_rb M l a k h ∅];rfl
 |.int,.non,_,h,_=>by simp[hs]at h
 |.int,.bl _,_,h,_=>by simp[hs]at h
 |.int,.str _,_,h,_=>by simp[hs]at h
 |.int,.tup _,_,h,_=>by simp[hs]at h
 |.int,.con _,_,h,_=>by simp[hs]at h
 |.int,.ref _,_,h,_=>by simp[hs]at h
 |.tup _,.non,_,h,_=>by simp[hs]at h
 |.tup _,.bl _,_,h,_=>by simp[hs]at h
 |.tup _,.int _,_,h,_=>by simp[hs]at h
 |.tup _,.str _,_,h,_=>by simp[hs]at h
 |.tup _,.con _,_,h,_=>by simp[hs]at h
 |.tup _,.ref _,_,h,_=>by simp[hs]at h
theorem hss_rb(M:Mem):∀(l:List Sh) (a:List D) (n:Nat),hss l a=Wi->deps l<=n->ax (rb n M) a=Z (pds a)
 |[],[],_,_,_=>by simp[pds,ax]
 |[],_::_,_,h,_=>by simp[hss]at h
 |_::_,[],_,h,_=>by simp[hss]at h
 |s::l,x::a,n,h,j=>by simp only[hss,D1]at h;simp only[deps]at j;simp only[pds,ax];rw[Ab M s x n h.1 ∅,hss_rb M l a n h.2 ∅];rfl
end
def pQ{s:Sh}(h:lm s=Wi):dep s<=7:=by
 match s,h with
 |.int,_=>simp[dep]
 |.tup (.int::l),h=>simp[lm]at h;simp[dep,deps];lia
 |.tup (.tup a::l),h=>simp only[lm,decide_eq_true_eq]at h;simp only[dep];lia
def Bz{s:Sh}(h:lm s=Wi){xs:List D}(hx:∀x∈xs,hs s x=Wi):pO 7 (xs.map pd)/\∀d∈xs.map pd,Pl d:=by
 refine⟨⟨?_,?_,?_⟩,?_⟩
 ·intro d hd e he;let⟨x,h1,rfl⟩:=L7.mp hd;let⟨y,h2,rfl⟩:=L7.mp he;show wn s x y (hx x h1) (hx y h2)
 ·intro d hd;let⟨x,h1,rfl⟩:=L7.mp hd;let⟨_,g2,g3⟩:=ud s x (hx x h1);show⟨g2,by let:=pQ h;lia⟩
 ·match s,h with
  |.int,_=>
   left
   intro d hd;let⟨x,h1,rfl⟩:=L7.mp hd;let:=hx x h1
   cases x<;>simp[hs]at this
   show⟨_,rfl⟩
  |.tup (.int::l),_=>
   right;left
   intro d hd;let⟨x,h1,rfl⟩:=L7.mp hd;let:=hx x h1
   cases x<;>simp[hs]at this
   rename_i ds
   cases ds with
   |nil=>simp[hss]at this
   |cons y ys=>
    simp[hss]at this
    cases y<;>simp[hs]at this
    show⟨_,_,rfl⟩
  |.tup (.tup a::l),_=>
   right;right
   intro d hd;let⟨x,h1,rfl⟩:=L7.mp hd;let:=hx x h1
   cases x<;>simp[hs]at this
   rename_i ds
   cases ds with
   |nil=>simp[hss]at this
   |cons y ys=>
    simp[hss]at this
    cases y<;>simp[hs]at this
    show⟨_,_,rfl⟩
 ·intro d hd;let⟨x,h1,rfl⟩:=L7.mp hd;show(ud s x (hx x h1)).1
def n8{α β:Type}(f:α->β):∀{l m:List β},l.Perm m->∀{t:List α},t.map f=m->∃t':List α,t'.Perm t/\t'.map f=l:=by
 intro l m h
 induction h with
 |nil=>intro t e;show⟨[],by rw[List.map_eq_nil_iff.mp e],rfl⟩
 |cons x h ih=>
  intro t e
  cases t with
  |nil=>simp at e
  |cons a t=>simp at e;let⟨t',h1,h2⟩:=ih e.2;show⟨a::t',h1.cons a,by simp[h2,e.1]⟩
 |swap x y l=>
  intro t e
  match t,e with
  |a::b::t,e=>simp at e;show⟨b::a::t,.swap _ _ _,by simp[e]⟩
 |trans h1 h2 j q=>intro t e;let⟨G,p2,z⟩:=q e;let⟨t1,B,F⟩:=j z;show⟨t1,B.trans p2,F⟩
abbrev pR(ys:List D):Prop:=ys.Pairwise λa b=>ltK (kyD b) (kyD a)=Wj
def rV{K:Frag}{H:Hp}:∀{ds:List D} {vs:List V} {us:List q7},RDs K H ds vs->Vals vs us->∃t:List (D×V×q7),t.map (·.1)=ds/\t.map (·.2.1)=vs/\t.map (·.2.2)=us/\∀p∈t,RD K H p.1 p.2.1/\RelV p.2.1 p.2.2
 |[],vs,us,h,g=>by
  cases RDs.nil_iff.mp h
  cases g
  show⟨[],rfl,rfl,rfl,λ_ h=>by simp at h⟩
 |d::ds,vs,us,h,g=>by
  let⟨v,r,rfl,h1,h2⟩:=W1.mp h
  cases g with
  |cons g1 g2=>
   rename_i u us;let⟨t,j,q,B,F⟩:=rV h2 g2;show⟨(d,v,u)::t,by simp[j],by simp[q],by simp[B],λp G=>by
    rcases Lm.mp G with z|z
    ·rw[z];show⟨h1,g1⟩
    ·show F p z⟩
def rW{K:Frag}{H:Hp}:∀{t:List (D×V×q7)},(∀p∈t,RD K H p.1 p.2.1/\RelV p.2.1 p.2.2)->RDs K H (t.map (·.1)) (t.map (·.2.1))/\Vals (t.map (·.2.1)) (t.map (·.2.2))
 |[],_=>⟨RDs.nil,.nil⟩
 |p::t,h=>by
  let⟨h1,h2⟩:=rW (t:=t) λq j=>h q (by simp[j])
  show⟨RDs.cons (h p (_)).1 h1,.cons (h p (_)).2 h2⟩
section
variable{X:Cx}
def rh{cap:Nat}(S:iK cap)(L:X.A.units+16<Ol){pins:List (Wk×Obj)}{s:J4}{σ:St}{H:Hp}{Q:VK}(I:Inv X pins σ H s){M:Mem}(rm:RM X.K M H){es:List D}{sh:Sh}{vs:List V}{p:Wk}(rvs:RDs X.K H es vs)(hok:lm sh=Wi)(O:∀d∈es,hs sh d=Wi)(q:∀p ys,M p=N2->ys.Perm es->pR ys->KE' X.K M H Q (.ref p) (ag M p (.lst ys))){its:List q7}(hv:Vals vs its)(hl:vs.length<=Lf)(IN:vs.length<=cap)(U:∀(E:q7->J4->Prop) (R:List q7->J4->Prop),(∀(h':Heap) (tk:Nat),(∀b o,s.heap.get? b=Z o->h'.get? b=Z o)->s.toks<=tk->R its {s with heap:=h',toks:=tk})->Lu (LA X.prog X.w) X.A.in1 (collect (.ref p)) R E s):
 Lu (LA X.prog X.w) X.A (call (.builtin "sorted") [.ref p]) (EP X pins σ Q) X.xe s:=by
 let⟨hS,J⟩:=Bz hok O;let IQ:=pQ hok;let⟨t,t1,t2,t3,t4⟩:=rV rvs hv;let Y:∀pp∈t,∃as,Qt s.heap pp.2.2 (pd pp.1) as:=λpp j=>by
  let hm:pp.1∈es:=by rw[<-t1];show LJ j
  show cc I rm 16 pp.1 (pd pp.1) pp.2.1 pp.2.2 (Ab M sh pp.1 16 (O _ hm) ∅) (t4 pp j).1 (t4 pp j).2
 let fv:RdL s.heap its (es.map pd):=λu L=>by rw[<-t3]at L;let⟨pp,j,rfl⟩:=L7.mp L;let⟨as,ra⟩:=Y pp j;show⟨pd pp.1,LJ (by rw[<-t1];show LJ j),as,ra⟩
 refine wm S (m:=7) (ds:=es.map pd) (C:=λh' vs'=>vs'=its/\∀b o,s.heap.get? b=Z o->h'.get? b=Z o) ∅ hS J (λE R hR=>?_) λh1 h2 vs' out n' tk hC old g2 F IK IR IS ht=>?_
 ·refine U E R λh' tk kp IO=>hR h' its tk ⟨rfl,kp⟩ (λu L=>?_) ⟨by rw[<-hv.length];show hl,by rw[<-hv.length];show IN⟩ IO
  let⟨d,hd,as,ra⟩:=fv u L;show⟨d,hd,as,bK (λb o e _=>kp b o e) (J d hd) ra⟩
 ·let⟨rfl,kp⟩:=hC;rw[<-t3]at F;let⟨t',p1,p2⟩:=n8 (fun pp:D×V×q7=>pp.2.2) F rfl;let hz:=rW (t:=t') fun pp j=>t4 pp (p1.mem_iff.mp j);let IM:∀b o,s.heap.get? b=Z o->h2.get? b=Z o:=fun b o e=>old b o (kp b o e);let z:s.heap.get? h1.objs.size=N2:=by
   cases hq:s.heap.get? h1.objs.size with
   |none=>rfl
   |some o=>show absurd (Lr (kp _ _ hq)) (NJ _)
  let IP:=I.fresh' z;let hlen:(t'.map (·.2.1)).length<=Lf:=by rw[h7,p1.length_eq,<-h7 (f:=λpp:D×V×q7=>pp.2.1),t2];show hl
  let I2:=I.laidN (t':=tk) (h':=h2) (N:=λb=>if b=h1.objs.size then Z (.lst (t'.map (·.2.1)))else N2) IM (λb o e=>by
   by_cases B:b=h1.objs.size
   ·rw[B];show z
   ·rw[if_neg B]at e;cases e) (λb o e=>by
   by_cases B:b=h1.objs.size
   ·subst B;rw[if_pos rfl]at e;cases e;show⟨hlen,out,n',by rw[<-p2];show hz.2,g2⟩
   ·rw[if_neg B]at e;cases e)
  let eH:lay H (λb=>if b=h1.objs.size then Z (.lst (t'.map (·.2.1)))else N2)=upd H h1.objs.size (.lst (t'.map (·.2.1))):=by
   funext b
   unfold lay upd;dsimp only
   by_cases B:b=h1.objs.size
   ·rw[if_pos B,if_pos B]
   ·rw[if_neg B,if_neg B]
  rw[eH]at I2;calc⟨.ref h1.objs.size,_,I2,rfl,?_⟩;refine cO rm hz.1 (λp' n=>q p' _ n ?_ ?_) IP
  ·let:=p1.map (λpp:D×V×q7=>pp.1);rw[t1]at this;show this
  ·unfold pR;rw[Nr];rw[<-p2,Nr]at IK;calc IK.imp_of_mem fun {a b} ha B hab=>?_;let rd:∀pp∈t',NW h2 pp.2.2=pd pp.1:=fun pp j=>by
    let G:=p1.mem_iff.mp j;let⟨as,ra⟩:=Y pp G;let hm:pp.1∈es:=by rw[<-t1];show LJ G
    show OR (hS.lay _ (LJ hm)).1 (bK (λb o e _=>IM b o e) (J _ (LJ hm)) ra)
   rw[rd a ha,rd b B]at hab;show hab
end
end Mi
end
namespace Mi
open L2.Srt
abbrev ln(K:Frag)(H:Hp)(kv:D×D)(e:Oo):Prop:=∃kV vV,RD K H kv.1 kV/\RelV kV e.key/\RD K H kv.2 vV/\RelV vV e.val
variable{K:Frag}{H:Hp}
def rX{d:D}{k:Key}(h:RKey d k):RD K H d (kV k):=by
 cases d<;>first
  |show h.elim
  |(cases h;first|show VY.mpr rfl|show W4.mpr rfl)
def n9{K:Frag}{H:Hp}:∀{ds:List D} {ks:List Key},Mh RKey ds ks->RDs K H ds (ks.map kV)
 |_,_,.nil=>RDs.nil
 |_,_,.cons r t=>RDs.cons (rX r) (n9 t)
def Ac{P:LN}{w:Mq}{K:Frag}{H:Hp}:∀{kvs:List (D×D)} {ps:List (Key×V)} {vs:List (Key×q7)} {es:List Oo},Mh (λ(p:D×D) (q:Key×V)=>RKey p.1 q.1/\RD K H p.2 q.2) kvs ps->KV ps vs->Pairs (aJ P w) es vs->Mh (ln K H) kvs es
 |_,_,_,_,.nil,.nil,.nil=>.nil
 |_,_,_,_,.cons B t1,.cons F G,.cons h1 h2 t3=>by
  refine .cons ⟨kV _,_,rX B.1,?_,B.2,by rw[h2];show F.2⟩ (Ac t1 G t3)
  rw[<-F.1]at h1
  rcases aW h1 with⟨i,t,j,z⟩|⟨x,t,j,z⟩
  ·rw[j,z];show⟨t,rfl⟩
  ·rw[j,z];show⟨t,rfl⟩
def Ad{P:LN}{w:Mq}{K:Frag}{H:Hp}:∀{kvs:List (D×D)} {ps:List (List Key×V)} {xs:List (List Key×Wk×q7)},Mh (λ(p:D×D) (q:List Key×V)=>RKeys p.1 q.1/\RD K H p.2 q.2) kvs ps->Mh (λ(p:List Key×V) (q:List Key×Wk×q7)=>p.1=q.1/\H q.2.1=Z (.tup (p.1.map kV))/\RelV p.2 q.2.2) ps xs->Mh (ln K H) kvs (xs.map (entryOfKey (PY (aJ P w))))
 |_,_,_,.nil,.nil=>.nil
 |kv::_,_,_,.cons z t1,.cons B F=>by
  calc .cons ?_ (Ad t1 F);let⟨d,v⟩:=kv;let j:=z.1
  cases d<;>first
   |show j.elim
   |show⟨.ref _,_,Wa ⟨_,_,rfl,B.2.1,n9 j⟩,rfl,z.2,B.2.2⟩
def bf{α β:Type}{R:α->β->Prop}:∀{l:List α} {m:List β},Mh R l m->l.length=m.length
 |_,_,.nil=>rfl
 |_,_,.cons _ t=>by simp[bf t]
variable{a:Wk}{kvs:List (D×D)}
section
variable{X:Cx}
def pS{h:Heap}{P:LN}{w:Mq}{ps:List (List Key×V)}(ok:ObjOk P w H h a (.dT ps))(pr:Mh (λ(p:D×D) (q:List Key×V)=>RKeys p.1 q.1/\RD K H p.2 q.2) kvs ps):
 ∃cd dd sl es ep,h.get? a=Z {cls:=cd,dict:=dd,data:=.dict es ep,slots:=sl}/\es.size<=Lf/\Mh (ln K H) kvs es.toList:=by
 let⟨G,B,xs,j,o,es,ep,h1,h2,z,F,J⟩:=ok;let⟨cd,dd,dat,sl⟩:=o;dsimp only at z;subst z;let pp:=Ad (P:=P) (w:=w) pr j;rw[<-F]at pp;calc⟨cd,dd,sl,es,ep,h1,?_,pp⟩;let:=bf pp;let:=bf pr;simp at *;lia
def BA{pins:List (Wk×Obj)}{σ:St}{s:J4}{M:Mem}(I:Inv X pins σ H s)(rm:RM X.K M H){t:Bool}(e:M a=Z (.dct t kvs)):
 ∃cd dd sl es ep,s.heap.get? a=Z {cls:=cd,dict:=dd,data:=.dict es ep,slots:=sl}/\es.size<=Lf/\Mh (ln X.K H) kvs es.toList/\IsD H a:=by
 let ro:=rm a _ e
 cases t with
 |false=>let⟨ps,j,pr⟩:=ro;let⟨G,B,vs,z,o,es,ep,h1,h2,q,J,F,L⟩:=I.hok a _ j;let⟨cd,dd,dat,sl⟩:=o;dsimp only at q;subst q;let pp:=Ac pr z F;calc⟨cd,dd,sl,es,ep,h1,?_,pp,.inl ⟨_,Rd.of j⟩⟩;let:=bf pp;let:=bf pr;simp at *;lia
 |true=>let⟨ps,j,pr⟩:=ro;let⟨cd,dd,sl,es,ep,h1,h2,q⟩:=pS (I.hok a _ j) pr;show⟨cd,dd,sl,es,ep,h1,h2,q,.inr ⟨_,Rd.of j⟩⟩
end
section
abbrev nY(to tk tx:TEd):TEd:=λρ M Q=>to ρ M λx M1=>∃a t kvs,x=.ref a/\M1 a=Z (.dct t kvs)/\tk ρ M1 λk M2=>tx ρ M2 λz M3=>∃t' kvs',M3 a=Z (.dct t' kvs')/\fV t' k=Wi/\Q ((dget kvs' k).getD z) M3
def wp{to tk tx:TEd}(h1:ae to)(h2:ae tk)(B:ae tx):ae (nY to tk tx):=λρ M Q Q' i q=>h1 _ _ _ _ (λx U j=>(by let⟨a,t,kvs,e,F,G⟩:=j;show⟨a,t,kvs,e,F,h2 _ _ _ _ (λk M2 J=>B _ _ _ _ (λz Y j=>(by let⟨t',kvs',L,ok,O⟩:=j;show⟨t',kvs',L,ok,i _ _ O⟩)) J) G⟩)) q
section
variable{X:Cx}
def DB{M:Mem}(rm:RM K M H){t:Bool}(e:M a=Z (.dct t kvs)):IsD H a:=by
 let ro:=rm a _ e
 cases t with
 |false=>let⟨ps,j,_⟩:=ro;show .inl ⟨_,Rd.of j⟩
 |true=>let⟨ps,j,_⟩:=ro;show .inr ⟨_,Rd.of j⟩
def BB{o e f:Expr}{to tk tx:TEd}{apos cpos:Pos}(Y:X.A.units+1<Ol)(mo:ae to)(mk:ae tk)(mx:ae tx)(ho:PE X o (lE X.K to))(he:PE X e (lE X.K tk))(hf:PE X f (lE X.K tx))(m:M2 X o "get" apos e f cpos):
 PE X (.Call (.Attribute o "get" apos) [e,f] [] cpos) (lE X.K (nY to tk tx)):=by
 calc PE.imp (yf Y ho he hf m) λσ H Q h=>?_;let⟨ρ,M,rs,rm,q⟩:=h;calc⟨ρ,M,rs,rm,mo _ _ _ _ (λx fv g9 v H1 L j rd1=>?_) q⟩;let⟨a,t,kvs,e,e1,q1⟩:=g9;subst e
 cases VZ.mp rd1
 let B:=rs.mono (L.stab rm);calc⟨a,rfl,DB j e1,ρ,fv,B,j,mk _ _ _ _ (λk M2 q2 v2 H2 O F G=>?_) q1⟩;let J:=B.mono (O.stab j);calc⟨ρ,M2,J,F,mx _ _ _ _ (λz M3 g9 v3 H3 U rm3 rd3=>?_) q2⟩;let⟨t',kvs',e3,ok,q3⟩:=g9;let⟨w,g,g1,g2⟩:=kY rm3 e3 ok (G.mono (U.stab F));calc⟨w,g,?_⟩;refine q3 _ H3 (L.trans (O.trans U)) rm3 ?_
 cases e4:dget kvs' k with
 |none=>rw[g2 e4];show rd3
 |some d=>let⟨w',e5,r5⟩:=g1 d e4;rw[e5];show r5
end
end
end Mi
namespace Mi
end Mi
namespace Mi
end Mi
namespace Mi
end Mi
section
section
variable{prog:LN}{w:Mq}{A:Mz}{E:q7->J4->Prop}{s:J4}
def BC:typeLookup (.type "list") "keys"=pure N2:=by rw[typeLookup_type,T3];kernel_rfl
def BD{l:Wk}{o:Obj}{xs:Array q7}{k:Nat}{Q:Option q7->J4->Prop}(B:A.handled=N2)(ho:s.heap.get? l=Z o)(z:o.cls=.type "list")(hd:o.data=.seq xs k)(j:o.dict=N2)(q:∀h' tk,(∀b o,s.heap.get? b=Z o->h'.get? b=Z o)->Q N2 {s with heap:=h',toks:=tk}):Lu (model prog w) A (getAttr? (.ref l) "keys") Q E s:=by
 let ty:s.TypeIs (.ref l) "list":=⟨_,ho,z⟩;unfold getAttr?;unfold mkText;calc gV ?_;calc gV (wpAny_fresh ?_);calc KZ ?_;unfold getAttrBy?;calc gV (P2 ?_);unfold getAttrBy;calc MP ?_;refine gV (OS (s:={s with toks:=s.toks+1}) ty ?_)
 calc gV (Pc F.slot_list_getattribute.lookup ?_);refine SS (·) ?_
 unfold getAttrByItsOwn hookBefore;rw[if_neg (·)]
 calc gV (KZ ?_);calc gV (P2 (MP ?_));unfold callGetattribute boundAndCalled;rw[if_neg (·)]
 calc gV (Pc (F.slot_list_getattribute.bind _) ?_);dsimp only;let⟨cls,dd,dat,sl⟩:=o;dsimp only at z hd j;subst z hd j;refine SG F.slot_list_getattribute (s:={s with toks:=s.toks+1}) ty am_entry_list_getattribute (F.args_list_getattribute_2 _ _) ((meets_getattribute_miss_list l xs k sl "keys" s.toks BC (·) (·)).inModel prog w) ⟨ho,B,λh' tk a ne=>?_⟩
 ·let ne:s.heap.NewAttrErr h' a (.ref l) "keys":=ne;let⟨t,u,he⟩:=ne.there;unfold getattributeRaised;refine gV (OE (T:="AttributeError") (b:=Wi) ⟨_,he,rfl⟩ (by rw[Qw];kernel_rfl) ?_)
  rw[if_pos rfl];unfold hookBehind;rw[if_neg (·)]
  calc gV (Pc am_list_getattr_none ?_);unfold hookOrError attributeErrorLeaves;dsimp only;rw[if_pos (·)]
  calc gV (Vh ?_);refine gV (OE (T:="AttributeError") (b:=Wi) ⟨_,he,rfl⟩ (by rw[Qw];kernel_rfl) ?_)
  rw[if_pos rfl];show KZ (q h' tk ne.keeps)
end
end
section
def pT:entryFor table "dict.update.loop"=Z Oq.«dict.update.loop»:=V4 (by kernel_rfl)
def pU:plainId "dict.update.loop"=Wi:=by decide +kernel
section
variable{X:Cx}{pins:List (Wk×Obj)}{σ:St}{H:Hp}
abbrev PrV(H:Hp)(v:V)(kv:List Key×V):Prop:=∃t b,v=.ref t/\H t=Z (.tup [.ref b,kv.2])/\H b=Z (.tup (kv.1.map kV))
noncomputable abbrev bW(kvs:List (List Key×V)):List (List Key×V):=kvs.foldl (λa kv=>bE a kv.1 kv.2) []
def ue(kvs:List (List Key×V)):(bW kvs).length<=kvs.length:=by
 let g:∀(r:List (List Key×V)) (a:List (List Key×V)),(r.foldl (λa kv=>bE a kv.1 kv.2) a).length<=a.length+r.length:=by
  intro r
  induction r with
  |nil=>intro a;simp
  |cons x r ih=>intro a;let h1:=ih (bE a x.1 x.2);let h2:=dg a x.1 x.2;simp only[Nl,LB];lia
 let:=g kvs [];simpa using this
def kr{α β:Type}{R:α->β->Prop}:∀{l:List α} {m:List β} {i:Nat} {x:α},Mh R l m->l[i]?=Z x->∃y,m[i]?=Z y/\R x y
 |_,_,_,_,.nil,e=>by simp at e
 |_,_,0,_,.cons r _,e=>by simp at e;subst e;show⟨_,rfl,r⟩
 |_,_,i+1,x,.cons _ t,e=>by simp at e;let⟨y,h1,h2⟩:=kr t e;show⟨y,by simpa using h1,h2⟩
def BE(hu:A.units+1<Ol)(hn:A.handled=N2){l it p:Wk}{vs:List V}(fv:H p=N2)(Y:H l=Z (.lst vs))(G:Mh (PrV H) vs kvs)(hz:vs.length<Lf){R:Result->J4->Prop}(hf:cu X pins H it)(j:it≠p):
 ∀(k i:Nat) (s:J4),vs.length-i=k->i<=vs.length->Inv X pins σ (upd H p (.dT (bW (kvs.take i)))) s->s.heap.IsListIter it l i->
  (∀s',Inv X pins σ (upd H p (.dT (bW kvs))) s'->R (.ok (.ret .none)) s')->
  QS (model X.prog X.w) A (.builtin "dict.update.loop" ⟨[.ref p,.ref it,RZ i,.none],[]⟩) R s:=by
 let J:l≠p:=λz=>by rw[z,fv]at Y;cases Y
 let hlen:vs.length=kvs.length:=NS G;let⟨f0,f1,f2,f3,f4,f5⟩:=hf;intro k
 induction k with
 |zero=>
  intro i s hk hi I st q;let IK:i=vs.length:=∅
  let⟨its,rv,pl,_⟩:=I.list (SqL.of (K:=X.K) ((am J).trans Y));calc R8 pT ?_;unfold Oq.«dict.update.loop»;dsimp only;refine gV (SX hn st pl.isList (by let:=rv.length;simp;lia) λh' eb=>?_)
  calc gV ?_;unfold Builtin.Dict.addKeywords;calc gV ?_;let B:=I.turned (t':=s.toks) (h':=h') (λb o F e=>eb b o F e) ((am j).trans f0) f1 f3 f4 f5;rw[IK,hlen,P7]at B;show KZ (KZ (KZ (q _ B)))
 |succ k ih=>
  intro i s hk hi I st q;let L:i<vs.length:=∅
  let⟨its,rv,pl,_⟩:=I.list (SqL.of (K:=X.K) ((am J).trans Y));let⟨u,IM,ru⟩:=rv.get (z4 L);let⟨kv,IN,t,b,hv,ht,F⟩:=kr G (z4 L);rw[hv]at ru
  cases(show u=MV t from ru)
  calc R8 pT ?_;rw[Ui (by rfl) (by rfl)]
  unfold Oq.«dict.update.loop»;dsimp only;refine gV (Sw st pl.isList (x:=.ref t) (by simpa using IM) λh' st' sb=>?_)
  let B:=I.turned (t':=s.toks) (h':=h') (λb o F e=>(sb.2 b F).trans e) ((am j).trans f0) f1 f3 f4 f5;dsimp only;let IO:t≠p:=λz=>by rw[z,fv]at ht;cases ht
  let IP:b≠p:=λz=>by rw[z,fv]at F;cases F
  let⟨tits,rt,tt,_⟩:=B.tuple (SqT.of (K:=X.K) ((am IO).trans ht));let⟨ob,O,IQ,nt,IR⟩:=id tt
  cases rt with
  |cons r1 rt=>
   cases rt with
   |cons r2 rt=>
    cases rt
    cases(show _=MV b from r1)
    rename_i uv;calc gV (MP ?_);calc gV (wpAny_tryCatch ?_);unfold Builtin.Dict.pairItems;refine gV (OS (T:="tuple") (s:={s with heap:=h'}) ⟨ob,O,IQ⟩ ?_)
    rw[if_pos (·)]
    refine gV (Of (s:={s with heap:=h'}) O IR ?_)
    calc KZ ?_;calc MP ?_;let⟨z,hd,xs,rel,dd⟩:=tD (a:=p) B.hok aA;let IS:xs.length<=Lf:=by rw[<-NS rel];show z
    let U:upd H p (.dT (bW (kvs.take i))) b=Z (.tup (kv.1.map kV)):=(am IP).trans F;let IT:(bE (bW (kvs.take i)) kv.1 kv.2).length<=Lf:=by let h1:=dg (bW (kvs.take i)) kv.1 kv.2;let h2:=ue (kvs.take i);rw[LK]at h2;lia
    let etk:bE (bW (kvs.take i)) kv.1 kv.2=bW (kvs.take (i+1)):=by unfold bW;rw[List.take_succ,IN,Ov];rfl
    calc Uj (hsz:=IS) (knd:=PY (aJ X.prog X.w)) (OI hu) (eG B.hok U) dd λh2 dd' hs=>?_;let⟨q',es,ep,hq,g2,g3,g4,_,g5⟩:=dd';let I2:=iq (t':=s.toks+(PY (aJ X.prog X.w)).draws kv.1) B (a:=p) (ob:=.dT (bE (bW (kvs.take i)) kv.1 kv.2)) (by rw[aA];show OH) hs ⟨q',hq⟩ ⟨IT,hd,_,(rel.put kv.1 U r2).keeps λc ys ec=>?_,q',es,ep,hq,g2,g3,g4,g5⟩
    ·rw[As,etk]at I2;refine KZ ⟨TZ pU _,ih (i+1) _ ∅ ∅ I2 ?_ q⟩
     show st'.at λo e=>(hs.2 it j).trans e
    ·rw[am (sV ec aA (λz=>nomatch z))];show ec
end
section
variable{X:Cx}
def ku(hu:X.A.units+16<Ol)(hc:X.calm=Wi):CallR X (.type "dict") (λxs H Q=>∃l vs kvs,xs=[V.ref l]/\H l=Z (.lst vs)/\Mh (PrV H) vs kvs/\vs.length<Lf/\∀p,H p=N2->Q (.ref p) (upd H p (.dT (bW kvs)))):=by
 intro pins s σ H xs us Q I r h;let⟨l,vs,kvs,rfl,J,L,hz,q⟩:=h
 cases r with
 |cons r1 rr=>
 cases rr
 cases(show _=MV l from r1)
 let fv:=I.ok.hd hc;let O:H s.heap.objs.size=N2:=I.hok.fresh (L9 _);let I1:=I.laid (a:=s.heap.objs.size) (o:=.dT []) (t':=s.toks) (λ_ _ q=>D2 _ q) (L9 _) (je s.heap I.big);let U:l≠s.heap.objs.size:=λz=>by rw[z,O]at J;cases J
 refine callType_codes (Q₁:=λobj s₁=>obj=.ref s.heap.objs.size/\s₁={s with heap:=s.heap.push {cls:=.type "dict",data:=.dict #[]}}) F.kt_called_dict (F.kt_typeCall_dict_1 _) F.entry_dict_init (kt_code_dict_new _ ⟨rfl,rfl⟩) λobj s₁ h₁=>?_
 let⟨rfl,rfl⟩:=h₁;calc⟨⟨_,Lk _ rfl,rfl⟩,F.args_dict_init_2 _ _,?_⟩;unfold Oq.«dict.__init__»;calc gV ?_;unfold Builtin.Dict.selfAndRest;unfold Builtin.Dict.notOrdered;rw[if_pos (·)]
 let tyd:Shared.TypeIs {s with heap:=s.heap.push {cls:=.type "dict",data:=.dict #[]}} (.ref s.heap.objs.size) "dict":=⟨_,Lk _ rfl,rfl⟩
 calc gV (gV (OS tyd ?_));rw[if_neg (·)]
 calc KZ ?_;calc gV (KZ (KZ ?_));unfold Builtin.Dict.updateCommon Builtin.Dict.updateFrom;dsimp only;let⟨its,rv,pl,_⟩:=I1.list (SqL.of (K:=X.K) ((am U).trans J));let il:=pl.isList;calc gV (OS il.typeIs ?_);rw[if_pos (·)]
 let⟨ob,nn,e1,j,B,G⟩:=id pl;calc gV (BD fv e1 j G B λh1 tk kp=>?_);rw[if_pos (show(N2:Option q7).isNone=Wi from rfl)];calc gV (NT ?_);let Y:=I1.kept (t':=tk) kp;refine gV (Ot (s:={s with heap:=h1,toks:=tk}) (PlainL.isList (⟨ob,nn,kp _ _ e1,j,B,G⟩)) ?_)
 let I3:=Y.kept (t':=tk) (h':=h1.push {cls:=.type "list_iterator",data:=.fields #[.ref l,.int 0 0]}) λb o e=>D2 _ e;calc KZ ⟨TZ pU _,?_⟩;let hle:s.heap.objs.size<h1.objs.size:=Lr (kp _ _ (Lk _ rfl));let hf:cu X pins H h1.objs.size:=by let:=Y.fpOk (H':=upd H s.heap.objs.size (.dT [])) (L9 _) (Y.hok.fresh (L9 _));show⟨by rw[<-this.1,am (OA hle)],this.2⟩
 refine BE (A:=X.A.in1) (X:=X) (pins:=pins) (σ:=σ) (H:=H) (p:=s.heap.objs.size) (kvs:=kvs) (by let:X.A.in1.units=X.A.units+1:=rfl;lia) fv O J L hz hf (OA hle) vs.length 0 _ ∅ ∅ I3 ⟨_,Lk _ rfl,rfl,rfl⟩ λs' I'=>?_
 show⟨rfl,.ref s.heap.objs.size,_,I',rfl,q _ O⟩
end
end
namespace Mi
section
section
variable{X:Cx}
abbrev uf(kvs:List (D×D)):List (D×D):=kvs.foldl (λa kv=>ca a kv.1 kv.2) []
abbrev nZ:RAd:=λds M Q=>∃a kvs,ds=[.ref a]/\M a=Z (.lst (kvs.map λkv:D×D=>.tup [kv.1,kv.2]))/\(∀kv∈kvs,bO kv.1=Wi)/\kvs.length<Lf/\∀p,M p=N2->Q (.ref p) (ag M p (.dct Wi (uf kvs)))
def ng:aV nZ:=λ_ _ _ _ h j=>(by let⟨a,kvs,e,z,B,F,q⟩:=j;show⟨a,kvs,e,z,B,F,λp n=>h _ _ (q p n)⟩)
def pV{K:Frag}{H:Hp}:∀{kvs:List (D×D)} {vs:List V},RDs K H (kvs.map λkv:D×D=>.tup [kv.1,kv.2]) vs->(∀kv∈kvs,bO kv.1=Wi)->
 ∃ps:List (List Key×V),Mh (PrV H) vs ps/\Mh (λ(p:D×D) (q:List Key×V)=>RKeys p.1 q.1/\RD K H p.2 q.2) kvs ps
 |[],vs,r,_=>by rw[RDs.nil_iff.mp r];show⟨[],.nil,.nil⟩
 |kv::kvs,vs,r,h=>by
  rw[Lj]at r;let⟨v,vr,rfl,G,J⟩:=W1.mp r;let⟨ps,h1,h2⟩:=pV J λx hx=>h x (L4 _ hx);let z:=h kv (Ld ..);let⟨k,v⟩:=kv;let⟨ks,j⟩:=ir z
  cases k<;>first
   |show j.elim
   | (let⟨t,us,rfl,B,ru⟩:=Wc rfl G
      let⟨fv,ur,rfl,L,ru⟩:=W1.mp ru;let⟨O,U,rfl,Y,ru⟩:=W1.mp ru;rw[RDs.nil_iff.mp ru]at B;let⟨b,ws,rfl,F,rw'⟩:=Wc (iu z) L;rw[eJ j rw']at F;show⟨(ks,O)::ps,.cons ⟨t,b,rfl,B,F⟩ h1,.cons ⟨j,Y⟩ h2⟩)
def pW{K:Frag}{H:Hp}:∀{kvs:List (D×D)} {ps:List (List Key×V)} {a:List (D×D)} {b:List (List Key×V)},Mh (λ(p:D×D) (q:List Key×V)=>RKeys p.1 q.1/\RD K H p.2 q.2) kvs ps->Mh (λ(p:D×D) (q:List Key×V)=>RKeys p.1 q.1/\RD K H p.2 q.2) a b->
 Mh (λ(p:D×D) (q:List Key×V)=>RKeys p.1 q.1/\RD K H p.2 q.2) (kvs.foldl (λa kv=>ca a kv.1 kv.2) a) (ps.foldl (λa kv=>bE a kv.1 kv.2) b)
 |_,_,_,_,.nil,h=>h
 |_,_,_,_,.cons r t,h=>by let g:=pW t (jh (RK:=RKeys) RKeys.inj RKeys.fun r.1 r.2 h);show g
def rj(j:X.A.units+16<Ol)(B:X.calm=Wi):CallR X (.type "dict") (lR X.K nZ):=by
 calc CallR.of (ku j B) λvs H Q h=>?_;let⟨ds,M,rm,rs,a,kvs,rfl,e,F,G,q⟩:=h;let⟨v,rfl,r⟩:=rs.one
 cases VZ.mp r
 let⟨us,J,ru⟩:=rm _ _ e;let⟨ps,h1,h2⟩:=pV ru F;refine⟨a,us,ps,rfl,J,h1,by rw[ru.length,h7];show G,λp n=>?_⟩
 let st:Stab H (upd H p (.dT (bW ps))):=(W9 (M:=M) n).stab rm;show q p (rm.out n) (.ref p) _ (Ext.lay n) (rm.lay n ⟨_,aA,W2 (pW h2 .nil) λ_ _ z=>⟨z.1,z.2.mono st⟩⟩) (VZ.mpr rfl)
end
end
end Mi
namespace Dk
variable{it d:Wk}{ep:Nat}{dd:Option Wk}{sl:Array (Option q7)}{es:Array Oo}
section
variable{prog:LN}{w:Mq}{A:Mz}{E:q7->J4->Prop}{s:J4}
abbrev kO(d:Wk)(i n ep:Nat):Obj:={cls:=.type "dict_keyiterator",data:=.fields #[.ref d,.int i 0,.int n 0,.int ep 0]}
def slot_next:Slot "dict_keyiterator" "__next__" "dict_keyiterator.__next__":=.of (owner:="dict_keyiterator") (n:="__next__") (by rw[typeLookup_type,T3];kernel_rfl) (by decide +kernel) (by decide +kernel) (by decide +kernel) (.inl (by decide +kernel)) (by rw[Qw];kernel_rfl)
def kw:entryFor table "dict_keyiterator.__next__"=Z Oq.«dict_keyiterator.__next__»:=V4 (by kernel_rfl)
def nh(a:q7):argsOk "dict_keyiterator.__next__" ⟨[a],[]⟩:=by unfold argsOk;kernel_rfl
def wq(ty:s.TypeIs (.ref it) "dict_keyiterator"){types:List String}{Q:Bool->J4->Prop}(q:Q (types.any λt=>[Nt "dict_keyiterator",Nt "object"].contains (Nt t)) s):Lu (model prog w) A (RC (.ref it) types) Q E s:=by
 let hm:=U0;unfold RC
 wp_walk
 show q
def nx_item{i:Nat}{cd:q7}{e:Oo}{Q:Option q7->J4->Prop}(hi:s.heap.get? it=Z (kO d i es.size ep))(hd:s.heap.get? d=Z {cls:=cd,dict:=dd,data:=.dict es ep,slots:=sl})(he:es[i]?=Z e)(q:∀h',h'.get? it=Z (kO d (i+1) es.size ep)->NM it s.heap h'->Q (Z e.key) {s with heap:=h'}):Lu (model prog w) A (Qo (.ref it)) Q E s:=by
 let ty:s.TypeIs (.ref it) "dict_keyiterator":=⟨_,hi,rfl⟩;unfold Qo;calc gV (P2 (Mj (name:=Mf "__next__") ty slot_next (MA slot_next ty kw ?_ (nh _))));unfold Oq.«dict_keyiterator.__next__»;let hm:=U0
 wp_walk
 dsimp only;rw[if_neg (_)]
 simp only[Li,he];refine gV (O7 (Q:=λn s'=>n=0/\s'=s) ?_ (λn s' hs=>?_) λ_ _ z=>z)
 ·wp_walk
  show⟨by kernel_rfl,rfl⟩
 let⟨rfl,rfl⟩:=hs;calc gV (wq ty ?_);refine gV (Mu hi (_) λh1 j s1=>?_)
 rw[if_neg (by decide +kernel)]at j
 let j:h1.get? it=Z (kO d (i+1) es.size ep):=j;let B:Shared.TypeIs {s' with heap:=h1} (.ref it) "dict_keyiterator":=⟨_,j,rfl⟩
 calc gV (MP ?_);calc gV (wq B ?_);refine Tr (by decide +kernel) ?_
 calc KZ (KZ ⟨_,rfl,KZ ?_⟩);show q h1 j s1
def nx_end{cd:q7}{Q:Option q7->J4->Prop}(j:A.handled=N2)(hi:s.heap.get? it=Z (kO d es.size es.size ep))(hd:s.heap.get? d=Z {cls:=cd,dict:=dd,data:=.dict es ep,slots:=sl})(q:∀h',(∀b o,b≠it->s.heap.get? b=Z o->h'.get? b=Z o)->Q N2 {s with heap:=h'}):Lu (model prog w) A (Qo (.ref it)) Q E s:=by
 let ty:s.TypeIs (.ref it) "dict_keyiterator":=⟨_,hi,rfl⟩;unfold Qo;calc gV (P2 (Mj (name:=Mf "__next__") ty slot_next (MA slot_next ty kw ?_ (nh _))));unfold Oq.«dict_keyiterator.__next__»;let hm:=U0
 wp_walk
 dsimp only;rw[if_neg (_)]
 let he:es[es.size]?=N2:=Qy (L9 _);simp only[Li,he];refine gV (O7 (Q:=λn s'=>n=0/\s'=s) ?_ (λn s' hs=>?_) λ_ _ z=>z)
 ·wp_walk
  show⟨by kernel_rfl,rfl⟩
 let⟨rfl,rfl⟩:=hs;refine gV (Mu hi (_) λh1 F s1=>?_)
 calc gV (m:=newExc (.type "StopIteration") []) ?_;simp only[newExc,newTuple];refine gV (ND ?_ (by size_fits))
 refine gV (m:=Ry _ _) (Pc (a:=Pg) (by first|rfl|(simp only[Ry];rfl)) (ND ?_ (by size_fits)))
 simp only[raiseNew];refine gV (wpAny_handled ?_)
 first|rw[show A.in1.handled=N2 from j]|rw[j]
 calc gV (KZ (Vh ?_));show gV (OE (T:="StopIteration") (b:=Wi) ⟨_,Lk _ rfl,rfl⟩ Tf (KZ (q _ λb o B e=>D2 _ (D2 _ (s1.extBut b o B e)))))
def it_dict{Q:q7->J4->Prop}(j:(d==N3)=Wj)(hd:s.heap.get? d=Z {cls:=.type "dict",dict:=dd,data:=.dict es ep,slots:=sl})(q:Q (.ref s.heap.objs.size) {s with heap:=s.heap.push (kO d 0 es.size ep)}):Lu (model prog w) A (Ua (.ref d)) Q E s:=by
 let ty:s.TypeIs (.ref d) "dict":=⟨_,hd,rfl⟩;calc wpAny_pyIter_slot ty V5 (MA V5 ty F.entry_dict_iter ?_ (F.args_dict_iter_1 _));unfold Oq.«dict.__iter__»
 wp_walk
 show⟨_,rfl,"dict_keyiterator",_,⟨_,Lk _ rfl,rfl⟩,slot_next.lookup,q⟩
def walk(hn:A.handled=N2)(it d:Wk)(hne:d≠it)(es:Array Oo)(ep:Nat):
 Walks prog w A it [it,d] [it] es.size (λi v=>∃e,es[i]?=Z e/\v=e.key) (λi h=>h.get? it=Z (kO d i es.size ep)/\∃cd dd sl,h.get? d=Z {cls:=cd,dict:=dd,data:=.dict es ep,slots:=sl}) where
 sub:=λb hb=>by simp at hb;simp[hb]
 frame:=λ_ _ _ st k=>⟨k it (_) _ st.1,by let⟨cd,dd,sl,h⟩:=st.2;show⟨cd,dd,sl,k d (_) _ h⟩⟩
 item:=λi s Q E hi st q=>by let⟨h1,cd,dd,sl,h2⟩:=st;calc nx_item (e:=es[i]) h1 h2 (Ma hi) λh' e' s'=>?_;show q _ h' s.toks ⟨_,Ma hi,rfl⟩ ⟨e',cd,dd,sl,s'.extBut d _ hne h2⟩ λb o hb x=>s'.extBut b o (λz=>hb (by simp[z])) x
 done:=λs Q E st q=>by let⟨h1,cd,dd,sl,h2⟩:=st;show nx_end hn h1 h2 λh' k=>q h' s.toks λb o hb x=>k b o (λz=>hb (by simp[z])) x
 self:=λi s Q E st q=>Tt ⟨_,st.1,rfl,rfl⟩ q
def wt{Q:Bool->J4->Prop}(ty:s.TypeIs (.ref d) "dict")(q:Q Wj s):Lu (model prog w) A (Ri (.ref d)) Q E s:=by
 unfold Ri;calc gV (wpAny_specialOf ty F.slot_dict_len.lookup ?_);generalize j:("dict.__len__":String)=z
 (fail_if_success (clear j z));wp_delta
 rw[show splitId z=Z ("dict","__len__")from by subst j;decide +kernel]
 subst j;refine gV (OE (b:=Wi) ty (by rw[Qw];kernel_rfl) ?_)
 rw[if_neg (·)]
 refine Tr (by decide +kernel) ?_
 calc gV (OS ty ?_);show KZ q
open Builtin.List in
def zi(hn:A.handled=N2){S:Wk}{c:Nat}{R:Result->J4->Prop}(res:q7)(fv:(d==N3)=Wj)(hd:s.heap.get? d=Z {cls:=.type "dict",dict:=dd,data:=.dict es ep,slots:=sl})(Y:s.heap.get? S=Z {cls:=.type "list",data:=.seq #[] c})(hz:es.size<=Lf)(q:∀(h':Heap) (tk:Nat) (acc':Array q7) (c':Nat),(∀b o,b≠S->s.heap.get? b=Z o->h'.get? b=Z o)->h'.get? S=Z {cls:=.type "list",data:=.seq acc' c'}->acc'.toList=es.toList.map (·.key)->s.toks<=tk->R (.ok (.ret res)) {s with heap:=h',toks:=tk}):
 Lu (model prog w) A.in1 (listExtendWith (.ref S) (.ref d) res) (λfin s'=>match fin with|.done f=>R (.ok f) s'|.again c'=>c'.quiet=Wi/\QS (model prog w) A c' R s') (λe s'=>R (.error e) s') s:=by
 let ty:s.TypeIs (.ref d) "dict":=⟨_,hd,rfl⟩;let G:S≠d:=λe=>by rw[e,hd]at Y;simp at Y
 let h1:listSameRef (.ref S) (.ref d)=Wj:=by simp[listSameRef,G]
 unfold listExtendWith;calc gV (OS ty ?_);rw[if_neg (by rw[h1];decide)]
 calc gV (it_dict fv hd ?_);refine gV (MP (wt (s:={s with heap:=s.heap.push (kO d 0 es.size ep)}) ⟨_,D2 _ hd,rfl⟩ ?_))
 let B:=Lr Y;let J:=Lr hd;let W:=(walk (prog:=prog) (w:=w) (A:=A.in1) hn s.heap.objs.size d (Md J) es ep).toS;let IK:S∉[s.heap.objs.size,d]:=λhm=>by
  simp only[Lm,Me,or_false]at hm
  rcases hm with e|e
  ·show absurd (e▸B) (NJ _)
  ·show G e
 refine Tr (by decide +kernel) ?_
 calc gV (NT ?_);unfold listTouch;let L:(s.heap.push (kO d 0 es.size ep)).get? S=Z (V2 "list" #[] c):=D2 _ Y;refine gV (gV (QT L rfl ?_ (_) (_)))
 let O:=Qc L (λx=>x.push Pg);refine QT O rfl ?_ (by simp;decide) (_)
 let IM:=Qc O (λx=>x.pop);let oth:∀b o,b≠S->s.heap.get? b=Z o->(((s.heap.push (kO d 0 es.size ep)).update S (Pk λx=>x.push Pg)).update S (Pk λx=>x.pop)).get? b=Z o:=λb o U e=>by rw[NZ _ _ _ _ U,NZ _ _ _ _ U];show D2 _ e
 let hit:(((s.heap.push (kO d 0 es.size ep)).update S (Pk λx=>x.push Pg)).update S (Pk λx=>x.pop)).get? s.heap.objs.size=Z (kO d 0 es.size ep):=by rw[NZ _ _ _ _ (OA B),NZ _ _ _ _ (OA B)];show Lk _ rfl
 calc KZ ⟨TZ F.plain_extend_loop _,codeAny_extend_loopS W hz _ IK _ es.size 0 _ _ _ rfl (N6 _) ⟨hit,_,_,_,oth d _ G.symm hd⟩ IM (ItemsOf.nil _) λs' acc c' hm IN ha=>?_⟩;rw[hm.eq_with];refine q _ _ acc c' (λb o U e=>?_) IN ?_ hm.toks
 ·show hm.heap b o (fun z=>by
   simp only[Lm,Me,or_false]at z
   rcases z with z|z
   ·show U z
   ·show absurd (z▸Lr e) (NJ _)) (oth b o U e)
 ·let⟨g1,g2⟩:=ha;apply NV;intro j;rw[LO,Lp,LO]
  by_cases hj:j<es.size
  ·let⟨e,he,hv⟩:=g2 j (acc[j]'∅) (Ma ∅)
   rw[Ma ∅,hv,he];rfl
  ·rw[Qy ∅,Qy ∅];rfl
def collect_dict(L:A.handled=N2){Q:List q7->J4->Prop}(j:(d==N3)=Wj)(hd:s.heap.get? d=Z {cls:=.type "dict",dict:=dd,data:=.dict es ep,slots:=sl})(O:es.size<=Lf)(q:∀(h':Heap) (tk:Nat),(∀b o,s.heap.get? b=Z o->h'.get? b=Z o)->s.toks<=tk->Q (es.toList.map (·.key)) {s with heap:=h',toks:=tk}):Lu (model prog w) A (collect (.ref d)) Q E s:=by
 unfold collect;calc gV (wpAny_runValue (R8 F.entry_proto_collect ?_));unfold Oq.«proto.collect»;dsimp only;refine gV (S4 ?_ (_))
 refine KZ ⟨Code.quiet_builtin _ (by decide +kernel),?_⟩
 calc R8 entry_list_iadd' ?_;unfold Oq.«list.__iadd__»;refine gV (Pc (a:=(MV s.heap.objs.size,[MV d])) (by kernel_rfl) ?_)
 let z:(s.heap.push {cls:=Nt "list",data:=QU [].toArray}).get? s.heap.objs.size=Z {cls:=Nt "list",data:=QU #[] 0}:=Lk _ rfl;rw[Ui (by rfl) (by rfl)]
 refine O7 (zi (s:={s with heap:=s.heap.push {cls:=Nt "list",data:=QU [].toArray}}) (R:=λr s'=>r=.ok (.ret (.ref s.heap.objs.size))/\Lu (model prog w) A (do
  let o <-load s.heap.objs.size
  match o.data with
  |.seq xs _=>pure xs.toList
  |_=>unsupported "internal:collect") Q E s') L (MV s.heap.objs.size) j (D2 _ hd) z O λh' tk acc c' kp B U G=>⟨rfl,?_⟩) (λfn s' h=>?_) (λe s' h=>?_)
 ·calc gV (wpAny_load B ?_);calc KZ ?_;rw[U];show q h' tk (λb o e=>kp b o (Md (Lr e)) (D2 _ e)) G
 ·cases fn with
  |done f=>
   let⟨e,h⟩:=h
   cases e
   show h
  |again c'=>calc⟨h.1,Qp h.2 λr s1 J=>?_⟩;let⟨rfl,J⟩:=J;show J
 ·cases h.1
end
end Dk
namespace Mi
open L2.Srt
abbrev kx:RAd:=λds M Q=>∃a t kvs sh,ds=[.ref a]/\M a=Z (.dct t kvs)/\lm sh=Wi/\(∀kv∈kvs,hs sh kv.1=Wi)/\∀p ys,M p=N2->ys.Perm (kvs.map (·.1))->pR ys->Q (.ref p) (ag M p (.lst ys))
def ky:aV kx:=λ_ _ _ _ h j=>(by let⟨a,t,kvs,sh,e,z,B,F,q⟩:=j;show⟨a,t,kvs,sh,e,z,B,F,λp ys n G hs=>h _ _ (q p ys n G hs)⟩)
def rY{K:Frag}{H:Hp}:∀{kvs:List (D×D)} {es:List Oo},Mh (ln K H) kvs es->∃vs,RDs K H (kvs.map (·.1)) vs/\Vals vs (es.map (·.key))
 |_,_,.nil=>⟨[],RDs.nil,.nil⟩
 |_,_,.cons r t=>by let⟨vs,h1,h2⟩:=rY t;let⟨kV,vV,g1,g2,_,_⟩:=r;show⟨kV::vs,RDs.cons g1 h1,.cons g2 h2⟩
section
variable{X:Cx}
def pX(L:X.A.units+16<Ol)(O:X.calm=Wi):CallR X (.builtin "sorted") (lR X.K kx):=by
 intro pins s σ H xs us Q I r h;let⟨ds,M,rm,rs,a,t,kvs,sh,rfl,e,hok,j,q⟩:=h;let⟨v,rfl,rv⟩:=rs.one;let⟨u,rfl,ru⟩:=cZ r
 cases VZ.mp rv
 cases(show u=MV a from ru)
 let⟨cd,dd,sl,es,ep,hd,U,z,Y⟩:=BA I rm e;let⟨t1,t2,B⟩:=jM I Y;let⟨vs,h1,h2⟩:=rY z;let F:cd=.type "dict":=by let⟨o,g1,g2⟩:=t1;rw[hd]at g1;cases g1;show g2
 subst F;let fv:X.A.in1.handled=N2:=I.ok.hd O;show rh (cap:=Lf) ua L I rm h1 hok (λd hd=>by let⟨kv,G,rfl⟩:=L7.mp hd;show j kv G) q h2 (by let:=h2.length;rw[h7]at this;simp at this;lia) (by let:=h2.length;rw[h7]at this;simp at this;lia) λE R hR=>Dk.collect_dict fv B hd U λh' tk kp J=>hR h' tk kp J
end
end Mi
namespace Mi
end Mi
namespace Mi
end Mi
section
section
variable{X:Cx}{pins:List (Wk×Obj)}{σ:St}{H:Hp}{s:J4}
def Inv.freeze(I:Inv X pins σ H s){ps:List (List Key×V)}(e:H a=Z (.dT ps)):∃o,Inv X pins σ (upd H a (.frz o (.dT ps))) s:=by
 let⟨B,j,xs,pr,o,es,ep,h1,h2,F,G,J⟩:=id (I.hok a _ e);let mu:Mut (H a):=by rw[e];show OH
 let u:Un X.fs [] H (upd H a (.frz o (.dT ps))) s.heap s.heap:=Un.write mu (.inl rfl) (λb u _ q=>q) ⟨_,h1⟩;let ok:HOk X.prog X.w (upd H a (.frz o (.dT ps))) s.heap:=HOk.write I.hok mu (.inl rfl) (λb u _ q=>q) ⟨_,h1⟩
  ⟨h1,(I.hok a _ e).stay (λb u _ q=>q) (λb q=>by rw[am (λz=>by subst z;rw[e]at q;cases q)];show q) (λb xs q=>by rw[am (λz=>by subst z;rw[e]at q;cases q)];show q)⟩
 show⟨o,I.un (t':=s.toks) u ok⟩
end
abbrev Itk(n:Nat)(G:Hp->Prop)(yl:Nat->V->Hp->Prop):It:=⟨λi H=>i<n/\G H,λi H x H'=>H'=H/\yl i x H,λi H=>n<=i/\G H⟩
def wu{tg:Expr}(a it:Wk){cd:q7}{dd:Option Wk}{sl:Array (Option q7)}{es:Array Oo}{ep:Nat}{G:Hp->Prop}{yl:Nat->V->Hp->Prop}(U:∀H,G H->∃u,H a=Z (.frz {cls:=cd,dict:=dd,data:=.dict es ep,slots:=sl} u))(fv:∀i H h,HOk P w H h->G H->∀e,es[i]?=Z e->∃x,RelV x e.key/\yl i x H):
 gO P w K tg (Itk es.size G yl) [it] it (λi h=>i<=es.size/\h.get? it=Z (Dk.kO a i es.size ep)) where
 mem:=by simp
 obj:=λi h st b q=>by
  let e:b=it:=by simpa using q
  subst e;show⟨_,st.2,λv z=>by cases z⟩
 keep:=λi h h' st k=>⟨st.1,k it (_) _ st.2⟩
 item:=by
  intro X B hw F Y i pins s σ H E I hf st j;subst B hw F;let⟨hi,j⟩:=j;let⟨u,J⟩:=U H j;let⟨f0,f1,f2,L,f4,O⟩:=hf it (_)
  let⟨x,rx,yx⟩:=fv i H s.heap I.hok j es[i] (Ma hi);calc Dk.nx_item (e:=es[i]) st.2 (I.hok a _ J).1 (Ma hi) λh' st' sb=>?_;let I1:Inv X pins σ H {s with heap:=h'}:=I.turned (t':=s.toks) (λb o q e=>(sb.2 b q).trans e) f0 f1 L f4 O
  show⟨_,rfl,nJ (s:={s with heap:=h'}) (n:="dict_keyiterator") st' rfl rfl (·) ⟨x,H,I1,rx,⟨rfl,yx⟩,⟨hi,st'⟩,λb q=>(hf b q).1⟩⟩
 done:=by
  intro X B hw F Y i pins s σ H E I hf st j;subst B hw F;let⟨hi,j⟩:=j;let⟨u,J⟩:=U H j;let⟨f0,f1,f2,L,f4,O⟩:=hf it (_)
  let e:i=es.size:=by let:=st.1;lia
  subst e;show Dk.nx_end (I.ok.hd Y) st.2 (I.hok a _ J).1 λh' k=>⟨rfl,I.turned (t':=s.toks) (λb o q e=>k b o q e) f0 f1 L f4 O⟩
 self:=λA i s Q E st h=>Tt ⟨_,st.2,rfl,rfl⟩ h
namespace Mi
section
variable{X:Cx}
abbrev jl(i:Nat)(t:TSd):TSd:=λA ρ M=>∃a kvs,ρ[i]?=Z (Z (.ref a))/\((M a=Z (.dct Wi kvs)/\t A ρ (ag M a (.fdc kvs)))∨(M a=Z (.fdc kvs)/\t A ρ M))
def zj{i:Nat}{t:TSd}(h:aN t):aN (jl i t):=λa b ρ M l g9=>(by let⟨p,kvs,e,q⟩:=g9;show⟨p,kvs,e,q.imp (λq=>⟨q.1,h _ _ _ _ l q.2⟩) λq=>⟨q.1,h _ _ _ _ l q.2⟩⟩)
def DC{st:Stmt}{i:Nat}{t:TSd}(h:PS X st (lS X.K t)):PS X st (lS X.K (jl i t)):=by
 intro pins s σ H D I ⟨ρ,M,A,rs,rm,lk,a,kvs,e,q⟩
 rcases q with⟨m,q⟩|⟨m,q⟩
 ·let⟨ps,j,pr⟩:=rm a _ m;let⟨o,I'⟩:=I.freeze j;let sb:Stab H (upd H a (.frz o (.dT ps))):=rm.stabPut m;show h pins s σ _ D I' ⟨ρ,ag M a (.fdc kvs),A,rs.mono sb,rm.put m ⟨o,ps,aA,W2 pr λ_ _ z=>⟨z.1,z.2.mono sb⟩⟩,lk.ext (Ext.put m),q⟩
 ·show h pins s σ H D I ⟨ρ,M,A,rs,rm,lk,q⟩
abbrev og(ta:TEd):TId:=λρ M R=>ta ρ M λx M1=>∃a kvs,x=.ref a/\M1 a=Z (.fdc kvs)/\R (kvs.map (·.1)) (λ_=>True) M1
def wv{ta:TEd}(h:ae ta):cn (og ta):=λρ M Q Q' i q=>h _ _ _ _ (λx F j=>(by let⟨a,ds,e,z,B⟩:=j;show⟨a,ds,e,z,i _ _ _ B⟩)) q
def rZ{K:Frag}{H:Hp}:∀{kvs:List (D×D)} {es:List Oo},Mh (ln K H) kvs es->∀(i:Nat) (e:Oo),es[i]?=Z e->∃(kv:D×D) (v:V),kvs[i]?=Z kv/\RD K H kv.1 v/\RelV v e.key
 |_,_,.nil,_,_,h=>by simp at h
 |_,_,.cons r t,0,_,h=>by simp at h;subst h;let⟨kV,vV,g1,g2,_,_⟩:=r;show⟨_,kV,rfl,g1,g2⟩
 |_,_,.cons _ t,i+1,e,h=>by
  let⟨kv,v,h1,h2⟩:=rZ t i e (by simpa using h)
  show⟨kv,v,by simpa using h1,h2⟩
def BG{tg e:Expr}{ta:TEd}(m:ae ta)(he:PE X e (lE X.K ta)):PI X tg e (lI X.K (og ta)):=by
 intro pins s σ H R I h;let⟨ρ,M,rs,rm,q⟩:=h;let hq:lE X.K ta σ H (λv H1=>∃a kvs B,v=.ref a/\Ext M H B H1/\RM X.K B H1/\B a=Z (.fdc kvs)/\∀J,gW X.K H1 (kvs.map (·.1)) (λ_=>True) J->R J H1):=
  ⟨ρ,M,rs,rm,m _ _ _ _ (fun x B ⟨a,kvs,e,O,U⟩ v H1 Y j rd1=>by
   subst e
   cases VZ.mp rd1
   show⟨a,kvs,B,rfl,Y,j,O,λJ ij=>U J H1 Y j ij⟩) q⟩
 calc thn (he pins s σ H _ I hq) λu s1 g9=>?_;let⟨x,H1,F,r1,a,kvs,B,e0,Y,j,O,U⟩:=g9;subst e0
 cases r1
 let⟨o,ps,fv,pr⟩:=j _ _ O;let⟨g0,ok⟩:=F.hok a _ fv;let⟨cd,dd,sl,es,ep,g1,g2,g3⟩:=pS ok pr;let⟨ty,_,IK⟩:=jM F (.inr ⟨ps,.inr ⟨o,fv⟩⟩);rw[g0]at g1
 cases g1
 let IM:cd=.type "dict":=by let⟨o,h1,h2⟩:=ty;rw[g0]at h1;cases h1;show h2
 subst IM;let lz:kvs.length=es.size:=by let:=bf g3;simpa using this
 calc Dk.it_dict IK g0 ?_;refine⟨s1.heap.objs.size,[s1.heap.objs.size],_,_,H1,rfl,F.kept (t':=s1.toks) λb o e=>D2 _ e,wu (G:=λH=>H a=Z (.frz {cls:=.type "dict",dict:=dd,data:=.dict es ep,slots:=sl} (.dT ps))/\Mh (λ(p:D×D) (q:List Key×V)=>RKeys p.1 q.1/\RD X.K H p.2 q.2) kvs ps) (yl:=λi x H=>∃kv,kvs[i]?=Z kv/\RD X.K H kv.1 x) a _ (λH h=>⟨_,h.1⟩) (λi H h hok ⟨ha,pr'⟩ e he=>?_),⟨N6 _,Lk _ rfl⟩,λb hb=>?_,U _ ?_⟩
 ·let⟨z0,ok'⟩:=hok a _ ha;let⟨cd,dd,sl',es',ep',z1,_,z3⟩:=pS ok' pr';rw[z0]at z1
  cases z1
  let⟨kv,v,y1,y2,y3⟩:=rZ z3 i e (by simpa using he)
  show⟨v,y3,kv,y1,y2⟩
 ·let e:b=s1.heap.objs.size:=by simpa using hb
  subst e;show F.fpOk (L9 _) (F.hok.fresh (L9 _))
 ·intro M' H' st rm' _ i;let L:=st.frz _ _ _ fv;let pr':Mh (λ(p:D×D) (q:List Key×V)=>RKeys p.1 q.1/\RD X.K H' p.2 q.2) kvs ps:=W2 pr λ_ _ z=>⟨z.1,z.2.mono st⟩;rw[h7,lz];calc⟨λhi=>⟨hi,L,pr'⟩,λhi=>⟨⟨hi,L,pr'⟩,λx H'' y=>?_⟩⟩;let⟨e,kv,y1,y2⟩:=y;subst e;show⟨.inl rfl,kv.1,by rw[Lp,y1];rfl,y2⟩
end
end Mi
end
section
section
variable{prog:LN}{w:Mq}{K:Type}[DecidableEq K]{knd:HeapKind prog w K}{A:Mz}{E:q7->J4->Prop}{s:J4}
abbrev dz(ev:q7->q7->Bool)(xb:List (K×Wk×q7))(x:K×Wk×q7):Bool:=match Ta xb x.1 with
 |some p=>ev x.2.2 p.2
 |none=>Wj
def DD{nm:String}{xa xb:List (K×Wk×q7)}{ev:q7->q7->Bool}{Q:Bool->J4->Prop}(hu:knd.room A)(ha:(a==N3)=Wj)(hb:(b==N3)=Wj)(da:s.heap.DictOfH knd a xa)(db:s.heap.DictOfH knd b xb)(IQ:∀x∈xa,∀y∈xb,SeqAt.EqAt A s x.2.2 y.2.2 (ev x.2.2 y.2.2))(h:Q (xa.length==xb.length&&xa.all (dz ev xb)) s):
 Lu (model prog w) A (SK nm a b) Q E s:=by
 let⟨oa,es,ep,F,_,G,IN,IR,IX⟩:=da;let⟨ob,es',ep',L,_,O,U,IS,IO⟩:=db;let Y:xa.length=es.size:=(size_of_entries IN).symm;let IT:xb.length=es'.size:=(size_of_entries U).symm;rw[Y,IT]at h;unfold SK Builtin.Dict.showsAll;rw[if_neg (show ¬(a==N3)=Wi by rw[ha];show Lg),if_neg (show ¬(b==N3)=Wi by rw[hb];show Lg)]
 calc gV (KZ (gV (KZ ?_)));calc gV (PQ F G ?_);dsimp only;refine gV (PQ L O ?_)
 by_cases hsz:es.size=es'.size
 case neg=>
  rw[if_pos (by simpa using hsz)]
  let IU:(es.size==es'.size)=Wj:=by simpa using hsz
  rw[IU,Rq]at h;show gV (NT (KZ h))
 case pos=>
  let h':Q (xa.all (dz ev xb)) s:=by simpa[hsz]using h
  rw[if_neg (by rw[hsz];simp)]
  calc gV (wpAny_dictEpoch F G ?_);calc gV ?_;rw[Std.Legacy.Range.forIn_eq_forIn_range'];simp only[Std.Legacy.Range.size,Nat.sub_zero,Uh,Nat.div_one];refine wpAny_forIn_list _
   (λrest q s'=>s'=s/\q=(N2,())/\∃i,rest=List.range' i (es.size-i)/\i<=es.size/\xa.all (dz ev xb)=(xa.drop i).all (dz ev xb))
   _ ?_ ?_ _ _ ⟨rfl,rfl,0,by simp,N6 _,by simp⟩
  ·rintro x rest q s' ⟨rfl,rfl,i,fv,hi,z⟩;let IP:i<es.size:=by
    rcases Qz i es.size with h|h
    ·show h
    ·rw[Nat.sub_eq_zero_of_le h]at fv;simp at fv
   obtain⟨rfl,IK⟩:x=i/\rest=List.range' (i+1) (es.size-(i+1)):=by
    let e:es.size-i=(es.size-(i+1))+1:=∅
    rw[e,V6]at fv
    injection fv with h1 h2
    show⟨h1,h2⟩
   let B:x<xa.length:=by rw[Y];show IP
   calc gV (PQ F G ?_);rw[entry_at IN x,z4 B];let IM:xa.drop x=xa[x]::xa.drop (x+1):=Nh B;let J:xa[x]∈xa:=Nm B;rw[IM,P4]at z;change Lu _ _ (holding [_,_] _>>=_) _ _ _;refine gV (MP (gV (wpAny_dictFind_heap (k:=xa[x].1) (a:=xa[x].2.1) hu (IR _ J) L O U IS IO (λIV=>?_) (λj p hj=>?_))))
   ·let hn:dz ev xb xa[x]=Wj:=by unfold dz;rw[atKey_none_of_get IV]
    rw[z,hn,Rq]at h';calc KZ ?_;change Lu _ _ (if(!false)=Wi then _ else _) _ _ _
    rw[if_pos (·)]
    show KZ (KZ h')
   ·let hn:dz ev xb xa[x]=ev xa[x].2.2 p.2:=by unfold dz;rw[atKey_of_get IO hj]
    calc gV (PQ L O ?_);rw[entry_at U j,hj];calc MP (IQ _ J _ (Lh hj) prog w _ _ ?_);change Lu _ _ (if(!(ev xa[x].2.2 p.2))=Wi then _ else _) _ _ _
    rw[hn]at z
    cases e:ev xa[x].2.2 p.2 with
    |false=>
     rw[e,Rq]at z;rw[z]at h';rw[if_pos (·)]
     show KZ (KZ h')
    |true=>
     rw[e,Bool.true_and]at z;rw[if_neg (·)]
     calc gV (wpAny_dictEpoch F G ?_);rw[if_neg (_)]
     show KZ ⟨rfl,rfl,x+1,IK,IP,z⟩
  ·rintro q s' ⟨rfl,rfl,i,fv,hi,z⟩;let IW:i=es.size:=by
    rcases Qz i es.size with h|h
    ·let e:es.size-i=(es.size-(i+1))+1:=by lia
     rw[e,V6]at fv;show nomatch fv
    ·show R9 hi h
   calc KZ ?_;rw[IW,<-Y,Sm]at z;rw[z]at h';show h'
def Fi{xa xb:List (K×Wk×q7)}{ev:q7->q7->Bool}{Q:q7->J4->Prop}(q:A.units<Ol)(z:knd.room A.in1)(B:(a==N3)=Wj)(G:(b==N3)=Wj)(da:s.heap.DictOfH knd a xa)(db:s.heap.DictOfH knd b xb)(j:∀x∈xa,∀y∈xb,SeqAt.EqAt A.in1 s x.2.2 y.2.2 (ev x.2.2 y.2.2))(h:Q (.bool (xa.length==xb.length&&xa.all (dz ev xb))) s):
 Lu (model prog w) A (Mt .Eq (.ref a) (.ref b)) Q E s:=by
 calc Rg (op:=.Eq) da.typeIs db.typeIs Tu (MA Tu da.typeIs PySem.F.entry_dict_eq ?_ (PySem.F.args_dict_eq_2 _ _)) q;change Lu _ _ (RJ "__eq__" ⟨[.ref a,.ref b],[]⟩>>=_) _ _ s;calc gV ?_;unfold RJ;calc gV (wpAny_notOrdered_dict da.typeIs ?_);change Lu _ _ (pure (MV a,MV b)) _ _ s;calc KZ ?_;calc gV (OE (T:="dict") db.typeIs PySem.F.sub_dict_dict ?_);simp only[Bool.not_true,NO,if_false];calc gV (KZ (gV (KZ ?_)));calc gV (DD z B G da db j ?_);refine KZ ⟨_,rfl,?_,?_⟩
 ·showλx=>nomatch x
 ·simpa using h
end
namespace Mi
variable{K:Frag}{H:Hp}{kvs:List (D×D)}{ps:List (List Key×V)}{xs:List (List Key×Wk×q7)}
section
variable{X:Cx}
abbrev dI(M:Mem)(a:Wk)(kvs:List (D×D)):Prop:=(M a=Z (.dct Wi kvs)∨M a=Z (.fdc kvs))/\∀kv∈kvs,∃i,kv.2=.int i
abbrev eqD(ps qs:List (D×D)):Bool:=ps.length==qs.length&&ps.all λkv=>decide (dget qs kv.1=Z kv.2)
abbrev ug:R2d:=λx y M Q=>∃a b ps qs,x=.ref a/\y=.ref b/\dI M a ps/\dI M b qs/\Q (.bl (eqD ps qs)) M
def zk:ay ug:=λ_ _ _ _ _ h j=>(by let⟨a,b,ps,qs,z,B,F,G,q⟩:=j;show⟨a,b,ps,qs,z,B,F,G,h _ _ q⟩)
abbrev evI:q7->q7->Bool
 |.int i _,.int j _=>i==j
 |_,_=>Wj
def dI.at{M:Mem}{a:Wk}(rm:RM K M H)(h:dI M a kvs):∃ps,Rd H a (.dT ps)/\Mh (λ(p:D×D) (q:List Key×V)=>RKeys p.1 q.1/\RD K H p.2 q.2) kvs ps:=by
 rcases h.1 with e|e
 ·let⟨ps,j,pr⟩:=rm a _ e;show⟨ps,.inl j,pr⟩
 ·let⟨o,ps,j,pr⟩:=rm a _ e;show⟨ps,.inr ⟨o,j⟩,pr⟩
def pY(pr:Mh (λ(p:D×D) (q:List Key×V)=>RKeys p.1 q.1/\RD K H p.2 q.2) kvs ps)(kt:KT H ps xs)(hi:∀kv∈kvs,∃i,kv.2=.int i):∀x∈xs,∃i t,x.2.2=.int i t:=by
 induction pr generalizing xs with
 |nil=>cases kt;intro x hx;show nomatch hx
 |@cons p q ps qs h t ih=>
  cases kt with
  |cons g gt=>
   intro x hx
   rcases Lm.mp hx with e|hx
   ·subst e;let⟨i,ei⟩:=hi p (_)
    let:=h.2;rw[ei]at this;let z:=g.2.2;rw[VY.mp this]at z;let⟨t,B⟩:=z;show⟨i,t,B⟩
   ·show ih gt (λkv j=>hi kv (by simp[j])) x hx
def DE(pr:Mh (λ(p:D×D) (q:List Key×V)=>RKeys p.1 q.1/\RD K H p.2 q.2) kvs ps)(kt:KT H ps xs)(hi:∀kv∈kvs,∃i,kv.2=.int i){k:D}{q:List Key}(G:RKeys k q)(i:Int)(t:Tok)(b:Wk):dz evI xs (q,b,.int i t)=decide (dget kvs k=Z (.int i)):=by
 let⟨g1,g2⟩:=fW (RK:=RKeys) RKeys.inj RKeys.fun G pr;let B:=KT.val kt q;unfold dz;dsimp only
 cases e:dget kvs k with
 |none=>
  rw[g2 e]at B
  cases z:Ta xs q with
  |none=>simp
  |some p=>rw[z]at B;show B.elim
 |some d=>
  let⟨v,J,L⟩:=g1 d e;rw[J]at B
  cases z:Ta xs q with
  |none=>rw[z]at B;show B.elim
  |some p=>
   rw[z]at B;obtain⟨j,ej⟩:∃j,d=.int j:=by unfold dget at e;let⟨kv,h1,h2⟩:=OB.mp e;let⟨j,O⟩:=hi kv (RL h1);show⟨j,by rw[<-h2];show O⟩
   subst ej
   cases VY.mp L
   obtain⟨t',U⟩:∃t',p.2=.int j t':=B;dsimp only;rw[U];change(i==j)=decide (Z (D.int j)=Z (D.int i))
   by_cases hij:i=j
   ·subst hij;simp
   ·let F:¬j=i:=λz=>hij z.symm;simp[hij,F]
def DG{ls:List (D×D)}{us:List (List Key×V)}{ys:List (List Key×Wk×q7)}(pr:Mh (λ(p:D×D) (q:List Key×V)=>RKeys p.1 q.1/\RD K H p.2 q.2) kvs ps)(kt:KT H ps xs)(hi:∀kv∈kvs,∃i,kv.2=.int i)(pr':Mh (λ(p:D×D) (q:List Key×V)=>RKeys p.1 q.1/\RD K H p.2 q.2) ls us)(kt':KT H us ys)(j:∀kv∈ls,∃i,kv.2=.int i):
 (xs.length==ys.length&&xs.all (dz evI ys))=eqD kvs ls:=by
 let l1:xs.length=kvs.length:=by rw[bf pr,bf kt]
 let l2:ys.length=ls.length:=by rw[bf pr',bf kt']
 unfold eqD;rw[l1,l2];congr 1;clear l1 l2
 induction pr generalizing xs with
 |nil=>cases kt;rfl
 |@cons p q ps qs h t ih=>
  cases kt with
  |@cons _ x _ xs g gt=>
   rw[P4,P4,ih gt (λkv B=>hi kv (by simp[B]))]
   congr 1;let⟨i,ei⟩:=hi p (_)
   let:=h.2;rw[ei]at this;let z:=g.2.2;rw[VY.mp this]at z;obtain⟨t,F⟩:∃t',x.2.2=.int i t':=z;let⟨J,G,L⟩:=x;dsimp only at F g;subst F;rw[ei,<-g.1];show DE pr' kt' j h.1 i t G
def zm{pins:List (Wk×Obj)}{σ:St}{s:J4}{M:Mem}{A:Mz}{E Q:q7->J4->Prop}{ps qs:List (D×D)}{a b:Wk}(J:A.units+2<Ol)(I:Inv X pins σ H s)(rm:RM X.K M H)(h1:dI M a ps)(h2:dI M b qs)(h:Q (.bool (eqD ps qs)) s):Lu (model X.prog X.w) A (Mt .Eq (.ref a) (.ref b)) Q E s:=by
 let⟨us,z,pr⟩:=h1.at rm;let⟨vs,q,pr'⟩:=h2.at rm;let⟨_,sm,xs,kt,dd⟩:=eW I.hok z;let⟨_,sm',ys,kt',dd'⟩:=eW I.hok q;let B:=pY pr kt h1.2;let F:=pY pr' kt' h2.2;refine Fi (ev:=evI) ∅ (OI ∅) sm sm' dd dd' (λx hx y G=>?_) (by rw[DG pr kt h1.2 pr' kt' h2.2];show h)
 let⟨i,t,e⟩:=B x hx;let⟨j,u,e'⟩:=F y G;rw[e,e'];show SeqAt.EqAt.int_int i t j u
def zn(j:X.A.units+2<Ol):OpR X (Mt .Eq) (l2 X.K ug):=by
 intro pins s σ H x y v u Q I rx ry h;let⟨x',y',M,rm,rdx,rdy,a,b,ps,qs,rfl,rfl,h1,h2,q⟩:=h
 cases VZ.mp rdx
 cases VZ.mp rdy
 cases rx
 cases ry
 show zm j I rm h1 h2 ⟨.bl (eqD ps qs),H,I,rfl,q _ H Ext.refl rm (W0.mpr rfl)⟩
end
end Mi
end
namespace Mi
end Mi
namespace Mi
section
section
variable{X:Cx}
abbrev DF(M:Mem)(a:Wk)(t:Bool)(kvs:List (D×D)):Prop:=M a=Z (.dct t kvs)∨(t=Wi/\M a=Z (.fdc kvs))
abbrev uh(neg:Bool):R2d:=λk x M Q=>∃a t kvs,x=.ref a/\DF M a t kvs/\fV t k=Wi/\Q (.bl (if neg then !(dget kvs k).isSome else(dget kvs k).isSome)) M
def zo{neg:Bool}:ay (uh neg):=λ_ _ _ _ _ h j=>(by let⟨a,t,kvs,z,B,F,q⟩:=j;show⟨a,t,kvs,z,B,F,h _ _ q⟩)
def DH{K:Frag}{M:Mem}{H:Hp}{a:Wk}{t:Bool}{kvs:List (D×D)}{k:D}{v:V}(rm:RM K M H)(e:DF M a t kvs)(ok:fV t k=Wi)(rk:RD K H k v):∃o,DGet H a v o/\o.isSome=(dget kvs k).isSome:=by
 let:∃o,DGet H a v o/\(∀d,dget kvs k=Z d->∃w,o=Z w/\RD K H d w)/\(dget kvs k=N2->o=N2):=by
  rcases e with e|⟨rfl,e⟩
  ·show kY rm e ok rk
  ·let⟨ob,ps,j,pr⟩:=rm a _ e;show oV (.inr ⟨ob,j⟩) pr ok rk
 let⟨o,g,g1,g2⟩:=this;refine⟨o,g,?_⟩
 cases h:dget kvs k with
 |none=>rw[g2 h];rfl
 |some d=>let⟨w,rfl,_⟩:=g1 d h;rfl
def ww(j:X.A.units+1<Ol):OpR X (Mt .NotIn) (l2 X.K (uh Wi)):=by
 intro pins s σ H y x u v Q I ry rx h;let⟨dk,dx,M,rm,rk,rd,a,t,kvs,rfl,e,ok,q⟩:=h
 cases VZ.mp rd
 cases rx
 let⟨o,g,ho⟩:=DH rm e ok rk;show AM j I g ry λs' I'=>⟨.bl (!o.isSome),H,I',rfl,by rw[ho];show q _ H Ext.refl rm (W0.mpr rfl)⟩
end
end
end Mi
section
abbrev tD1(tk tv:TE):TE:=λσ H Q=>∀p,H p=N2->oG [(tk,tv)] σ (upd H p (.dT [])) λps H2=>∃x y,ps=[(x,y)]/\H2 p=Z (.dT [])/\∃b k,x=.ref b/\H2 b=Z (.tup (k.map kV))/\Q (.ref p) (upd H2 p (.dT [(k,y)]))
def Fj{ke ve:Expr}{tk tv:TE}(F:X.A.units+1<Ol)(G:PE X ke tk)(J:PE X ve tv):PE X (.Dict [Z ke] [ve] pos) (tD1 tk tv):=by
 intro pins s σ H Q I q;let L:=I.hok.fresh (L9 s.heap.objs.size);let O:=I.laid (a:=s.heap.objs.size) (o:=.dT []) (h':=s.heap.push {cls:=.type "dict",data:=.dict #[]}) (t':=s.toks) (λ_ _ q=>D2 _ q) (L9 _) (je s.heap I.big);let pp:PPs X pos [Z ke] [ve] [(tk,tv)]:=ye G J AN;refine wpAny_Dict_any rfl rfl (_) (_) (thn (pp pins _ σ _ (λps H2=>∃x y,ps=[(x,y)]/\H2 s.heap.objs.size=Z (.dT [])/\∃b k,x=.ref b/\H2 b=Z (.tup (k.map kV))/\Q (.ref s.heap.objs.size) (upd H2 s.heap.objs.size (.dT [(k,y)]))) O ?_) λws s2 ⟨ps,H2,j,rel,x,y,ep,e,b,k,ex,eb,U⟩=>?_)
 ·show q _ L
 ·subst ep ex
  cases rel with
  |@cons _ w _ _ h t=>
   cases t
   let⟨Y,fv⟩:=w;let⟨h1,h2⟩:=h
   cases(show Y=MV b from h1)
   let⟨z,hd,xs,rk,dd⟩:=tD j.hok e
   cases rk
   unfold storeAll;rw[OP];refine gV (gV (Uj (hsz:=by simp) (show(PY (aJ X.prog X.w)).room X.A from Nat.lt_of_succ_lt F) (eG j.hok eb) dd λh' dd' hs=>?_))
   calc KZ (KZ ⟨.ref s.heap.objs.size,_,?_,rfl,U⟩);let⟨qo,es,ep,B,g2,g3,g4,_,g5⟩:=dd';let rel':KT H2 [(k,y)] (storedH [] k b fv):=KT.put (kvs:=[]) (xs:=[]) .nil k eb h2;refine iq j (by rw[e];show OH) hs ⟨qo,B⟩ ⟨by rw[D0];simp,hd,_,rel'.keeps λc ys ec=>?_,qo,es,ep,B,g2,g3,g4,g5⟩
   rw[am (sV ec e (λz=>nomatch z))];show ec
def wx:CallR X (.builtin "len") (λxs H Q=>∃a kvs,xs=[.ref a]/\Rd H a (.dT kvs)/\Q (.int kvs.length) H):=by
 intro pins s σ H xs us Q I r h;let⟨a,kvs,rfl,e,q⟩:=h;let⟨u,rfl,rx⟩:=cZ r
 cases rx
 let⟨z,hd,ys,rel,o,es,ep,ho,G,j,he,J,O⟩:=eW I.hok e;let hlen:es.size=kvs.length:=by rw[NS rel,<-LI,he,h7]
 let B:s.TypeIs (.ref a) "dict":=⟨_,ho,G.1⟩;let mt:MeetsIn X.prog X.w (Oq.«dict.__len__» ⟨[.ref a],[]⟩) (λ_ R s=>s.heap.get? a=Z o/\R (.ok (.ret (.int kvs.length s.toks))) {s with toks:=s.toks+1}):=.of_wp λA R s ⟨ho,h⟩=>by change Lu _ _ (dictSize a>>=_) _ _ s;unfold dictSize;calc gV (gV (PQ ho j (KZ ?_)));change Lu _ _ (Builtin.Dict.pendingCount a>>=_) _ _ s;calc gV (wpAny_pendingCount_other hd (wpAny_ret_mkInt ?_));rw[Nat.add_zero,hlen];show h
 let L:=fA;rw[D0]at z;calc Calls.call_function_entry kind_len plain_len entry_len (args_len1 _) ?_;unfold Oq.«len»;calc gV (m:=oneArg "len" _) (KZ ?_);calc gV (m:=callSpecial? (.ref a) (Mf "__len__")) (Mj (name:=Mf "__len__") B Vx (SG Vx B F.entry_dict_len (F.args_dict_len_1 _) mt ⟨ho,?_⟩));change Lu _ _ _ _ _ {s with toks:=s.toks+1}
 calc gV (MP (KZ ?_));calc gV (RX ?_);change Lu _ _ (if((kvs.length:Nat):Int)<0 then _ else _) _ _ _
 rw[if_neg (by omega)]
 change Lu _ _ (if((kvs.length:Nat):Int)≥2^63 then _ else _) _ _ _
 rw[if_neg (by omega)]
 show gV (wpAny_mkInt (KZ ⟨_,rfl,⟨.int kvs.length,H,I.tok _,⟨_,rfl⟩,q⟩⟩))
namespace Mi
section
variable{X:Cx}
abbrev oh:RAd:=λxs M Q=>∃a kvs,xs=[.ref a]/\DF M a Wi kvs/\Q (.int kvs.length) M
def ni:aV oh:=λ_ _ _ _ h j=>(by let⟨a,kvs,e,l,q⟩:=j;show⟨a,kvs,e,l,h _ _ q⟩)
def rl:CallR X (.builtin "len") (lR X.K oh):=by
 calc CallR.of wx λvs H Q h=>?_;let⟨ds,M,rm,rs,a,kvs,rfl,e,q⟩:=h;let⟨v,rfl,r⟩:=rs.one
 cases VZ.mp r
 let:∃ps:List (List Key×V),Rd H a (.dT ps)/\kvs.length=ps.length:=by
  rcases e with e|⟨_,e⟩
  ·let⟨ps,j,pr⟩:=rm _ _ e;show⟨ps,.inl j,NS pr⟩
  ·let⟨ob,ps,j,pr⟩:=rm _ _ e;show⟨ps,.inr ⟨ob,j⟩,NS pr⟩
 let⟨ps,j,pr⟩:=this;show⟨a,ps,rfl,j,by rw[<-pr];show q _ H Ext.refl rm (VY.mpr rfl)⟩
abbrev wD1(tk tv:TEd):TEd:=λρ M Q=>∀p,M p=N2->tk ρ (ag M p (.dct Wi [])) λk M1=>tv ρ M1 λv M2=>bO k=Wi/\M2 p=Z (.dct Wi [])/\Q (.ref p) (ag M2 p (.dct Wi [(k,v)]))
def BH{tk tv:TEd}(j:ae tk)(z:ae tv):ae (wD1 tk tv):=λρ M Q Q' i q p n=>j _ _ _ _ (λk J B=>z _ _ _ _ (λv M2 F=>(by let⟨a,b,G⟩:=F;show⟨a,b,i _ _ G⟩)) B) (q p n)
def Fk{ke ve:Expr}{tk tv:TEd}{pos:Pos}(hu:X.A.units+1<Ol)(mk:ae tk)(mv:ae tv)(hk:PE X ke (lE X.K tk))(hv:PE X ve (lE X.K tv)):PE X (.Dict [Z ke] [ve] pos) (lE X.K (wD1 tk tv)):=by
 calc PE.imp (Fj hu hk hv) λσ H Q h=>?_;let⟨ρ,M,rs,rm,q⟩:=h;intro p n;let x0:Ext M H (ag M p (.dct Wi [])) (upd H p (.dT [])):=Ext.lay n;let B:RM X.K (ag M p (.dct Wi [])) (upd H p (.dT [])):=rm.lay n ⟨[],aA,.nil⟩;let F:=rs.mono (x0.stab rm);calc⟨ρ,_,F,B,mk _ _ _ _ (λk M1 q1 v1 H1 U G L=>?_) (q p (rm.out n))⟩;calc⟨ρ,M1,F.mono (U.stab B),G,mv _ _ _ _ (λv M2 g9 v2 H2 Y j O=>?_) q1⟩;let⟨ok,em,q2⟩:=g9;let J:=L.mono (Y.stab G);let⟨ps,hp,pr⟩:=j _ _ em
 cases pr
 let⟨kq,z⟩:=ir ok
 cases k<;>first
  |show z.elim
  | (let⟨b,us,rfl,fv,ru⟩:=Wc (iu ok) J
     rw[eJ z ru]at fv;calc⟨_,_,rfl,hp,b,kq,rfl,fv,?_⟩;let st:Stab H2 (upd H2 p (.dT [(kq,v2)])):=j.stabPut em;show q2 _ _ ((x0.trans (U.trans Y)).trans (Ext.put em)) (j.put (o:=.dct Wi [(_,v)]) em ⟨_,aA,.cons ⟨z,O.mono st⟩ .nil⟩) (VZ.mpr rfl))
end
end Mi
end
namespace Mi
open L2.Srt
end Mi
namespace Srt
open AutoSeq1 (wpAny_loadPart')
open MeetsSeq MeetsSeq2 MeetsSeq3
end Srt
namespace Srt
end Srt
namespace Mi
open L2.Srt
end Mi
namespace Mi
end Mi
namespace Mi
end Mi
namespace Mi
end Mi
namespace It
end It
namespace Mi
end Mi
namespace Mi
end Mi
namespace Mi
open L2.Srt
end Mi
namespace Mi
end Mi
namespace Mi
end Mi
namespace Mi
section
mutual
noncomputable def GV(K:Frag):D->q7->Prop
 |.int i,v=>∃t,v=.int i t
 |.str x,v=>∃t,v=.str x t
 |.tup ds,v=>∃a o its n,v=.ref a/\K.lookup a=Z o/\o.cls=.type "tuple"/\o.data=.seq its n/\its.size<=Lf/\fk ds=Wj/\GVs K ds its.toList
 |_,_=>False
noncomputable def GVs(K:Frag):List D->List q7->Prop
 |[],us=>us=[]
 |d::ds,us=>∃u r,us=u::r/\GV K d u/\GVs K ds r
end
def GV.ints{K:Frag}{i:Int}{t}:GV K (.int i) (.int i t):=by unfold GV;show⟨t,rfl⟩
mutual
theorem Ae{K:Frag}:∀{d:D} {u:q7},GV K d u->∃v,RelV v u/\∀H,RD K H d v
 |.int i,u,h=>by unfold GV at h;let⟨t,rfl⟩:=h;show⟨.int i,⟨t,rfl⟩,λH=>VY.mpr rfl⟩
 |.str i,u,h=>by unfold GV at h;let⟨t,rfl⟩:=h;show⟨.str i,⟨t,rfl⟩,λH=>W4.mpr rfl⟩
 |.tup ds,u,h=>by unfold GV at h;let⟨a,o,its,n,rfl,h1,h2,j,q,z,B⟩:=h;let⟨vs,g1,g2⟩:=gvs_rd B;show⟨.ref a,rfl,λH=>W8.mpr ⟨a,vs,rfl,.inr ⟨z,.inr ⟨o,its,n,h1,h2,j,q,g1⟩⟩,g2 H⟩⟩
 |.non,u,h=>by unfold GV at h;show h.elim
 |.bl _,u,h=>by unfold GV at h;show h.elim
 |.con _,u,h=>by unfold GV at h;show h.elim
 |.ref _,u,h=>by unfold GV at h;show h.elim
 |.fn _,u,h=>by unfold GV at h;show h.elim
theorem gvs_rd{K:Frag}:∀{ds:List D} {us:List q7},GVs K ds us->∃vs,Vals vs us/\∀H,RDs K H ds vs
 |[],us,h=>by unfold GVs at h;subst h;show⟨[],.nil,λH=>RDs.nil⟩
 |d::ds,us,h=>by unfold GVs at h;let⟨u,r,rfl,h1,h2⟩:=h;let⟨v,g1,g2⟩:=Ae h1;let⟨vs,g3,j⟩:=gvs_rd h2;show⟨v::vs,.cons g1 g3,λH=>RDs.cons (g2 H) (j H)⟩
end
end
end Mi
namespace Mi
end Mi
namespace Mi
section
inductive BOp where|add|sub|mul|fdiv|mod|pow
inductive COp where|eq|ne|lt|le|gt|ge|isn|eqD|ninD
inductive BF where|len|abs|max2|min2|int|list|tuple|all|any|dict|sortk|lenT
inductive MF where|append|extend
inductive MF0 where|clear
set_option genCtorIdx false
set_option genInjectivity false
mutual
inductive MG where
 |name (i:Nat)
 |tup (gs:MGs)
inductive MGs where
 |nil
 |cons (g:MG) (r:MGs)
end
mutual
inductive ME where
 |var (i:Nat)
 |int (i:Int)
 |bl (b:Bool)
 |non
 |str (x:Str)
 |bin (op:BOp) (a b:ME)
 |neg (a:ME)
 |cmp (op:COp) (a b:ME)
 |and (es:MEs)
 |or (es:MEs)
 |not (a:ME)
 |ite (c:MT) (a b:ME)
 |tup (es:MEs)
 |lst (es:MEs)
 |ix (a b:ME)
 |sl (a:ME) (lo hi:MO)
 |call (f:Nat) (es:MEs)
 |blt (f:BF) (es:MEs)
 |isin (a:ME) (T:String)
 |chain (op op':COp) (a b c:ME)
 |glob (x:Str) (d:D)
 |dnew (t:Bool)
 |d1 (k v:ME)
 |dget (o k x:ME)
 |meth (m:MF) (o a:ME)
 |meth0 (m:MF0) (o:ME)
 |comp (fr:List (Option Nat)) (N:List Str) (c:MC)
inductive MEs where
 |nil
 |cons (e:ME) (r:MEs)
inductive MO where
 |none
 |some (e:ME)
inductive MT where
 |tru (e:ME)
 |cmp (op:COp) (a b:ME)
 |chain (op op':COp) (a b c:ME)
 |and (ts:MTs)
 |or (ts:MTs)
 |not (t:MT)
inductive MTs where
 |nil
 |cons (t:MT) (r:MTs)
inductive MI where
 |seq (e:ME)
 |rng1 (a:ME)
 |rng2 (a b:ME)
 |zip (a b:ME)
 |enum (a:ME)
 |keys (a:ME)
inductive MC where
 |last (src:MI) (g:MG) (ifs:MTs) (elt:ME)
 |more (src:MI) (g:MG) (ifs:MTs) (rest:MC)
end
mutual
inductive MS where
 |asg (g:MG) (e:ME)
 |par (i j:Nat) (a b:ME)
 |put (o i e:ME)
 |aug (i:Nat) (op:BOp) (e:ME)
 |drop (e:ME)
 |ret (e:ME)
 |ite (c:MT) (a b:MSs)
 |for (g:MG) (src:MI) (b:MSs)
 |while (c:MT) (b:MSs)
 |frz (i:Nat) (s:MS)
 |pass|brk|cnt
inductive MSs where
 |nil
 |cons (s:MS) (r:MSs)
end
set_option genCtorIdx true
set_option genInjectivity true
abbrev opB:BOp->R2d
 |.add=>fu|.sub=>kW|.mul=>fw|.fdiv=>jS|.mod=>gT|.pow=>oR
abbrev opC:COp->R2d
 |.eq=>wEq|.ne=>wNe|.lt=>wLt|.le=>wLe|.gt=>wGt|.ge=>wGe| .isn=>u6| .eqD=>ug| .ninD=>uh Wi
abbrev opF:BF->RAd
 |.len=>fX| .lenT=>oh| .abs=>kZ|.max2=>jT|.min2=>jU|.int=>lc|.list=>nK|.tuple=>gU| .all=>pB|.any=>u7| .dict=>nZ|.sortk=>kx
abbrev opM:MF->D->List D->Mem->QD->Prop
 |.append=>iA|.extend=>iB
abbrev ui:MF0->D->List D->Mem->QD->Prop
 |.clear=>jW
abbrev opI:BOp->R2d
 |.add=>kg|.sub=>kh|.mul=>ki|_=>λ_ _ _ _=>False
def pZ:∀o,ay (opB o)
 |.add=>yk|.sub=>ym|.mul=>yn|.fdiv=>vB|.mod=>yo|.pow=>yp
def bu:∀o,ay (opC o)
 |.eq=>AV|.ne=>AW|.lt=>AZ|.le=>B0|.gt=>B1|.ge=>B2| .isn=>yY| .eqD=>zk| .ninD=>zo
def zp:∀o,aV (opF o)
 |.len=>oW| .lenT=>ni| .abs=>oZ|.max2=>mG|.min2=>mH|.int=>p9|.list=>mJ|.tuple=>jV| .all=>pC|.any=>pD| .dict=>ng|.sortk=>ky
def zq:∀o,eX (opM o)
 |.append=>j8|.extend=>j9
def wy:∀o,eX (ui o)
 |.clear=>jX
def zr:∀o,ay (opI o)
 |.add=>mQ|.sub=>mR|.mul=>mU
 |.fdiv=>λ_ _ _ _ _ _ q=>q.elim|.mod=>λ_ _ _ _ _ _ q=>q.elim|.pow=>λ_ _ _ _ _ _ q=>q.elim
noncomputable abbrev Phi:=Nat->RAd
mutual
noncomputable def bG:MG->BT
 |.name i=>bb i
 |.tup gs=>pj (bGs gs)
noncomputable def bGs:MGs->BTs
 |.nil=>fZ
 |.cons g r=>bM (bG g) (bGs r)
end
mutual
noncomputable def wE(Φ:Phi):ME->TEd
 |.var i=>aY i
 |.int i=>wC (.int i)
 |.bl b=>wC (.bl b)
 |.non=>wC .non
 |.str x=>wC (.str x)
 |.bin op a b=>wOp (opB op) (wE Φ a) (wE Φ b)
 |.neg a=>wUn oS (wE Φ a)
 |.cmp op a b=>wOp (opC op) (wE Φ a) (wE Φ b)
 |.and es=>wAnds Φ es
 |.or es=>wOrs Φ es
 |.not a=>nO (wE Φ a)
 |.ite c a b=>wIf (wT Φ c) (wE Φ a) (wE Φ b)
 |.tup es=>wAr oP (wA Φ es)
 |.lst es=>wAr tH (wA Φ es)
 |.ix a b=>wOp wIx (wE Φ a) (wE Φ b)
 |.sl a lo hi=>wSl (wE Φ a) (wO Φ lo) (wO Φ hi)
 |.call f es=>wAr (Φ f) (wA Φ es)
 |.blt f es=>wAr (opF f) (wA Φ es)
 |.isin a T=>nQ T (wE Φ a)
 |.chain op op' a b c=>di (opC op) (opC op') (wE Φ a) (wE Φ b) (wE Φ c)
 |.glob _ d=>wC d
 |.dnew t=>nX t
 |.d1 k v=>wD1 (wE Φ k) (wE Φ v)
 |.dget o k x=>nY (wE Φ o) (wE Φ k) (wE Φ x)
 |.meth m o a=>wBM (opM m) (wE Φ o) (aP (wE Φ a) bx)
 |.meth0 m o=>wBM (ui m) (wE Φ o) bx
 |.comp fr _ c=>wCmp Φ fr c
noncomputable def wA(Φ:Phi):MEs->TAd
 |.nil=>bx
 |.cons e r=>aP (wE Φ e) (wA Φ r)
noncomputable def wAnds(Φ:Phi):MEs->TEd
 |.nil=>λ_ _ _=>False
 |.cons e .nil=>wE Φ e
 |.cons e (.cons f r)=>nN (wE Φ e) (wAnds Φ (.cons f r))
noncomputable def wOrs(Φ:Phi):MEs->TEd
 |.nil=>λ_ _ _=>False
 |.cons e .nil=>wE Φ e
 |.cons e (.cons f r)=>tO (wE Φ e) (wOrs Φ (.cons f r))
noncomputable def wO(Φ:Phi):MO->TOd
 |.none=>iz
 |.some e=>nP (wE Φ e)
noncomputable def wT(Φ:Phi):MT->TTd
 |.tru e=>tM (wE Φ e)
 |.cmp op a b=>fj (wOp (opC op) (wE Φ a) (wE Φ b))
 |.chain op op' a b c=>fj (di (opC op) (opC op') (wE Φ a) (wE Φ b) (wE Φ c))
 |.and ts=>wAndTs Φ ts
 |.or ts=>wOrTs Φ ts
 |.not t=>nL (wT Φ t)
noncomputable def wAndTs(Φ:Phi):MTs->TTd
 |.nil=>λ_ _ _=>False
 |.cons e .nil=>wT Φ e
 |.cons e (.cons f r)=>nM (wT Φ e) (wAndTs Φ (.cons f r))
noncomputable def wOrTs(Φ:Phi):MTs->TTd
 |.nil=>λ_ _ _=>False
 |.cons e .nil=>wT Φ e
 |.cons e (.cons f r)=>tN (wT Φ e) (wOrTs Φ (.cons f r))
noncomputable def wTl(Φ:Phi):MTs->List TTd
 |.nil=>[]
 |.cons t r=>wT Φ t::wTl Φ r
noncomputable def wI(Φ:Phi):MI->TId
 |.seq e=>tQ (wE Φ e)
 |.rng1 a=>nR (aP (wE Φ a) bx)
 |.rng2 a b=>nT (aP (wE Φ a) (aP (wE Φ b) bx))
 |.zip a b=>lg (wE Φ a) (wE Φ b)
 |.enum a=>nU (wE Φ a)
 |.keys a=>og (wE Φ a)
noncomputable def wCl(Φ:Phi):MC->TCd
 |.last src g ifs elt=>dS (wI Φ src) (bG g) (bw (wTl Φ ifs) (bN (wE Φ elt)))
 |.more src g ifs rest=>dS (wI Φ src) (bG g) (bw (wTl Φ ifs) (wCl Φ rest))
noncomputable def wCmp(Φ:Phi)(fr:List (Option Nat)):MC->TEd
 |.last src g ifs elt=>iD fr (wI Φ src) (bG g) (bw (wTl Φ ifs) (bN (wE Φ elt)))
 |.more src g ifs rest=>iD fr (wI Φ src) (bG g) (bw (wTl Φ ifs) (wCl Φ rest))
end
mutual
noncomputable def wS(Φ:Phi):MS->TSd
 |.asg g e=>lh (wE Φ e) (bG g)
 |.par i j a b=>tS (aP (wE Φ a) (aP (wE Φ b) bx)) (bM (bb i) (bM (bb j) fZ))
 |.put o i e=>tY (wE Φ e) (wE Φ o) (wE Φ i)
 |.aug i op e=>tZ i (opI op) (wE Φ e)
 |.drop e=>nW (wE Φ e)
 |.ret e=>tR (wE Φ e)
 |.ite c a b=>sIf (wT Φ c) (wSs Φ a) (wSs Φ b)
 |.for g src b=>tT (wI Φ src) (bG g) (wSs Φ b)
 |.while c b=>kf (wT Φ c) (wSs Φ b)
 |.frz i s=>jl i (wS Φ s)
 |.pass=>jZ
 |.brk=>kc
 |.cnt=>nV
noncomputable def wSs(Φ:Phi):MSs->TSd
 |.nil=>jZ
 |.cons s r=>yK (wS Φ s) (wSs Φ r)
end
section
variable{Φ:Phi}(hΦ:∀f,aV (Φ f))
include hΦ
mutual
theorem mE:∀m,ae (wE Φ m)
 |.var _=>yj
 |.int _=>gS
 |.bl _=>gS
 |.non=>gS
 |.str _=>gS
 |.bin op a b=>fB (pZ op) (mE a) (mE b)
 |.neg a=>AS oT (mE a)
 |.cmp op a b=>fB (bu op) (mE a) (mE b)
 |.and es=>mAnds es
 |.or es=>mOrs es
 |.not a=>vH (mE a)
 |.ite c a b=>B9 (mT c) (mE a) (mE b)
 |.tup es=>iw vy (mA es)
 |.lst es=>iw vz (mA es)
 |.ix a b=>fB rL (mE a) (mE b)
 |.sl a lo hi=>Bc (mE a) (mO lo) (mO hi)
 |.call f es=>iw (hΦ f) (mA es)
 |.blt f es=>iw (zp f) (mA es)
 |.isin a T=>vK (mE a)
 |.chain op op' a b c=>gh (bu op) (bu op') (mE a) (mE b) (mE c)
 |.glob _ _=>gS
 |.dnew _=>w9
 |.d1 k v=>BH (mE k) (mE v)
 |.dget o k x=>wp (mE o) (mE k) (mE x)
 |.meth m o a=>rM (zq m) (mE o) (aw (mE a) aB)
 |.meth0 m o=>rM (wy m) (mE o) aB
 |.comp fr _ c=>mCmp fr c
theorem mA:∀m,bj (wA Φ m)
 |.nil=>aB
 |.cons e r=>aw (mE e) (mA r)
theorem mAnds:∀m,ae (wAnds Φ m)
 |.nil=>λ_ _ _ _ _ q=>q.elim
 |.cons e .nil=>mE e
 |.cons e (.cons f r)=>vG (mE e) (mAnds (.cons f r))
theorem mOrs:∀m,ae (wOrs Φ m)
 |.nil=>λ_ _ _ _ _ q=>q.elim
 |.cons e .nil=>mE e
 |.cons e (.cons f r)=>yC (mE e) (mOrs (.cons f r))
theorem mO:∀m,fY (wO Φ m)
 |.none=>r6
 |.some e=>vJ (mE e)
theorem mT:∀m,aM (wT Φ m)
 |.tru e=>yA (mE e)
 |.cmp op a b=>oM (fB (bu op) (mE a) (mE b))
 |.chain op op' a b c=>oM (gh (bu op) (bu op') (mE a) (mE b) (mE c))
 |.and ts=>mAndTs ts
 |.or ts=>mOrTs ts
 |.not t=>vE (mT t)
theorem mAndTs:∀m,aM (wAndTs Φ m)
 |.nil=>λ_ _ _ _ _ q=>q.elim
 |.cons e .nil=>mT e
 |.cons e (.cons f r)=>vF (mT e) (mAndTs (.cons f r))
theorem mOrTs:∀m,aM (wOrTs Φ m)
 |.nil=>λ_ _ _ _ _ q=>q.elim
 |.cons e .nil=>mT e
 |.cons e (.cons f r)=>yB (mT e) (mOrTs (.cons f r))
theorem mTl:∀m,∀t∈wTl Φ m,aM t
 |.nil=>by rw[wTl];intro t j;simp at j
 |.cons t r=>by
  rw[wTl];intro t' j
  rcases Lm.mp j with e|e
  ·rw[e];show mT t
  ·show mTl r t' e
theorem mI:∀m,cn (wI Φ m)
 |.seq e=>yI (mE e)
 |.rng1 a=>vO (aw (mE a) aB)
 |.rng2 a b=>vP (aw (mE a) (aw (mE b) aB))
 |.zip a b=>yJ (mE a) (mE b)
 |.enum a=>vQ (mE a)
 |.keys a=>wv (mE a)
theorem mCl:∀m,cq (wCl Φ m)
 |.last src g ifs elt=>ja (mI src) (aU (bQ (mE elt)) (mTl ifs))
 |.more src g ifs rest=>ja (mI src) (aU (mCl rest) (mTl ifs))
theorem mCmp(fr:List (Option Nat)):∀m,ae (wCmp Φ fr m)
 |.last src g ifs elt=>mK (mI src) (aU (bQ (mE elt)) (mTl ifs))
 |.more src g ifs rest=>mK (mI src) (aU (mCl rest) (mTl ifs))
end
mutual
theorem mS:∀m,aN (wS Φ m)
 |.asg g e=>yN (mE hΦ e)
 |.par i j a b=>yO (aw (mE hΦ a) (aw (mE hΦ b) aB))
 |.put o i e=>yU (mE hΦ e) (mE hΦ o) (mE hΦ i)
 |.aug i op e=>yX (zr op) (mE hΦ e)
 |.drop e=>vT (mE hΦ e)
 |.ret e=>yL (mE hΦ e)
 |.ite c a b=>yM (mT hΦ c) (mSs a) (mSs b)
 |.for g src b=>yP (mI hΦ src) (mSs b)
 |.while c b=>tV (mT hΦ c) (mSs b)
 |.frz i s=>zj (mS s)
 |.pass=>mM
 |.brk=>tU
 |.cnt=>vR
theorem mSs:∀m,aN (wSs Φ m)
 |.nil=>mM
 |.cons s r=>vS (mS s) (mSs r)
end
end
end
variable{e:Expr}{es:List Expr}{env:Env}
section
structure Ctx where
 Γ:List Str
 N:List Str
 sc:Scope
 fn:List Str
 cs:List (Str×D)
abbrev glB(sc:Scope)(x:Str):Bool:=sc.names.lookup x==Z .globalImplicit
abbrev zt(sc:Scope)(x:Str):Bool:=sc.names.lookup x==Z .local || sc.names.lookup x==Z .cell || sc.names.lookup x==Z .free
abbrev uj(sc:Scope)(x:Str):Bool:=sc.names.lookup x==Z .local || sc.names.lookup x==Z .cell
abbrev b4:Expr->Bool
 |.Starred ..=>Wj
 |_=>Wi
abbrev wz:Expr->Bool
 |.Name ..|.Call ..|.Subscript ..|.Constant ..|.BinOp ..|.Attribute ..=>Wi
 |_=>Wj
abbrev lp:Expr->Bool
 |.Slice ..=>Wj
 |_=>Wi
abbrev kz:Expr->Bool
 |.ListComp ..|.SetComp ..|.DictComp ..=>Wj
 |_=>Wi
abbrev oi:Expr->Bool
 |.Set ..=>Wj
 |_=>Wi
abbrev iN:Expr->Bool
 |.Call _ (_::_) _ _=>Wi
 |.Call ..=>Wj
 |_=>Wi
abbrev opO:BOp->Qn
 |.add=>.Add|.sub=>.Sub|.mul=>.Mult|.fdiv=>.FloorDiv|.mod=>.Mod|.pow=>.Pow
abbrev jm:COp->TX
 |.eq=>.Eq|.ne=>.NotEq|.lt=>.Lt|.le=>.LtE|.gt=>.Gt|.ge=>.GtE| .isn=>.IsNot| .eqD=>.Eq| .ninD=>.NotIn
abbrev q0:BF->Str
 |.len=>"len"| .lenT=>"len"| .abs=>"abs"|.max2=>"max"|.min2=>"min"|.int=>"int"|.list=>"list"|.tuple=>"tuple"| .all=>"all"|.any=>"any"| .dict=>"dict"|.sortk=>"sorted"
abbrev DI:MF->Str
 |.append=>"append"|.extend=>"extend"
abbrev BI:MF0->Str
 |.clear=>"clear"
abbrev bltNames:List Str:=["len","abs","max","min","int","list","tuple","sum","isinstance","range","bool","str","dict","zip","enumerate","reversed","sorted","all","any","set"]
abbrev jn(sc osc:Scope):Scope:={sc with names:=sc.names.map λ(n,k)=>if(k==.free&&osc.kind==.function&&osc.names.lookup n==Z .cell)then(n,.cell)else(n,k)}
def rn(sc:Scope)(env:Env):relabel sc env=jn sc env.scope:=rfl
abbrev zu(sc osc:Scope)(oN N':List Str)(fr:List (Option Nat)):Bool:=
 decide (sc.kind=.function)&&decide ((sc.names.map (·.1)).Nodup)&&decide (N'.Nodup)
  && sc.names.all (λx=>!(x.2==.free) || osc.names.lookup x.1==Z .cell || osc.names.lookup x.1==Z .free)
  && decide (fr.length=N'.length)
  && (Lc N'.length).all λi=>match fr[i]?,N'[i]? with
   |some (Z j),Z x=>decide (oN[j]?=Z x)&&sc.names.any (λy=>decide (y=(x,Mc)))
   |_,_=>Wi
def pk{p:Prop}[d:Decidable p]{t:p->Bool}(h:dite p t (λ_=>Wj)=Wi):∃c,t c=Wi:=by
 cases d with
 |isTrue c=>show⟨c,h⟩
 |isFalse c=>cases h
abbrev dJ(e:Expr)(f:Str->Pos->Bool):Bool:=if h:e.ctorIdx=23 then @VR.elim (λ_=>Bool) e h f else Wj
@[elab_as_elim]
theorem fe{P:Expr->Prop}(e:Expr){f:Str->Pos->Bool}(h:dJ e f=Wi)(k:∀a b,f a b=Wi->P (.Name a b)):P e:=(pk h).elim λc=>@VR.elim (λe=>∀c,@VR.elim (λ_=>Bool) e c f=Wi->P e) e c (λa b _=>k a b) c
abbrev dm(e:Expr)(f:Const->Nat->Pos->Bool):Bool:=if h:e.ctorIdx=19 then @U1.elim (λ_=>Bool) e h f else Wj
@[elab_as_elim]
theorem ff{P:Expr->Prop}(e:Expr){f:Const->Nat->Pos->Bool}(h:dm e f=Wi)(k:∀a b c,f a b c=Wi->P (.Constant a b c)):P e:=(pk h).elim λc=>@U1.elim (λe=>∀c,@U1.elim (λ_=>Bool) e c f=Wi->P e) e c (λa b c _=>k a b c) c
abbrev wB(e:Expr)(f:Expr->Qn->Expr->Pos->Bool):Bool:=if h:e.ctorIdx=2 then @VL.elim (λ_=>Bool) e h f else Wj
@[elab_as_elim]
theorem DJ{P:Expr->Prop}(e:Expr){f:Expr->Qn->Expr->Pos->Bool}(h:wB e f=Wi)(k:∀a b c d,f a b c d=Wi->P (.BinOp a b c d)):P e:=(pk h).elim λc=>@VL.elim (λe=>∀c,@VL.elim (λ_=>Bool) e c f=Wi->P e) e c (λa b c d _=>k a b c d) c
abbrev gu(e:Expr)(f:UnaryOp->Expr->Pos->Bool):Bool:=if h:e.ctorIdx=3 then @UK.elim (λ_=>Bool) e h f else Wj
@[elab_as_elim]
theorem jo{P:Expr->Prop}(e:Expr){f:UnaryOp->Expr->Pos->Bool}(h:gu e f=Wi)(k:∀a b c,f a b c=Wi->P (.UnaryOp a b c)):P e:=(pk h).elim λc=>@UK.elim (λe=>∀c,@UK.elim (λ_=>Bool) e c f=Wi->P e) e c (λa b c _=>k a b c) c
abbrev eO(e:Expr)(f:Expr->List TX->List Expr->Pos->Bool):Bool:=if h:e.ctorIdx=15 then @UL.elim (λ_=>Bool) e h f else Wj
@[elab_as_elim]
theorem gv{P:Expr->Prop}(e:Expr){f:Expr->List TX->List Expr->Pos->Bool}(h:eO e f=Wi)(k:∀a b c d,f a b c d=Wi->P (.Compare a b c d)):P e:=(pk h).elim λc=>@UL.elim (λe=>∀c,@UL.elim (λ_=>Bool) e c f=Wi->P e) e c (λa b c d _=>k a b c d) c
abbrev fE(e:Expr)(f:BoolOp->List Expr->Pos->Bool):Bool:=if h:e.ctorIdx=0 then @Vm.elim (λ_=>Bool) e h f else Wj
@[elab_as_elim]
theorem iO{P:Expr->Prop}(e:Expr){f:BoolOp->List Expr->Pos->Bool}(h:fE e f=Wi)(k:∀a b c,f a b c=Wi->P (.BoolOp a b c)):P e:=(pk h).elim λc=>@Vm.elim (λe=>∀c,@Vm.elim (λ_=>Bool) e c f=Wi->P e) e c (λa b c _=>k a b c) c
abbrev wD(e:Expr)(f:Expr->Expr->Expr->Pos->Bool):Bool:=if h:e.ctorIdx=5 then @VM.elim (λ_=>Bool) e h f else Wj
@[elab_as_elim]
theorem DK{P:Expr->Prop}(e:Expr){f:Expr->Expr->Expr->Pos->Bool}(h:wD e f=Wi)(k:∀a b c d,f a b c d=Wi->P (.IfExp a b c d)):P e:=(pk h).elim λc=>@VM.elim (λe=>∀c,@VM.elim (λ_=>Bool) e c f=Wi->P e) e c (λa b c d _=>k a b c d) c
abbrev eP(e:Expr)(f:List Expr->Nat->Pos->Bool):Bool:=if h:e.ctorIdx=25 then @VN.elim (λ_=>Bool) e h f else Wj
@[elab_as_elim]
theorem fF{P:Expr->Prop}(e:Expr){f:List Expr->Nat->Pos->Bool}(h:eP e f=Wi)(k:∀a b c,f a b c=Wi->P (.Tuple a b c)):P e:=(pk h).elim λc=>@VN.elim (λe=>∀c,@VN.elim (λ_=>Bool) e c f=Wi->P e) e c (λa b c _=>k a b c) c
abbrev Af(e:Expr)(f:List Expr->Pos->Bool):Bool:=if h:e.ctorIdx=24 then @VS.elim (λ_=>Bool) e h f else Wj
@[elab_as_elim]
theorem Fl{P:Expr->Prop}(e:Expr){f:List Expr->Pos->Bool}(h:Af e f=Wi)(k:∀a b,f a b=Wi->P (.List a b)):P e:=(pk h).elim λc=>@VS.elim (λe=>∀c,@VS.elim (λ_=>Bool) e c f=Wi->P e) e c (λa b _=>k a b) c
abbrev dL(e:Expr)(f:Expr->Expr->Pos->Bool):Bool:=if h:e.ctorIdx=21 then @Tv.elim (λ_=>Bool) e h f else Wj
@[elab_as_elim]
theorem gw{P:Expr->Prop}(e:Expr){f:Expr->Expr->Pos->Bool}(h:dL e f=Wi)(k:∀a b c,f a b c=Wi->P (.Subscript a b c)):P e:=(pk h).elim λc=>@Tv.elim (λe=>∀c,@Tv.elim (λ_=>Bool) e c f=Wi->P e) e c (λa b c _=>k a b c) c
abbrev uk(e:Expr)(f:Expr->List Expr->List SF->Pos->Bool):Bool:=if h:e.ctorIdx=16 then @VT.elim (λ_=>Bool) e h f else Wj
@[elab_as_elim]
theorem Ag{P:Expr->Prop}(e:Expr){f:Expr->List Expr->List SF->Pos->Bool}(h:uk e f=Wi)(k:∀a b c d,f a b c d=Wi->P (.Call a b c d)):P e:=(pk h).elim λc=>@VT.elim (λe=>∀c,@VT.elim (λ_=>Bool) e c f=Wi->P e) e c (λa b c d _=>k a b c d) c
abbrev kA(e:Expr)(f:Expr->Str->Pos->Bool):Bool:=if h:e.ctorIdx=20 then @Tw.elim (λ_=>Bool) e h f else Wj
@[elab_as_elim]
theorem um{P:Expr->Prop}(e:Expr){f:Expr->Str->Pos->Bool}(h:kA e f=Wi)(k:∀a b c,f a b c=Wi->P (.Attribute a b c)):P e:=(pk h).elim λc=>@Tw.elim (λe=>∀c,@Tw.elim (λ_=>Bool) e c f=Wi->P e) e c (λa b c _=>k a b c) c
abbrev wF(e:Expr)(f:Option Expr->Option Expr->Option Expr->Pos->Bool):Bool:=if h:e.ctorIdx=26 then @VO.elim (λ_=>Bool) e h f else Wj
@[elab_as_elim]
theorem DL{P:Expr->Prop}(e:Expr){f:Option Expr->Option Expr->Option Expr->Pos->Bool}(h:wF e f=Wi)(k:∀a b c d,f a b c d=Wi->P (.Slice a b c d)):P e:=(pk h).elim λc=>@VO.elim (λe=>∀c,@VO.elim (λ_=>Bool) e c f=Wi->P e) e c (λa b c d _=>k a b c d) c
abbrev nj(e:Expr)(f:Expr->List MQ->Scope->Pos->Bool):Bool:=if h:e.ctorIdx=8 then @U2.elim (λ_=>Bool) e h f else Wj
@[elab_as_elim]
theorem wG{P:Expr->Prop}(e:Expr){f:Expr->List MQ->Scope->Pos->Bool}(h:nj e f=Wi)(k:∀a b c d,f a b c d=Wi->P (.ListComp a b c d)):P e:=(pk h).elim λc=>@U2.elim (λe=>∀c,@U2.elim (λ_=>Bool) e c f=Wi->P e) e c (λa b c d _=>k a b c d) c
abbrev uo(e:Expr)(f:List (Option Expr)->List Expr->Pos->Bool):Bool:=if h:e.ctorIdx=6 then @VU.elim (λ_=>Bool) e h f else Wj
@[elab_as_elim]
theorem Ah{P:Expr->Prop}(e:Expr){f:List (Option Expr)->List Expr->Pos->Bool}(h:uo e f=Wi)(k:∀a b c,f a b c=Wi->P (.Dict a b c)):P e:=(pk h).elim λc=>@VU.elim (λe=>∀c,@VU.elim (λ_=>Bool) e c f=Wi->P e) e c (λa b c _=>k a b c) c
abbrev gy(e:Stmt)(f:List Expr->Expr->Pos->Bool):Bool:=if h:e.ctorIdx=5 then @Vn.elim (λ_=>Bool) e h f else Wj
@[elab_as_elim]
theorem jq{P:Stmt->Prop}(e:Stmt){f:List Expr->Expr->Pos->Bool}(h:gy e f=Wi)(k:∀a b c,f a b c=Wi->P (.Assign a b c)):P e:=(pk h).elim λc=>@Vn.elim (λe=>∀c,@Vn.elim (λ_=>Bool) e c f=Wi->P e) e c (λa b c _=>k a b c) c
abbrev jc(e:Stmt)(f:Expr->Qn->Expr->Pos->Bool):Bool:=if h:e.ctorIdx=7 then @Tx.elim (λ_=>Bool) e h f else Wj
@[elab_as_elim]
theorem rp{P:Stmt->Prop}(e:Stmt){f:Expr->Qn->Expr->Pos->Bool}(h:jc e f=Wi)(k:∀a b c d,f a b c d=Wi->P (.AugAssign a b c d)):P e:=(pk h).elim λc=>@Tx.elim (λe=>∀c,@Tx.elim (λ_=>Bool) e c f=Wi->P e) e c (λa b c d _=>k a b c d) c
abbrev wH(e:Stmt)(f:Expr->Pos->Bool):Bool:=if h:e.ctorIdx=24 then @VW.elim (λ_=>Bool) e h f else Wj
@[elab_as_elim]
theorem DM{P:Stmt->Prop}(e:Stmt){f:Expr->Pos->Bool}(h:wH e f=Wi)(k:∀a b,f a b=Wi->P (.Expr a b)):P e:=(pk h).elim λc=>@VW.elim (λe=>∀c,@VW.elim (λ_=>Bool) e c f=Wi->P e) e c (λa b _=>k a b) c
abbrev q8(e:Stmt)(f:Option Expr->Pos->Bool):Bool:=if h:e.ctorIdx=3 then @Vo.elim (λ_=>Bool) e h f else Wj
@[elab_as_elim]
theorem zw{P:Stmt->Prop}(e:Stmt){f:Option Expr->Pos->Bool}(h:q8 e f=Wi)(k:∀a b,f a b=Wi->P (.Return a b)):P e:=(pk h).elim λc=>@Vo.elim (λe=>∀c,@Vo.elim (λ_=>Bool) e c f=Wi->P e) e c (λa b _=>k a b) c
abbrev DN(e:Stmt)(f:Expr->List Stmt->List Stmt->Pos->Bool):Bool:=if h:e.ctorIdx=12 then @Stmt.If.elim (λ_=>Bool) e h f else Wj
@[elab_as_elim]
theorem Gk{P:Stmt->Prop}(e:Stmt){f:Expr->List Stmt->List Stmt->Pos->Bool}(h:DN e f=Wi)(k:∀a b c d,f a b c d=Wi->P (.If a b c d)):P e:=(pk h).elim λc=>@Stmt.If.elim (λe=>∀c,@Stmt.If.elim (λ_=>Bool) e c f=Wi->P e) e c (λa b c d _=>k a b c d) c
abbrev Ai(e:Stmt)(f:Expr->Expr->List Stmt->List Stmt->Pos->Bool):Bool:=if h:e.ctorIdx=9 then @Stmt.For.elim (λ_=>Bool) e h f else Wj
@[elab_as_elim]
theorem Fm{P:Stmt->Prop}(e:Stmt){f:Expr->Expr->List Stmt->List Stmt->Pos->Bool}(h:Ai e f=Wi)(k:∀a b c d e,f a b c d e=Wi->P (.For a b c d e)):P e:=(pk h).elim λc=>@Stmt.For.elim (λe=>∀c,@Stmt.For.elim (λ_=>Bool) e c f=Wi->P e) e c (λa b c d e _=>k a b c d e) c
abbrev s9(e:Stmt)(f:Expr->List Stmt->List Stmt->Pos->Bool):Bool:=if h:e.ctorIdx=11 then @VP.elim (λ_=>Bool) e h f else Wj
@[elab_as_elim]
theorem BJ{P:Stmt->Prop}(e:Stmt){f:Expr->List Stmt->List Stmt->Pos->Bool}(h:s9 e f=Wi)(k:∀a b c d,f a b c d=Wi->P (.While a b c d)):P e:=(pk h).elim λc=>@VP.elim (λe=>∀c,@VP.elim (λ_=>Bool) e c f=Wi->P e) e c (λa b c d _=>k a b c d) c
abbrev wJ(e:Stmt)(f:Pos->Bool):Bool:=if h:e.ctorIdx=25 then @VX.elim (λ_=>Bool) e h f else Wj
@[elab_as_elim]
theorem DO{P:Stmt->Prop}(e:Stmt){f:Pos->Bool}(h:wJ e f=Wi)(k:∀a,f a=Wi->P (.Pass a)):P e:=(pk h).elim λc=>@VX.elim (λe=>∀c,@VX.elim (λ_=>Bool) e c f=Wi->P e) e c (λa _=>k a) c
abbrev sd(e:Stmt)(f:Pos->Bool):Bool:=if h:e.ctorIdx=26 then @VQ.elim (λ_=>Bool) e h f else Wj
@[elab_as_elim]
theorem BK{P:Stmt->Prop}(e:Stmt){f:Pos->Bool}(h:sd e f=Wi)(k:∀a,f a=Wi->P (.Break a)):P e:=(pk h).elim λc=>@VQ.elim (λe=>∀c,@VQ.elim (λ_=>Bool) e c f=Wi->P e) e c (λa _=>k a) c
abbrev kB(e:Stmt)(f:Pos->Bool):Bool:=if h:e.ctorIdx=27 then @U3.elim (λ_=>Bool) e h f else Wj
@[elab_as_elim]
theorem uq{P:Stmt->Prop}(e:Stmt){f:Pos->Bool}(h:kB e f=Wi)(k:∀a,f a=Wi->P (.Continue a)):P e:=(pk h).elim λc=>@U3.elim (λe=>∀c,@U3.elim (λ_=>Bool) e c f=Wi->P e) e c (λa _=>k a) c
abbrev lv0{α:Type}(xs:List α)(b:Bool):Bool:=xs.isEmpty&&b
abbrev lvc{α:Type}(xs:List α)(f:α->List α->Bool):Bool:=match xs with
 |y::r=>f y r
 |[]=>Wj
abbrev lv1{α:Type}(xs:List α)(f:α->Bool):Bool:=lvc xs λy r=>lv0 r (f y)
abbrev lv2{α:Type}(xs:List α)(f:α->α->Bool):Bool:=lvc xs λy r=>lv1 r (f y)
abbrev os{α:Type}(o:Option α)(f:α->Bool):Bool:=match o with
 |some x=>f x
 |none=>Wj
abbrev on{α:Type}(o:Option α)(b:Bool):Bool:=o.isNone&&b
@[elab_as_elim]
theorem i3{α:Type}{P:List α->Prop}(xs:List α){b:Bool}(h:lv0 xs b=Wi)(k:b=Wi->P []):P xs:=by
 cases xs with
 |nil=>show k h
 |cons _ _=>cases h
@[elab_as_elim]
theorem DP{α:Type}{P:List α->Prop}(xs:List α){f:α->List α->Bool}(h:lvc xs f=Wi)(k:∀y r,f y r=Wi->P (y::r)):P xs:=by
 cases xs with
 |nil=>cases h
 |cons y r=>show k y r h
@[elab_as_elim]
theorem cR{α:Type}{P:List α->Prop}(xs:List α){f:α->Bool}(h:lv1 xs f=Wi)(k:∀y,f y=Wi->P [y]):P xs:=DP xs h λy r h=>i3 r h λh=>k y h
@[elab_as_elim]
theorem fy{α:Type}{P:List α->Prop}(xs:List α){f:α->α->Bool}(h:lv2 xs f=Wi)(k:∀y z,f y z=Wi->P [y,z]):P xs:=DP xs h λy r h=>cR r h λz h=>k y z h
@[elab_as_elim]
theorem jos{α:Type}{P:Option α->Prop}(o:Option α){f:α->Bool}(h:os o f=Wi)(k:∀x,f x=Wi->P (Z x)):P o:=by
 cases o with
 |none=>cases h
 |some x=>show k x h
@[elab_as_elim]
theorem jon{α:Type}{P:Option α->Prop}(o:Option α){b:Bool}(h:on o b=Wi)(k:b=Wi->P N2):P o:=by
 cases o with
 |none=>show k h
 |some x=>cases h
def bY{a b:Bool}(h:(a&&b)=Wi):a=Wi/\b=Wi:=by rwa[D1]at h
abbrev dq(e:Expr)(g:Str->List Expr->Bool):Bool:=uk e λf xs ks _=>lv0 ks (dJ f λx _=>g x xs)
@[elab_as_elim]
theorem eQ{P:Expr->Prop}(e:Expr){g:Str->List Expr->Bool}(h:dq e g=Wi)(k:∀x xs p pos,g x xs=Wi->P (.Call (.Name x p) xs [] pos)):P e:=Ag e h λf xs ks pos h=>i3 ks h λh=>fe f h λx p h=>k x xs p pos h
abbrev oj(e:Expr)(g:Expr->Str->List Expr->Pos->Pos->Bool):Bool:=uk e λf xs ks p=>lv0 ks (kA f λo n q=>g o n xs q p)
@[elab_as_elim]
theorem ut{P:Expr->Prop}(e:Expr){g:Expr->Str->List Expr->Pos->Pos->Bool}(h:oj e g=Wi)(k:∀o n xs q p,g o n xs q p=Wi->P (.Call (.Attribute o n q) xs [] p)):P e:=Ag e h λf xs ks pos h=>i3 ks h λh=>um f h λo n q h=>k o n xs q pos h
abbrev iSl(e:Expr)(g:Expr->Option Expr->Option Expr->Option Expr->Bool):Bool:=dL e λx y _=>wF y λl u s _=>g x l u s
@[elab_as_elim]
theorem jSl{P:Expr->Prop}(e:Expr){g:Expr->Option Expr->Option Expr->Option Expr->Bool}(h:iSl e g=Wi)(k:∀x l u s p pos,g x l u s=Wi->P (.Subscript x (.Slice l u s p) pos)):P e:=gw e h λx y pos h=>DL y h λl u s p h=>k x l u s p pos h
mutual
noncomputable def okG:MG->Ctx->Expr->Bool
 |.name i,C,e=>dJ e λx _=>decide (C.N[i]?=Z x)&&uj C.sc x&&(C.sc.names.lookup x==Z .local || C.fn.contains x)
 |.tup gs,C,e=>eP e λes _ _=>okGs gs C es
noncomputable def okGs:MGs->Ctx->List Expr->Bool
 |.nil,_,es=>es.isEmpty
 |.cons g r,C,es=>match es with
  |e::es=>b4 e&&okG g C e&&okGs r C es
  |[]=>Wj
end
mutual
noncomputable def okE:ME->Ctx->Expr->Bool
 |.var i,C,e=>dJ e λx _=>decide (C.N[i]?=Z x)&&zt C.sc x && !(x==("__debug__":Str)) && !(x==("__classdict__":Str))
 |.int i,_,e=>dm e λc _ _=>decide (c=.int i)
 |.bl i,_,e=>dm e λc _ _=>decide (c=.bool i)
 |.non,_,e=>dm e λc _ _=>decide (c=.none)
 |.str i,_,e=>dm e λc _ _=>decide (c=.str i)
 |.bin op a b,C,e=>wB e λl o r _=>decide (o=opO op)&&okE a C l&&okE b C r
 |.neg a,C,e=>gu e λo x _=>decide (o=.USub)&&okE a C x
 |.cmp op a b,C,e=>eO e λl os rs _=>lv1 os λo=>lv1 rs λr=>decide (o=jm op)&&okE a C l&&okE b C r && !(Q7 o r)
 |.and es,C,e=>fE e λo xs _=>decide (o=.And) && !xs.isEmpty&&okEs es C xs
 |.or es,C,e=>fE e λo xs _=>decide (o=.Or) && !xs.isEmpty&&okEs es C xs
 |.not a,C,e=>gu e λo x _=>decide (o=.Not)&&okE a C x
 |.ite c a b,C,e=>wD e λt x y _=>okT c C t&&okE a C x&&okE b C y
 |.tup es,C,e=>eP e λxs _ _=>okEs es C xs
 |.lst es,C,e=>Af e λxs _=>okEs es C xs
 |.ix a b,C,e=>dL e λx y _=>lp y&&okE a C x&&okE b C y
 |.sl a lo hi,C,e=>iSl e λx l u s=>on s (okE a C x&&okO lo C l&&okO hi C u)
 |.call f es,C,e=>dq e λx xs=>decide (C.Γ[f]?=Z x)&&glB C.sc x && !(x==("__debug__":Str))&&okEs es C xs
 |.blt f es,C,e=>dq e λx xs=>decide (x=q0 f)&&glB C.sc x && !xs.isEmpty&&okEs es C xs
 |.isin a T,C,e=>dq e λx xs=>lv2 xs λy w=>dJ w λz _=>decide (x="isinstance")&&glB C.sc x&&glB C.sc z&&decide (z=Mf T)&&decide (T∈["bool","int","str","tuple","list","dict"])&&b4 y&&okE a C y
 |.chain op op' a b c,C,e=>eO e λl os rs _=>lv2 os λo o'=>lv2 rs λr q=>decide (o=jm op)&&decide (o'=jm op')&&okE a C l&&okE b C r&&okE c C q && !(Se [o,o'] [r,q])
 |.glob x k,C,e=>dJ e λy _=>decide (y=x)&&glB C.sc y&&decide ((x,k)∈C.cs) && !(x==("__debug__":Str))
 |.d1 k v,C,e=>uo e λks vs _=>lv1 ks λx=>os x λx=>lv1 vs λy=>okE k C x&&okE v C y
 |.dnew _,_,e=>uo e λks vs _=>lv0 ks (lv0 vs Wi)
 |.dget o k x,C,e=>oj e λy n xs ap cp=>lv2 xs λe1 e2=>decide (n="get")&&iN y&&(ap.endLine==cp.line)&&b4 e1&&b4 e2&&okE o C y&&okE k C e1&&okE x C e2
 |.meth m o a,C,e=>oj e λx n xs ap cp=>lv1 xs λy=>decide (n=DI m)&&iN x&&(ap.endLine==cp.line)&&b4 y&&okE o C x&&okE a C y
 |.meth0 m o,C,e=>oj e λx n xs ap cp=>lv0 xs (decide (n=BI m)&&iN x&&(ap.endLine==cp.line)&&okE o C x)
 |.comp fr N' c,C,e=>nj e λelt gens sc _=>zu sc C.sc C.N N' fr&&okC c C ⟨C.Γ,N',jn sc C.sc,(sc.names.filter (·.2==.cell)).map (·.1),C.cs⟩ gens elt
noncomputable def okEs:MEs->Ctx->List Expr->Bool
 |.nil,_,es=>es.isEmpty
 |.cons m r,C,es=>match es with
  |e::es=>b4 e&&okE m C e&&okEs r C es
  |[]=>Wj
noncomputable def okO:MO->Ctx->Option Expr->Bool
 |.none,_,e=>e.isNone
 |.some m,C,e=>match e with
  |some e=>okE m C e
  |none=>Wj
noncomputable def okT:MT->Ctx->Expr->Bool
 |.tru m,C,e=>wz e&&okE m C e
 |.cmp op a b,C,e=>eO e λl os rs _=>lv1 os λo=>lv1 rs λr=>decide (o=jm op)&&okE a C l&&okE b C r && !(Q7 o r)
 |.chain op op' a b c,C,e=>eO e λl os rs _=>lv2 os λo o'=>lv2 rs λr q=>decide (o=jm op)&&decide (o'=jm op')&&okE a C l&&okE b C r&&okE c C q && !(Se [o,o'] [r,q])
 |.and ts,C,e=>fE e λo xs _=>decide (o=.And) && !xs.isEmpty&&okTs ts C xs
 |.or ts,C,e=>fE e λo xs _=>decide (o=.Or) && !xs.isEmpty&&okTs ts C xs
 |.not t,C,e=>gu e λo x _=>decide (o=.Not)&&okT t C x
noncomputable def okTs:MTs->Ctx->List Expr->Bool
 |.nil,_,es=>es.isEmpty
 |.cons m r,C,es=>match es with
  |e::es=>okT m C e&&okTs r C es
  |[]=>Wj
noncomputable def okI:MI->Ctx->Expr->Expr->Bool
 |.seq m,C,_,e=>oi e&&okE m C e
 |.keys m,C,_,e=>oi e&&okE m C e
 |.rng1 a,C,_,e=>dq e λx xs=>lv1 xs λy=>decide (x="range")&&glB C.sc x&&b4 y&&okE a C y
 |.rng2 a b,C,_,e=>dq e λx xs=>lv2 xs λy z=>decide (x="range")&&glB C.sc x&&b4 y&&b4 z&&okE a C y&&okE b C z
 |.enum a,C,t,e=>dq e λx xs=>lv1 xs λy=>eP t λ_ _ _=>decide (x="enumerate")&&glB C.sc x&&b4 y&&okE a C y
 |.zip a b,C,t,e=>dq e λx xs=>lv2 xs λy z=>eP t λ_ _ _=>decide (x="zip")&&glB C.sc x&&b4 y&&b4 z&&okE a C y&&okE b C z
noncomputable def okC:MC->Ctx->Ctx->List MQ->Expr->Bool
 |.last src g ifs m,Cs,C,gens,elt=>match gens with
  |[⟨t,it,fs,a⟩]=>decide (a=0)&&okI src Cs t it&&okG g C t&&okTs ifs C fs&&okE m C elt
  |_=>Wj
 |.more src g ifs rest,Cs,C,gens,elt=>match gens with
  |⟨t,it,fs,a⟩::g2::gs=>decide (a=0)&&okI src Cs t it&&okG g C t&&okTs ifs C fs&&okC rest C C (g2::gs) elt
  |_=>Wj
end
abbrev bm(sc:Scope)(ts:List Expr):List Str:=ts.filterMap fun
 |.Name id pos=>if sc.names.lookup id==Z .local&&pos.line==(ts.head?.map (·.pos.line)).getD 0 then Z id else N2
 |_=>N2
abbrev uu(sc:Scope)(ts vs:List Expr):Bool:=!(ts.length==2 || ts.length==3) || vs.length != ts.length || (bm sc ts).length != ts.length || (bm sc ts).eraseDups.length != (bm sc ts).length || vs.all (U4 8)
abbrev uw(C:Ctx)(i:Nat)(x:Str):Bool:=decide (C.N[i]?=Z x)&&decide (C.sc.names.lookup x=Z .local)
abbrev uz(sc:Scope)(ts vs:List Expr)(ns:List Str):Bool:=!(!(ts.length==2 || ts.length==3) || vs.length != ts.length) && !(vs.any λ| .Starred ..=>Wi|_=>Wj)&&decide (bm sc ts=ns) && !((bm sc ts).length != ts.length || (bm sc ts).eraseDups.length != (bm sc ts).length) && !(vs.all (U4 8)) && !(vs.all (constantsAlone 8))
abbrev Aj(sc:Scope)(tg e:Expr):Bool:=match tg,e with
 |.Tuple ts _ _,.Tuple vs _ _=>uu sc ts vs
 |.Tuple ..,_=>Wi
 |.Name ..,_=>Wi
 |_,_=>Wj
abbrev DQ(sc:Scope)(x:Str)(px:Pos)(e:Expr):Bool:=match e with
 |.DictComp _ _ _ s _=>!(sc.names.lookup x==Z .local&&px.line==e.pos.line && !(s.names.any λ(n,k)=>n==x&&(k==.local || k==.cell)))
 |_=>Wi
abbrev uA(sc:Scope)(x:Str)(px:Pos)(e:Expr):Bool:=match e with
 |.ListComp _ _ s _=>sc.names.lookup x==Z .local&&px.line==e.pos.line && !(s.names.any λ(n,k)=>n==x&&(k==.local || k==.cell))
 |_=>Wj
mutual
noncomputable def okS:MS->Ctx->Stmt->Bool
 |.asg g m,C,s=>gy s λts e _=>lv1 ts λtg=>okG g C tg&&okE m C e&&Aj C.sc tg e&&(match tg with|.Name x px=>DQ C.sc x px e|_=>kz e)
 |.par i j a b,C,s=>gy s λts e _=>lv1 ts λtg=>eP tg λts _ _=>eP e λes _ _=>lv2 ts λt u=>lv2 es λe f=>dJ t λx px=>dJ u λy py=>uw C i x&&uw C j y&&decide (i≠j)&&b4 e&&b4 f&&okE a C e&&okE b C f&&uz C.sc [.Name x px,.Name y py] [e,f] [x,y]
 |.put o i m,C,s=>gy s λts e _=>lv1 ts λtg=>dL tg λx y _=>lp y&&kz e&&okE o C x&&okE i C y&&okE m C e
 |.aug i op m,C,s=>jc s λt o e _=>dJ t λx _=>decide (o=opO op)&&(match op with|.add|.sub|.mul=>Wi|_=>Wj)&&decide (C.N[i]?=Z x)&&uj C.sc x&&(C.sc.names.lookup x==Z .local || C.fn.contains x)&&okE m C e
 |.drop m,C,s=>wH s λe _=>kz e&&okE m C e
 |.ret m,C,s=>q8 s λo _=>os o λe=>okE m C e
 |.ite c a b,C,s=>DN s λt x y _=>okT c C t&&okSs a C x&&okSs b C y
 |.for g src b,C,s=>Ai s λtg it body els _=>lv0 els (oi it&&okG g C tg&&okI src C tg it&&okSs b C body)
 |.while c b,C,s=>s9 s λt body els _=>lv0 els (okT c C t&&okSs b C body)
 |.frz _ m,C,s=>okS m C s
 |.pass,_,s=>wJ s λ_=>Wi
 |.brk,_,s=>sd s λ_=>Wi
 |.cnt,_,s=>kB s λ_=>Wi
noncomputable def okSs:MSs->Ctx->List Stmt->Bool
 |.nil,_,ss=>ss.isEmpty
 |.cons m r,C,ss=>match ss with
  |s::ss=>okS m C s&&okSs r C ss
  |[]=>Wj
end
def ao(h:b4 e=Wi):LQ (e::es) env=(Wj,eval e env)::LQ es env:=by cases e<;>first|rfl|(cases h;done)
def nk(h:b4 e=Wi):O8 (e::es) env=(Wj,assign e env)::O8 es env:=by cases e<;>first|rfl|(cases h;done)
def uB(h:wz e=Wi):∀whole,isTrue e env whole=(do let v <-whole;RT e.pos;holding [v] (truthy v)):=by
 intro w
 cases e<;>first|rfl|(cases h;done)
def zx(h:lp e=Wi):kS e:=by
 intro o i
 cases e<;>first|rfl|(cases h;done)
def q9(h:oi e=Wi):∀x,Oj e env x=pure x:=by
 intro x
 cases e<;>first|rfl|(cases h;done)
def gC{n:Str}(h:iN e=Wi):S0 e n env (eval e env)=eval e env:=by
 cases e<;>first
  |rfl
  | (rename_i f xs _ _;cases xs with
     |nil=>cases h
     |cons _ _=>cases f<;>rfl)
def lq{t:Option Expr}{l:Nat}(h:kz e=Wi):Qh e t l env=pure Wj:=by cases e<;>first|rfl|(cases h;done)
end
variable{f:Nat}{x:Str}{pos:Pos}{sc:Scope}{fr:List (Option Nat)}
section
abbrev lSp(K:Frag)(r:RAd):Sp:=λvs H Q _=>lR K r vs H Q
structure Good(C:Ctx)(Φ:Phi)(k:Nat)(X:Cx):Prop where
 hx:∀e s,X.xe e s->False
 calm:X.calm=Wi
 N:X.N=C.N
 sc:X.env.scope=C.sc
 nd:X.N.Nodup
 fn:∀x∈C.fn,X.fn x=Wi
 room:Room k X.A
 mgB:∀x∈bltNames,X.mg x=N2
 fns:∀(i:Nat) (x:Str),C.Γ[i]?=Z x->∃f fd ps,X.mg x=Z (.ref f)/\OT X.K MW x=Z (Z (.ref f))/\PU X.K (.ref f)=Wi/\Binds X.K fd ps []/\eE X.prog X.w X.K X.mg X.base CX0 k f fd ps (lSp X.K (Φ i))
 mono:∀f,aV (Φ f)
 cs:∀x d,(x,d)∈C.cs->∃u,X.mg x=Z u/\GV X.K d u
section
variable{C:Ctx}{Φ:Phi}{k:Nat}{X:Cx}
def Good.units(G:Good C Φ k X):X.A.units+64<Ol:=G.room.units
def Good.gl(G:Good C Φ k X)(h:glB C.sc x=Wi):Gl X x:=by change X.env.scope.names.lookup x=_;rw[G.sc];simpa[glB]using h
def Good.vis(G:Good C Φ k X)(h:zt C.sc x=Wi):Vis X.env.scope x:=by
 unfold Vis;rw[G.sc];simp[zt]at h
 rcases h with(h|h)|h
 ·show .inl h
 ·show .inr (.inl h)
 ·show .inr (.inr h)
def Good.loc(G:Good C Φ k X)(h:uj C.sc x=Wi):Loc X.env.scope x:=by unfold Loc;rw[G.sc];simpa[uj]using h
def Good.own(G:Good C Φ k X)(h:(C.sc.names.lookup x==Z .local || C.fn.contains x)=Wi):X.fn x=Wi∨X.env.scope.names.lookup x=Z .local:=by
 rw[G.sc];simp at h
 rcases h with h|h
 ·show .inr h
 ·show .inl (G.fn x h)
def DR(G:Good C Φ k X):∀o:BOp,OpR X (NL (opO o)) (l2 X.K (opB o))
 |.add=>yq|.sub=>yr|.mul=>yt|.fdiv=>vC|.mod=>yv|.pow=>yw
def dW(G:Good C Φ k X):∀o:COp,OpR X (Mt (jm o)) (l2 X.K (opC o))
 |.eq=>AX (by let:=G.units;lia)|.ne=>AY (by let:=G.units;lia)|.lt=>B3|.le=>B4|.gt=>B5|.ge=>B6| .isn=>z9| .eqD=>zn (by let:=G.units;lia)| .ninD=>ww (by let:=G.units;lia)
def DS(G:Good C Φ k X){f:BF}{t:TAd}{p:Pos}(mt:bj t)(q:Gl X (q0 f))(z:PA X (e::es) (lA X.K t))(he:LQ (e::es) X.env=(Wj,eval e X.env)::LQ es X.env)(j:(Qe pos (LQ es X.env)).any (·.1)=Wj):PE X (.Call (.Name (q0 f) p) (e::es) [] pos) (lE X.K (wAr (opF f) t)):=by
 cases f with
 |lenT=>show PE.imp (bS rl q (G.mgB _ (·)) PySem.boot_len z (·) (·) he j) (bC ni mt)
 |len=>show PE.imp (bS tI q (G.mgB _ (·)) PySem.boot_len z (·) (·) he j) (bC oW mt)
 |abs=>show PE.imp (bS tJ q (G.mgB _ (·)) (by decide +kernel) z (·) (·) he j) (bC oZ mt)
 |max2=>show PE.imp (bS (qX G.calm) q (G.mgB _ (·)) (by decide +kernel) z (·) (·) he j) (bC mG mt)
 |min2=>show PE.imp (bS (qY G.calm) q (G.mgB _ (·)) (by decide +kernel) z (·) (·) he j) (bC mH mt)
 |int=>show PE.imp (eV tK q (G.mgB _ (·)) (by decide +kernel) z (·) (·) he j) (bC p9 mt)
 |list=>show PE.imp (eV qZ q (G.mgB _ (·)) (by decide +kernel) z (·) (·) he j) (bC mJ mt)
 |tuple=>show PE.imp (eV ph q (G.mgB _ (·)) (by decide +kernel) z (·) (·) he j) (bC jV mt)
 |all=>show PE.imp (bS (u8 G.calm) q (G.mgB _ (·)) (by decide +kernel) z (·) (·) he j) (bC pC mt)
 |any=>show PE.imp (bS (u9 G.calm) q (G.mgB _ (·)) (by decide +kernel) z (·) (·) he j) (bC pD mt)
 |dict=>show PE.imp (eV (rj (by let:=G.units;lia) G.calm) q (G.mgB _ (·)) (by decide +kernel) z (·) (·) he j) (bC ng mt)
 |sortk=>show PE.imp (bS (pX (by let:=G.units;lia) G.calm) q (G.mgB _ (·)) (by decide +kernel) z (·) (·) he j) (bC ky mt)
def BL(G:Good C Φ k X){t:TAd}{p:Pos}(mt:bj t)(hf:C.Γ[f]?=Z x)(z:Gl X x)(j:(x==("__debug__":Str))=Wj)(B:PA X (e::es) (lA X.K t))(he:LQ (e::es) X.env=(Wj,eval e X.env)::LQ es X.env)(q:(Qe pos (LQ es X.env)).any (·.1)=Wj):PE X (.Call (.Name x p) (e::es) [] pos) (lE X.K (wAr (Φ f) t)):=by
 let⟨a,fd,ps,hm,_,J,L,F⟩:=G.fns f x hf;calc PE.imp (AI F G.room z hm J L .nil A2 B j he q) λσ H Q h=>?_;let h2:=bC (G.mono f) mt σ H Q h;let:(λvs H1=>lSp X.K (Φ f) (vs++[]) H1 Q E0)=λvs H1=>lR X.K (Φ f) vs H1 Q:=by funext vs H1;rw[MB];rfl
 change(lA X.K t) σ H _;rw[this];show h2
def zy(G:Good C Φ k X){p:Pos}(hf:C.Γ[f]?=Z x)(z:Gl X x)(j:(x==("__debug__":Str))=Wj):PE X (.Call (.Name x p) [] [] pos) (lE X.K (wAr (Φ f) bx)):=by let⟨a,fd,ps,hm,_,B,J,F⟩:=G.fns f x hf;calc PE.imp (xW F G.room z hm B J .nil A2 j) λσ H Q h=>?_;let⟨ρ,M,rs,rm,q⟩:=h;show⟨[],M,rm,RDs.nil,q⟩
def jr{env:Env}{pos:Pos}:∀{es:List Expr},es.all b4=Wi->(Qe pos (LQ es env)).any (·.1)=Wj
 |[],_=>rfl
 |e::es,h=>by
  simp only[P4,D1]at h;rw[ao h.1];change(Wj || (Qe pos (LQ es env)).any (·.1))=Wj
  rw[jr h.2];rfl
def i4:∀{ms:MEs} {es:List Expr},okEs ms C es=Wi->es.all b4=Wi
 |.nil,[],_=>rfl
 |.nil,_::_,h=>by simp[okEs]at h
 |.cons m r,[],h=>by simp[okEs]at h
 |.cons m r,e::es,h=>by simp only[okEs,D1]at h;simp only[P4,D1];show⟨h.1.1,i4 h.2⟩
def se:∀{gs:MGs} {es:List Expr},okGs gs C es=Wi->∀ds ρ ρ',bGs gs ds ρ=Z ρ'->ds.length=es.length
 |.nil,es,h,ds,ρ,ρ',e=>by
  simp[okGs]at h;subst h;rw[bGs]at e
  cases ds with
  |nil=>rfl
  |cons _ _=>cases e
 |.cons g r,[],h,_,_,_,_=>by simp[okGs]at h
 |.cons g r,x::es,h,ds,ρ,ρ',e=>by
  simp only[okGs,D1]at h;rw[bGs]at e
  cases ds with
  |nil=>cases e
  |cons d ds=>
   simp only[bM]at e
   cases e1:bG g d ρ with
   |none=>rw[e1]at e;cases e
   |some ρ1=>rw[e1]at e;simp[se h.2 ds ρ1 ρ' e]
def qa{env:Env}:∀{gs:MGs} {es:List Expr},okGs gs C es=Wi->(O8 es env).length=es.length/\(O8 es env).findIdx? (·.1)=N2
 |.nil,es,h=>by simp[okGs]at h;subst h;show⟨rfl,rfl⟩
 |.cons g r,[],h=>by simp[okGs]at h
 |.cons g r,x::es,h=>by
  simp only[okGs,D1]at h;let⟨a,b⟩:=qa (env:=env) h.2;rw[nk h.1.1];refine⟨by simp[a],?_⟩
  rw[List.findIdx?_cons];simp[b]
mutual
theorem sG(G:Good C Φ k X):∀(m:MG) (e:Expr),okG m C e=Wi->PG X e (lG X.K (bG m))
 |.name i,e,h=>by calc fe e h λx _ h=>?_;simp only[D1]at h;show Bi G.nd (by rw[G.N];show of_decide_eq_true h.1.1) (G.loc h.1.2) (G.own h.2)
 |.tup gs,e,h=>by calc fF e h λes _ _ h=>?_;rw[bG];let⟨a,b⟩:=qa (env:=X.env) h;show Do G.calm (se h) (sGs G gs _ h) a b
theorem sGs(G:Good C Φ k X):∀(m:MGs) (es:List Expr),okGs m C es=Wi->PGs X es (lGs X.K (bGs m))
 |.nil,es,h=>by simp[okGs]at h;subst h;show Bj
 |.cons g r,[],h=>by simp[okGs]at h
 |.cons g r,e::es,h=>by simp only[okGs,D1]at h;show yH (sG G g e h.1.2) (sGs G r es h.2) (by rw[nk h.1.1];rfl)
end
def PB.imp{F:Sem Fin->Sem Fin}{t t':TC}(h:PB X F t)(i:∀σ H N,t' σ H N->t σ H N):PB X F t':=λpins s σ H N k Q E I q hk=>h pins s σ H N k Q E I (i _ _ _ q) hk
def kC{osc:Scope}{oN N':List Str}(h:zu sc osc oN N' fr=Wi):bp sc osc oN N' fr:=by
 simp only[zu,D1,decide_eq_true_eq]at h;let⟨⟨⟨⟨⟨h1,h2⟩,F⟩,G⟩,J⟩,L⟩:=h;refine⟨h1,h2,F,λx hx e=>?_,J,λi j x hi hf=>?_⟩
 ·let z:=OG.mp G x hx;rw[e]at z;simpa using z
 ·let B:i<N'.length:=(L5.mp hi).1;let q:=OG.mp L i (LP.mpr B);rw[hf,hi]at q;simp only[D1,decide_eq_true_eq,P9]at q;let⟨a,y,O,e⟩:=q;show⟨a,by rw[<-e];show O⟩
def Good.blk(G:Good C Φ k X){N':List Str}(B:bp sc C.sc C.N N' fr)(s:J4)(H:Hp)(fp:List Wk):
 Good ⟨C.Γ,N',jn sc C.sc,(sc.names.filter (·.2==.cell)).map (·.1),C.cs⟩ Φ k (aO X sc N' s H fp):=by
 refine⟨λ_ _ h=>h,G.calm,rfl,?_,B.ndN,λx hx=>?_,G.room,G.mgB,G.fns,G.mono,G.cs⟩
 ·change relabel sc X.env=_;rw[rn,G.sc]
 ·let⟨y,q,e⟩:=L7.mp hx;let⟨h1,h2⟩:=LM.mp q;let⟨n,kd⟩:=y;let j:kd=.cell:=by simpa using h2
  subst j;let e':n=x:=e;subst e';change(sc.names.lookup n==Z .cell)=Wi;rw[aX B.nd h1];rfl
end
end
variable{C:Ctx}{tb:TCd}
section
section
variable{Φ:Phi}{k:Nat}
def dX{X:Cx}(G:Good C Φ k X){F:Sem Fin->Sem Fin}{p:Wk}{ifs:List Expr}{ts:List TTd}(mb:cq tb)(mt:∀t∈ts,aM t)(j:PB X F (lC X.K p tb))(q:Mh (λc t=>PT X c t) ifs (ts.map (lT X.K))):
 PB X (λk=>bF ifs X.env>>=λok=>if ok=Wi then F k else k) (lC X.K p (bw ts tb)):=
 PB.imp (yg G.hx j q) (jY mb mt)
def i5{m:MC}{Cs:Ctx}{g2:MQ}{gs:List MQ}{elt:Expr}(h:okC m Cs C (g2::gs) elt=Wi):g2.is_async=0:=by
 let⟨t,i,f,a⟩:=g2
 cases m with
 |last src g ifs m=>
  cases gs with
  |nil=>simp only[okC,D1,decide_eq_true_eq]at h;show h.1.1.1.1
  |cons _ _=>simp[okC]at h
 |more src g ifs rest=>
  cases gs with
  |nil=>simp[okC]at h
  |cons _ _=>simp only[okC,D1,decide_eq_true_eq]at h;show h.1.1.1.1
def zz{X:Cx}(G:Good C Φ k X):∀T∈["bool","int","str","tuple","list","dict"],X.mg (Mf T)=N2/\Ph (Mf T)=Z (.type T)/\Mf T≠"__name__"/\(Mf T==("__debug__":Str))=Wj:=by
 intro T j;simp only[Lm,Me,or_false]at j
 rcases j with rfl|rfl|rfl|rfl|rfl|rfl
 all_goals show⟨G.mgB _ (·),by decide +kernel,by decide,by decide⟩
mutual
theorem sE:∀(m:ME) {C:Ctx} {X:Cx} (G:Good C Φ k X) (e:Expr),okE m C e=Wi->PE X e (lE X.K (wE Φ m))
 |.var i,C,X,G,e,h=>by calc fe e h λx _ h=>?_;simp only[D1,MZ,decide_eq_true_eq]at h;show D9 (by rw[G.N];show h.1.1.1) (G.vis h.1.1.2) h.1.2 h.2
 |.int i,C,X,G,e,h=>by calc ff e h λc _ _ h=>?_;rw[of_decide_eq_true h];show le_int
 |.bl i,C,X,G,e,h=>by calc ff e h λc _ _ h=>?_;rw[of_decide_eq_true h];show F3
 |.non,C,X,G,e,h=>by calc ff e h λc _ _ h=>?_;rw[of_decide_eq_true h];show Da
 |.str i,C,X,G,e,h=>by calc ff e h λc _ _ h=>?_;rw[of_decide_eq_true h];show Db
 |.bin op a b,C,X,G,e,h=>by calc DJ e h λl o r _ h=>?_;simp only[D1,decide_eq_true_eq]at h;rw[h.1.1];show F4 (DR G op) (pZ op) (mE G.mono a) (mE G.mono b) (sE a G _ h.1.2) (sE b G _ h.2)
 |.neg a,C,X,G,e,h=>by
  calc jo e h λo x _ h=>?_;replace h:=bY h;let⟨ho,h⟩:=h
  cases of_decide_eq_true ho
  show F5 yz oT (mE G.mono a) (sE a G _ h)
 |.cmp op a b,C,X,G,e,h=>by calc gv e h λl os rs pos h=>?_;calc cR os h λo h=>?_;calc cR rs h λr h=>?_;simp only[D1,decide_eq_true_eq]at h;let⟨⟨⟨ho,U⟩,hb⟩,hm⟩:=h;rw[MZ]at hm;subst ho;show Dc (dW G op) (bu op) (mE G.mono a) (mE G.mono b) (sE a G _ U) (sE b G _ hb) hm
 |.and es,C,X,G,e,h=>by
  calc iO e h λo xs _ h=>?_;replace h:=bY h;let⟨ho,h⟩:=h;let⟨ho,j⟩:=bY ho
  cases of_decide_eq_true ho
  show sAnds es G _ _ h (by intro z;rw[z]at j;cases j)
 |.or es,C,X,G,e,h=>by
  calc iO e h λo xs _ h=>?_;replace h:=bY h;let⟨ho,h⟩:=h;let⟨ho,j⟩:=bY ho
  cases of_decide_eq_true ho
  show sOrs es G _ _ h (by intro z;rw[z]at j;cases j)
 |.not a,C,X,G,e,h=>by
  calc jo e h λo x _ h=>?_;replace h:=bY h;let⟨ho,h⟩:=h
  cases of_decide_eq_true ho
  show Dn (mE G.mono a) (sE a G _ h)
 |.ite c a b,C,X,G,e,h=>by calc DK e h λt x y _ h=>?_;simp only[D1]at h;show Fb (mT G.mono c) (mE G.mono a) (mE G.mono b) (sT c G _ h.1.1) (sE a G _ h.1.2) (sE b G _ h.2)
 |.tup es,C,X,G,e,h=>by calc fF e h λxs _ _ h=>?_;show De (mA G.mono es) (sA es G _ h)
 |.lst es,C,X,G,e,h=>by calc Fl e h λxs _ h=>?_;show Df (mA G.mono es) (sA es G _ h)
 |.ix a b,C,X,G,e,h=>by calc gw e h λx y _ h=>?_;simp only[D1]at h;show F6 (Gh (by let:=G.units;lia)) rL (mE G.mono a) (mE G.mono b) (sE a G _ h.1.2) (sE b G _ h.2) (zx h.1.1)
 |.sl a lo hi,C,X,G,e,h=>by calc jSl e h λx l u s p pos h=>?_;calc jon s h fun  h=>?_;simp only[D1]at h;show Fd (mE G.mono a) (mO G.mono lo) (mO G.mono hi) (sE a G _ h.1.1) (sO lo G _ h.1.2) (sO hi G _ h.2)
 |.call f es,C,X,G,e,h=>by
  calc eQ e h λx xs p pos h=>?_;simp only[D1,decide_eq_true_eq,MZ]at h;let hA:=sA es G _ h.2;let J:=i4 h.2
  cases xs with
  |nil=>
   cases es with
   |nil=>show zy G h.1.1.1 (G.gl h.1.1.2) h.1.2
   |cons _ _=>simp[okEs]at h
  |cons y ys=>simp only[P4,D1]at J;show BL G (mA G.mono es) h.1.1.1 (G.gl h.1.1.2) h.1.2 hA (ao J.1) (jr J.2)
 |.blt f es,C,X,G,e,h=>by
  calc eQ e h λx xs p pos h=>?_;simp only[D1,decide_eq_true_eq,MZ]at h;let hA:=sA es G _ h.2;let J:=i4 h.2;let⟨⟨⟨rfl,O⟩,j⟩,_⟩:=h
  cases xs with
  |nil=>simp at j
  |cons y ys=>simp only[P4,D1]at J;show DS G (mA G.mono es) (G.gl O) hA (ao J.1) (jr J.2)
 |.chain op op' a b c,C,X,G,e,h=>by calc gv e h λl os rs pos h=>?_;calc fy os h λo o' h=>?_;calc fy rs h λr q h=>?_;simp only[D1,decide_eq_true_eq,MZ]at h;let⟨⟨⟨⟨⟨rfl,rfl⟩,U⟩,hb⟩,hc⟩,hm⟩:=h;show zc (dW G op) (dW G op') (bu op) (bu op') (mE G.mono a) (mE G.mono b) (mE G.mono c) (sE a G _ U) (sE b G _ hb) (sE c G _ hc) hm
 |.glob x k',C,X,G,e,h=>by calc fe e h λx _ h=>?_;simp only[D1,decide_eq_true_eq,MZ]at h;let⟨⟨⟨rfl,O⟩,hc⟩,hd⟩:=h;let⟨u,fv,hv⟩:=G.cs _ _ hc;let⟨v,rv,rd⟩:=Ae hv;show PE.imp (Aw (v:=v) (G.gl O) fv rv hd) λσ H Q g9=>(by let⟨ρ,M,rs,rm,q⟩:=g9;show q _ H Ext.refl rm (rd H))
 |.d1 a b,C,X,G,e,h=>by calc Ah e h λks vs _ h=>?_;calc cR ks h λx h=>?_;calc jos x h λx h=>?_;calc cR vs h λy h=>?_;simp only[D1]at h;show Fk (by let:=G.units;lia) (mE G.mono a) (mE G.mono b) (sE a G _ h.1) (sE b G _ h.2)
 |.dnew t,C,X,G,e,h=>by calc Ah e h λks vs _ h=>?_;calc i3 ks h fun  h=>?_;calc i3 vs h fun  h=>?_;show Bp
 |.dget o k' x,C,X,G,e,h=>by
  calc ut e h λy n xs ap cp h=>?_;calc fy xs h λe1 e2 h=>?_;simp only[D1,decide_eq_true_eq]at h;let⟨⟨⟨⟨⟨⟨⟨rfl,L⟩,Y⟩,IK⟩,IM⟩,ho⟩,hk⟩,hx⟩:=h;let st:LQ [e1,e2] X.env=[(Wj,eval e1 X.env),(Wj,eval e2 X.env)]:=by rw[ao IK,ao IM];rfl
  refine BB (by let:=G.units;lia) (mE G.mono o) (mE G.mono k') (mE G.mono x) (sE o G _ ho) (sE k' G _ hk) (sE x G _ hx) ⟨gC L,?_,Y,?_⟩
  ·rw[st];rfl
  ·rw[st];rfl
 |.isin a T,C,X,G,e,h=>by calc eQ e h λx xs p pos h=>?_;calc fy xs h λy w h=>?_;calc fe w h λz p2 h=>?_;simp only[D1,decide_eq_true_eq]at h;let⟨⟨⟨⟨⟨⟨rfl,O⟩,IN⟩,hz⟩,hT⟩,hs⟩,U⟩:=h;let⟨n1,n2,n3,n4⟩:=zz G T hT;subst hz;show Bg hT (mE G.mono a) (sE a G _ U) (G.gl O) (G.mgB _ (·)) (G.gl IN) n1 n2 n3 n4 (ao hs) rfl
 |.meth m o a,C,X,G,e,h=>by
  calc ut e h λx n xs ap cp h=>?_;calc cR xs h λy h=>?_;simp only[D1,decide_eq_true_eq]at h;let⟨⟨⟨⟨⟨hn,L⟩,Y⟩,hs⟩,ho⟩,U⟩:=h;subst hn;let pa:PA X [y] (lA X.K (aP (wE Φ a) bx)):=bX (mE G.mono a) aB (sE a G _ U) eI (ao hs);let few:((Qe cp (LQ [y] X.env)).all (λx=>!x.1)&&(backToKw cp (Vf [] X.env)).all (λx=>x.1.isSome)&&decide (([y]:List Expr).length+([]:List SF).length+(if([]:List SF).isEmpty then 0 else 1)<30))=Wi:=by rw[ao hs];rfl
  cases m with
  |append=>show PE.imp (A1 Ql PySem.F.slot_list_append PySem.F.type_list_append mn (sE o G _ ho) pa (gC L) few Y (ao hs) rfl) (rN j8 (mE G.mono o) (aw (mE G.mono a) aB) yF)
  |extend=>show PE.imp (A1 Ql PySem.F.slot_list_extend PySem.F.type_list_extend vf (sE o G _ ho) pa (gC L) few Y (ao hs) rfl) (rN j9 (mE G.mono o) (aw (mE G.mono a) aB) yG)
 |.meth0 m o,C,X,G,e,h=>by
  calc ut e h λx n xs ap cp h=>?_;calc i3 xs h fun  h=>?_;simp only[D1,decide_eq_true_eq]at h;let⟨⟨⟨hn,L⟩,Y⟩,ho⟩:=h;subst hn
  cases m with
  |clear=>show PE.imp (CW Ql PySem.F.slot_list_clear PySem.F.type_list_clear y8 (sE o G _ ho) (gC L) Y) (yE jX (mE G.mono o) Bh)
 |.comp fr N' c,C,X,G,e,h=>by
  calc wG e h λelt gens sc pos h=>?_;simp only[D1]at h;let B:bp sc X.env.scope X.N N' fr:=by rw[G.sc,G.N];show kC h.1
  let B':bp sc C.sc C.N N' fr:=kC h.1
  cases c with
  |last src g ifs m=>
   let h2:=h.2;simp only[okC]at h2
   split at h2
   ·rename_i t it fs a;simp only[D1,decide_eq_true_eq]at h2;let⟨⟨⟨⟨rfl,hi⟩,O⟩,fv⟩,he⟩:=h2;refine PE.imp (j7 G.calm G.hx B (λg' z=>by simp at z) (sI src G _ t hi).1 (λs H fp=>sG (G.blk B' s H fp) g t O) (tb:=λp=>lC X.K p (bw (wTl Φ ifs) (bN (wE Φ m)))) (λs H fp p=>?_) (sI src G _ t hi).2) (eY (mI G.mono src) (aU (bQ (mE G.mono m)) (mTl G.mono ifs)))
    let G':=G.blk B' s H fp;show dX (p:=p) G' (bQ (mE G.mono m)) (mTl G.mono ifs) (PB.imp (kT G'.hx (sE m G' elt he) rfl) (gY (mE G.mono m))) (sTl ifs G' fs fv)
   ·cases h2
  |more src g ifs rest=>
   let h2:=h.2;simp only[okC]at h2
   split at h2
   ·rename_i t it fs a g2 gs;simp only[D1,decide_eq_true_eq]at h2;let⟨⟨⟨⟨rfl,hi⟩,O⟩,fv⟩,he⟩:=h2;let IO:∀g',(g2::gs)[0]?=Z g'->g'.is_async=0:=fun g' z=>by
     let z':g2=g':=by simpa using z
     subst z';show i5 he
    calc PE.imp (j7 G.calm G.hx B IO (sI src G _ t hi).1 (λs H fp=>sG (G.blk B' s H fp) g t O) (tb:=λp=>lC X.K p (bw (wTl Φ ifs) (wCl Φ rest))) (λs H fp p=>?_) (sI src G _ t hi).2) (eY (mI G.mono src) (aU (mCl G.mono rest) (mTl G.mono ifs)));let G':=G.blk B' s H fp;show dX (p:=p) G' (mCl G.mono rest) (mTl G.mono ifs) (sCl rest G' elt (⟨t,it,fs,0⟩::g2::gs) sc pos 0 (.inl rfl) p he) (sTl ifs G' fs fv)
   ·cases h2
theorem sA:∀(m:MEs) {C:Ctx} {X:Cx} (G:Good C Φ k X) (es:List Expr),okEs m C es=Wi->PA X es (lA X.K (wA Φ m))
 |.nil,C,X,G,es,h=>by simp[okEs]at h;subst h;show eI
 |.cons m r,C,X,G,[],h=>by simp[okEs]at h
 |.cons m r,C,X,G,e::es,h=>by simp only[okEs,D1]at h;show bX (mE G.mono m) (mA G.mono r) (sE m G e h.1.2) (sA r G es h.2) (ao h.1.1)
theorem sAnds:∀(m:MEs) {C:Ctx} {X:Cx} (G:Good C Φ k X) (es:List Expr) (pos:Pos),okEs m C es=Wi->es≠[]->PE X (.BoolOp .And es pos) (lE X.K (wAnds Φ m))
 |.nil,C,X,G,es,pos,h,j=>by simp[okEs]at h;show absurd h j
 |.cons m r,C,X,G,[],pos,h,j=>absurd rfl j
 |.cons m .nil,C,X,G,e::es,pos,h,_=>by simp only[okEs,D1]at h;let⟨h1,h2⟩:=h;simp at h2;subst h2;show vI (sE m G e h1.2)
 |.cons m (.cons m2 r),C,X,G,e::es,pos,h,_=>by
  simp only[okEs,D1]at h;let⟨h1,h2⟩:=h
  cases es with
  |nil=>simp at h2
  |cons f fs=>show Dm (mE G.mono m) (mAnds G.mono _) (sE m G e h1.2) (sAnds (.cons m2 r) G (f::fs) pos (by simpa only[okEs,D1]using h2) (_))
theorem sOrs:∀(m:MEs) {C:Ctx} {X:Cx} (G:Good C Φ k X) (es:List Expr) (pos:Pos),okEs m C es=Wi->es≠[]->PE X (.BoolOp .Or es pos) (lE X.K (wOrs Φ m))
 |.nil,C,X,G,es,pos,h,j=>by simp[okEs]at h;show absurd h j
 |.cons m r,C,X,G,[],pos,h,j=>absurd rfl j
 |.cons m .nil,C,X,G,e::es,pos,h,_=>by simp only[okEs,D1]at h;let⟨h1,h2⟩:=h;simp at h2;subst h2;show vI (sE m G e h1.2)
 |.cons m (.cons m2 r),C,X,G,e::es,pos,h,_=>by
  simp only[okEs,D1]at h;let⟨h1,h2⟩:=h
  cases es with
  |nil=>simp at h2
  |cons f fs=>show Fa (mE G.mono m) (mOrs G.mono _) (sE m G e h1.2) (sOrs (.cons m2 r) G (f::fs) pos (by simpa only[okEs,D1]using h2) (_))
theorem sO:∀(m:MO) {C:Ctx} {X:Cx} (G:Good C Φ k X) (e:Option Expr),okO m C e=Wi->PO X e (lO X.K (wO Φ m))
 |.none,C,X,G,e,h=>by simp[okO]at h;subst h;show Ba
 |.some m,C,X,G,N2,h=>by simp[okO]at h
 |.some m,C,X,G,Z e,h=>by simp only[okO]at h;show Bb (mE G.mono m) (sE m G e h)
theorem sT:∀(m:MT) {C:Ctx} {X:Cx} (G:Good C Φ k X) (e:Expr),okT m C e=Wi->PT X e (lT X.K (wT Φ m))
 |.tru m,C,X,G,e,h=>by simp only[okT,D1]at h;show Dh (mE G.mono m) (sE m G e h.2) (uB h.1)
 |.cmp op a b,C,X,G,e,h=>by calc gv e h λl os rs pos h=>?_;calc cR os h λo h=>?_;calc cR rs h λr h=>?_;simp only[D1,decide_eq_true_eq]at h;let⟨⟨⟨ho,B⟩,F⟩,hm⟩:=h;rw[MZ]at hm;subst ho;show Dd (dW G op) (bu op) (mE G.mono a) (mE G.mono b) (sE a G _ B) (sE b G _ F) hm
 |.chain op op' a b c,C,X,G,e,h=>by calc gv e h λl os rs pos h=>?_;calc fy os h λo o' h=>?_;calc fy rs h λr q h=>?_;simp only[D1,decide_eq_true_eq,MZ]at h;let⟨⟨⟨⟨⟨rfl,rfl⟩,B⟩,F⟩,J⟩,hm⟩:=h;show zd (dW G op) (dW G op') (bu op) (bu op') (mE G.mono a) (mE G.mono b) (mE G.mono c) (sE a G _ B) (sE b G _ F) (sE c G _ J) hm
 |.and ts,C,X,G,e,h=>by
  calc iO e h λo xs _ h=>?_;replace h:=bY h;let⟨ho,h⟩:=h;let⟨ho,j⟩:=bY ho
  cases of_decide_eq_true ho
  show(sAndTs ts G _ _ h (by intro z;rw[z]at j;cases j)).pt
 |.or ts,C,X,G,e,h=>by
  calc iO e h λo xs _ h=>?_;replace h:=bY h;let⟨ho,h⟩:=h;let⟨ho,j⟩:=bY ho
  cases of_decide_eq_true ho
  show(sOrTs ts G _ _ h (by intro z;rw[z]at j;cases j)).pt
 |.not t,C,X,G,e,h=>by
  calc jo e h λo x _ h=>?_;replace h:=bY h;let⟨ho,h⟩:=h
  cases of_decide_eq_true ho
  show Di (mT G.mono t) (sT t G _ h)
theorem sAndTs:∀(m:MTs) {C:Ctx} {X:Cx} (G:Good C Φ k X) (es:List Expr) (pos:Pos),okTs m C es=Wi->es≠[]->PW X (.BoolOp .And es pos) (lT X.K (wAndTs Φ m))
 |.nil,C,X,G,es,pos,h,j=>by simp[okTs]at h;show absurd h j
 |.cons m r,C,X,G,[],pos,h,j=>absurd rfl j
 |.cons m .nil,C,X,G,e::es,pos,h,_=>by simp only[okTs,D1]at h;let⟨h1,h2⟩:=h;simp at h2;subst h2;show B8 (sT m G e h1)
 |.cons m (.cons m2 r),C,X,G,e::es,pos,h,_=>by
  simp only[okTs,D1]at h;let⟨h1,h2⟩:=h
  cases es with
  |nil=>simp at h2
  |cons f fs=>show Dl (mT G.mono m) (mAndTs G.mono _) (sT m G e h1) (sAndTs (.cons m2 r) G (f::fs) pos (by simpa only[okTs,D1]using h2) (_))
theorem sOrTs:∀(m:MTs) {C:Ctx} {X:Cx} (G:Good C Φ k X) (es:List Expr) (pos:Pos),okTs m C es=Wi->es≠[]->PW X (.BoolOp .Or es pos) (lT X.K (wOrTs Φ m))
 |.nil,C,X,G,es,pos,h,j=>by simp[okTs]at h;show absurd h j
 |.cons m r,C,X,G,[],pos,h,j=>absurd rfl j
 |.cons m .nil,C,X,G,e::es,pos,h,_=>by simp only[okTs,D1]at h;let⟨h1,h2⟩:=h;simp at h2;subst h2;show Dj (sT m G e h1)
 |.cons m (.cons m2 r),C,X,G,e::es,pos,h,_=>by
  simp only[okTs,D1]at h;let⟨h1,h2⟩:=h
  cases es with
  |nil=>simp at h2
  |cons f fs=>show F9 (mT G.mono m) (mOrTs G.mono _) (sT m G e h1) (sOrTs (.cons m2 r) G (f::fs) pos (by simpa only[okTs,D1]using h2) (_))
theorem sTl:∀(m:MTs) {C:Ctx} {X:Cx} (G:Good C Φ k X) (es:List Expr),okTs m C es=Wi->Mh (λc t=>PT X c t) es ((wTl Φ m).map (lT X.K))
 |.nil,C,X,G,es,h=>by simp[okTs]at h;subst h;show .nil
 |.cons m r,C,X,G,[],h=>by simp[okTs]at h
 |.cons m r,C,X,G,e::es,h=>by simp only[okTs,D1]at h;show .cons (sT m G e h.1) (sTl r G es h.2)
theorem sI:∀(m:MI) {C:Ctx} {X:Cx} (G:Good C Φ k X) (e tg:Expr),okI m C tg e=Wi->PI X tg e (lI X.K (wI Φ m))/\∀x,Oj e X.env x=pure x
 |.seq m,C,X,G,e,tg,h=>by simp only[okI,D1]at h;show⟨Dr (mE G.mono m) (sE m G e h.2),q9 h.1⟩
 |.keys m,C,X,G,e,tg,h=>by simp only[okI,D1]at h;show⟨BG (mE G.mono m) (sE m G e h.2),q9 h.1⟩
 |.rng1 a,C,X,G,e,tg,h=>by calc eQ e h λx xs p pos h=>?_;calc cR xs h λy h=>?_;simp only[D1,decide_eq_true_eq]at h;let⟨⟨⟨rfl,q⟩,hs⟩,B⟩:=h;show⟨Bk (aw (mE G.mono a) aB) (G.gl q) (G.mgB _ (·)) (bX (mE G.mono a) aB (sE a G _ B) eI (ao hs)) (ao hs),λx=>rfl⟩
 |.rng2 a b,C,X,G,e,tg,h=>by calc eQ e h λx xs p pos h=>?_;calc fy xs h λy z h=>?_;simp only[D1,decide_eq_true_eq]at h;let⟨⟨⟨⟨⟨rfl,q⟩,hs⟩,j⟩,B⟩,F⟩:=h;show⟨Bl (aw (mE G.mono a) (aw (mE G.mono b) aB)) (G.gl q) (G.mgB _ (·)) (bX (mE G.mono a) (aw (mE G.mono b) aB) (sE a G _ B) (bX (mE G.mono b) aB (sE b G _ F) eI (ao j)) (ao hs)) (by rw[ao hs,ao j];rfl) (ao j),λx=>rfl⟩
 |.enum a,C,X,G,e,tg,h=>by calc eQ e h λx xs p pos h=>?_;calc cR xs h λy h=>?_;calc fF tg h λts kt pt h=>?_;simp only[D1,decide_eq_true_eq]at h;let⟨⟨⟨rfl,q⟩,hs⟩,B⟩:=h;show⟨Bm (mE G.mono a) (G.gl q) (G.mgB _ (·)) (bX (mE G.mono a) aB (sE a G _ B) eI (ao hs)) (ao hs),λx=>rfl⟩
 |.zip a b,C,X,G,e,tg,h=>by calc eQ e h λx xs p pos h=>?_;calc fy xs h λy z h=>?_;calc fF tg h λts kt pt h=>?_;simp only[D1,decide_eq_true_eq]at h;let⟨⟨⟨⟨⟨rfl,q⟩,hs⟩,j⟩,B⟩,F⟩:=h;show⟨Du (mE G.mono a) (mE G.mono b) (G.gl q) (G.mgB _ (·)) (bX (mE G.mono a) (aw (mE G.mono b) aB) (sE a G _ B) (bX (mE G.mono b) aB (sE b G _ F) eI (ao j)) (ao hs)) (by rw[ao hs,ao j];rfl) (ao j),λx=>rfl⟩
theorem sCl:∀(m:MC) {C:Ctx} {X:Cx} (G:Good C Φ k X) (elt:Expr) (gens:List MQ) (sc:Scope) (pos:Pos) (d:Nat) (_:d=0∨d=d) (p:Wk),okC m C C (gens.drop (d+1)) elt=Wi->
 PB X (bo elt gens sc pos d (.ref p) X.env) (lC X.K p (wCl Φ m))
 |.last src g ifs m,C,X,G,elt,gens,sc,pos,d,_,p,h=>by
  simp only[okC]at h
  split at h
  ·rename_i t it fs a hd;simp only[D1,decide_eq_true_eq]at h;let⟨⟨⟨⟨rfl,hi⟩,q⟩,B⟩,he⟩:=h;let F:gens[d+1]?=Z ⟨t,it,fs,0⟩:=by
    let z:(gens.drop (d+1))[0]?=Z ⟨t,it,fs,0⟩:=by rw[hd];rfl
    rw[OK]at z;simpa using z
   let j:gens[d+1+1]?=N2:=by
    let z:(gens.drop (d+1))[1]?=N2:=by rw[hd];rfl
    rw[OK]at z;simpa using z
   refine PB.imp (mC G.hx G.calm F (λg' z=>by rw[j]at z;cases z) (sI src G _ t hi).1 (sG G g t q) (dX (p:=p) G (bQ (mE G.mono m)) (mTl G.mono ifs) (PB.imp (kT G.hx (sE m G elt he) j) (gY (mE G.mono m))) (sTl ifs G fs B)) (sI src G _ t hi).2) (jb (mI G.mono src) (aU (bQ (mE G.mono m)) (mTl G.mono ifs)))
  ·cases h
 |.more src g ifs rest,C,X,G,elt,gens,sc,pos,d,_,p,h=>by
  simp only[okC]at h
  split at h
  ·rename_i t it fs a g2 gs hd;simp only[D1,decide_eq_true_eq]at h;let⟨⟨⟨⟨rfl,hi⟩,q⟩,B⟩,he⟩:=h;let F:gens[d+1]?=Z ⟨t,it,fs,0⟩:=by
    let z:(gens.drop (d+1))[0]?=Z ⟨t,it,fs,0⟩:=by rw[hd];rfl
    rw[OK]at z;simpa using z
   let j:gens[d+1+1]?=Z g2:=by
    let z:(gens.drop (d+1))[1]?=Z g2:=by rw[hd];rfl
    rw[OK]at z;simpa using z
   let L:gens.drop (d+1+1)=g2::gs:=by
    let z:(gens.drop (d+1)).drop 1=g2::gs:=by rw[hd];rfl
    rw[RA]at z;simpa using z
   let J:∀g',gens[d+1+1]?=Z g'->g'.is_async=0:=λg' z=>by rw[j]at z;cases z;show i5 he
   refine PB.imp (mC G.hx G.calm F J (sI src G _ t hi).1 (sG G g t q) (dX (p:=p) G (mCl G.mono rest) (mTl G.mono ifs) (sCl rest G elt gens sc pos (d+1) (.inr rfl) p (by rw[L];show he)) (sTl ifs G fs B)) (sI src G _ t hi).2) (jb (mI G.mono src) (aU (mCl G.mono rest) (mTl G.mono ifs)))
  ·cases h
end
end
end
section
section
variable{Φ:Phi}{k:Nat}{C:Ctx}{X:Cx}
def zA{ts vs:List Expr}{kk j:Nat}{pp p2:Pos}(hs:env.scope=sc)(q:sc.kind=.function)(h:uu sc ts vs=Wi):OX [.Tuple ts kk pp] (.Tuple vs j p2) env=pure N2:=by
 let z:env.blockKind=.function:=by unfold Sb;rw[hs,q];rfl
 let h':uu sc ts vs=Wi:=h;unfold OX;dsimp only;rw[z]
 by_cases c1:(!(ts.length==2 || ts.length==3) || vs.length != ts.length)=Wi
 ·simp only[c1,Bool.true_or,if_true]
 ·simp only[QL]at c1;rw[c1];simp only[S2,bne_self_eq_false,NO,if_false]
  split
  ·rfl
  ·
    generalize B:List.filterMap _ ts=L;obtain rfl:L=bm sc ts:=by
     rw[<-B];unfold bm;congr 1
     funext x
     cases x<;>first|rfl|(unfold Uk;rw[hs])
    unfold uu at h';rw[c1]at h';simp only[S2,SU]at h'
    by_cases c3:((bm sc ts).length != ts.length || (bm sc ts).eraseDups.length != (bm sc ts).length)=Wi
    ·rw[if_pos c3]
    ·rw[if_neg c3];let F:vs.all (U4 8)=Wi:=by
      rcases h' with h'|h'
      ·show absurd (SU _ _ |>.mpr h') c3
      ·show h'
     rw[if_pos F]
def BM{ts vs:List Expr}{ns:List Str}{kk j:Nat}{pp p2:Pos}(hs:env.scope=sc)(q:sc.kind=.function)(h:uz sc ts vs ns=Wi):OX [.Tuple ts kk pp] (.Tuple vs j p2) env=pure (Z ns):=by
 let B:env.blockKind=.function:=by unfold Sb;rw[hs,q];rfl
 simp only[uz,D1,MZ,decide_eq_true_eq]at h;let⟨⟨⟨⟨⟨F,G⟩,J⟩,O⟩,U⟩,Y⟩:=h;unfold OX;dsimp only;rw[B,F];simp only[S2,bne_self_eq_false,NO,if_false]
 split
 ·next z=>show absurd z (by rw[QL];show G)
 ·generalize fv:List.filterMap _ ts=L;obtain rfl:L=bm sc ts:=by
   rw[<-fv];unfold bm;congr 1
   funext x
   cases x<;>first|rfl|(unfold Uk;rw[hs])
  rw[O,U,Y,J];rfl
def sf{i:Nat}(h:uw C i x=Wi):C.N[i]?=Z x/\C.sc.names.lookup x=Z .local:=by simpa[uw]using h
def dY{tg:Expr}{l:Nat}{b:Bool}(h:Qh e (Z tg) l env=pure b):Q6 [tg] e l env=pure b:=by unfold Q6;show h
def BN{tg:Expr}(hs:env.scope=sc)(j:sc.kind=.function)(h:Aj sc tg e=Wi):OX [tg] e env=pure N2:=by
 cases tg with
 |Tuple ts kk pp=>
  cases e with
  |Tuple vs q p2=>show zA hs j h
  |_=>rfl
 |_=>first|rfl|(cases h;done)
def qb{elt:Expr}{gens:List MQ}{s:Scope}{px:Pos}{l:Nat}(hs:env.scope=sc)(j:sc.kind=.function):
 Qh (.ListComp elt gens s pos) (Z (.Name x px)) l env=pure (uA sc x px (.ListComp elt gens s pos)):=by
 let q:env.blockKind=.function:=by unfold Sb;rw[hs,j];rfl
 unfold Qh;dsimp only;rw[q];unfold uA Uk;rw[hs];rfl
def wK{ek ev:Expr}{gens:List MQ}{s:Scope}{px:Pos}{l:Nat}(hs:env.scope=sc)(j:sc.kind=.function):
 Qh (.DictComp ek ev gens s pos) (Z (.Name x px)) l env=pure (sc.names.lookup x==Z .local&&px.line==(Expr.DictComp ek ev gens s pos).pos.line && !(s.names.any λ(n,k)=>n==x&&(k==.local || k==.cell))):=by
 let q:env.blockKind=.function:=by unfold Sb;rw[hs,j];rfl
 unfold Qh;dsimp only;rw[q];unfold Uk;rw[hs];rfl
mutual
theorem sS:∀(m:MS) (G:Good C Φ k X) (q:C.sc.kind=.function) (s:Stmt),okS m C s=Wi->PS X s (lS X.K (wS Φ m))
 |.asg g m,G,q,s,h=>by
  calc jq s h λts e pos h1=>?_;clear h;calc cR ts h1 λtg h=>?_;clear h1;simp only[D1]at h;let⟨⟨⟨F,he⟩,U⟩,O⟩:=h;let hw:=BN G.sc q U;let pg:=sG G g tg F;let plain:Q6 [tg] e pos.line X.env=pure Wj->PS X (.Assign [tg] e pos) (lS X.K (lh (wE Φ m) (bG g))):=λhs=>PS.imp (uT (sE m G e he) pg hs hw (by cases tg<;>first|rfl|(cases U;done))) (yS (mE G.mono m))
  cases tg with
  |Tuple ts a b=>show plain (dY (lq O))
  |Name x px=>
   cases e with
   |ListComp elt gens sc cpos=>
    by_cases sw:uA C.sc x px (.ListComp elt gens sc cpos)=Wi
    ·cases g with
     |tup gs=>show absurd F Lg
     |name i=>
      cases m with
      |comp fr N' c=>
       replace he:=bY he;let B:bp sc X.env.scope X.N N' fr:=by rw[G.sc,G.N];show kC he.1
       let B':bp sc C.sc C.N N' fr:=kC he.1;let Y:PG X (.Name x px) (jE i):=by let F:=bY F;let F:=QK (bY F.1) F.2;show rB G.nd (by rw[G.N];show of_decide_eq_true F.1.1) (G.loc F.1.2) (G.own F.2)
       let fv:∀l,Qh (.ListComp elt gens sc cpos) (Z (.Name x px)) l X.env=pure Wi:=λl=>by rw[qb G.sc q,sw]
       let mc:=mCmp G.mono fr c
       cases c with
       |last src g ifs m=>
        let h2:=he.2;simp only[okC]at h2
        split at h2
        ·rename_i t it fs a;simp only[D1,decide_eq_true_eq]at h2;let⟨⟨⟨⟨rfl,hi⟩,L⟩,ht⟩,J⟩:=h2;refine PS.imp (jR (i:=i) (g:=lG X.K (bG g)) (wi:=lI X.K (wI Φ src)) G.calm G.hx B (λg' z=>by simp at z) (sI src G _ t hi).1 (λs H fp=>sG (G.blk B' s H fp) g t L) (tb:=λp=>lC X.K p (bw (wTl Φ ifs) (bN (wE Φ m)))) (λs H fp p=>?_) (sI src G _ t hi).2 Y (fv _)) λD σ H h=>?_
         ·let G':=G.blk B' s H fp;show dX (p:=p) G' (bQ (mE G.mono m)) (mTl G.mono ifs) (PB.imp (kT G'.hx (sE m G' elt J) rfl) (gY (mE G.mono m))) (sTl ifs G' fs ht)
         ·show eY (mI G.mono src) (aU (bQ (mE G.mono m)) (mTl G.mono ifs)) σ H _ (mP mc D σ H h)
        ·cases h2
       |more src g ifs rest=>
        let h2:=he.2;simp only[okC]at h2
        split at h2
        ·rename_i t it fs a g2 gs;simp only[D1,decide_eq_true_eq]at h2;let⟨⟨⟨⟨rfl,hi⟩,L⟩,ht⟩,J⟩:=h2;let IK:∀g',(g2::gs)[0]?=Z g'->g'.is_async=0:=fun g' z=>by
          let z':g2=g':=by simpa using z
          subst z';show i5 J
         refine PS.imp (jR (i:=i) (g:=lG X.K (bG g)) (wi:=lI X.K (wI Φ src)) G.calm G.hx B IK (sI src G _ t hi).1 (λs H fp=>sG (G.blk B' s H fp) g t L) (tb:=λp=>lC X.K p (bw (wTl Φ ifs) (wCl Φ rest))) (λs H fp p=>?_) (sI src G _ t hi).2 Y (fv _)) λD σ H h=>?_
         ·let G':=G.blk B' s H fp;show dX (p:=p) G' (mCl G.mono rest) (mTl G.mono ifs) (sCl rest G' elt (⟨t,it,fs,0⟩::g2::gs) sc cpos 0 (.inl rfl) p J) (sTl ifs G' fs ht)
         ·show eY (mI G.mono src) (aU (mCl G.mono rest) (mTl G.mono ifs)) σ H _ (mP mc D σ H h)
        ·cases h2
      |_=>show absurd he Lg
    ·calc plain ?_;simp only[QL]at sw;calc dY ?_;rw[qb G.sc q,sw]
   |SetComp _ _ _ _=>cases m<;>show absurd he Lg
   |DictComp _ _ _ _ _=>calc plain (dY ?_);rw[wK G.sc q];unfold DQ at O;simp only[MZ]at O;rw[O]
   |_=>show plain (dY rfl)
  |_=>cases U
 |.par i j a b,G,q,s,h=>by calc jq s h λts e pos h=>?_;calc cR ts h λtg h=>?_;calc fF tg h λts k p h=>?_;calc fF e h λes k' p' h=>?_;calc fy ts h λt u h=>?_;calc fy es h λe f h=>?_;calc fe t h λx px h=>?_;calc fe u h λy py h=>?_;simp only[D1,decide_eq_true_eq]at h;let⟨⟨⟨⟨⟨⟨⟨hi,hj⟩,IM⟩,n1⟩,n2⟩,U⟩,hb⟩,hw⟩:=h;let⟨i1,i2⟩:=sf hi;let⟨j1,j2⟩:=sf hj;show PS.imp (CH G.calm G.nd (by rw[G.N];show i1) (by rw[G.N];show j1) IM (by rw[G.sc];show i2) (by rw[G.sc];show j2) (bX (mE G.mono a) (aw (mE G.mono b) aB) (sE a G _ U) (bX (mE G.mono b) aB (sE b G _ hb) eI (ao n2)) (ao n1)) (BM G.sc q hw) (dY rfl)) (w8 (aw (mE G.mono a) (aw (mE G.mono b) aB)))
 |.put o i m,G,q,s,h=>by calc jq s h λts e pos h=>?_;calc cR ts h λtg h=>?_;calc gw tg h λx y tp h=>?_;simp only[D1]at h;let⟨⟨⟨⟨IN,O⟩,ho⟩,hi⟩,he⟩:=h;show Dw (by let:=G.units;lia) (mE G.mono m) (mE G.mono o) (mE G.mono i) (sE m G e he) (sE o G x ho) (sE i G y hi) (dY (lq O)) rfl (λv=>by cases y<;>first|rfl|(cases IN;done))
 |.aug i op m,G,q,s,h=>by
  calc rp s h λt o e pos h=>?_;calc fe t h λx _ h=>?_;simp only[D1,decide_eq_true_eq]at h;let⟨⟨⟨⟨⟨rfl,IO⟩,hi⟩,hl⟩,hf⟩,he⟩:=h
  cases op with
  |add=>show pA G.nd (by rw[G.N];show hi) (G.loc hl) (sE m G _ he) vY mQ (mE G.mono m) (G.own hf)
  |sub=>show pA G.nd (by rw[G.N];show hi) (G.loc hl) (sE m G _ he) vZ mR (mE G.mono m) (G.own hf)
  |mul=>show pA G.nd (by rw[G.N];show hi) (G.loc hl) (sE m G _ he) w6 mU (mE G.mono m) (G.own hf)
  |_=>simp at IO
 |.drop m,G,q,s,h=>by calc DM s h λe _ h=>?_;simp only[D1]at h;show PS.imp (AB (sE m G _ h.2) (lq h.1)) (vW (mE G.mono m))
 |.ret m,G,q,s,h=>by calc zw s h λo _ h=>?_;calc jos o h λe h=>?_;show PS.imp (CB (sE m G _ h)) (yR (mE G.mono m))
 |.ite c a b,G,q,s,h=>by calc Gk s h λt x y _ h=>?_;simp only[D1]at h;show PS.imp (EH (sT c G _ h.1.1) (sSs a G q _ h.1.2) (sSs b G q _ h.2)) (Bn (mT G.mono c))
 |.for g src b,G,q,s,h=>by calc Fm s h λtg it body els _ h=>?_;calc i3 els h fun  h=>?_;simp only[D1]at h;let⟨⟨⟨hs,F⟩,hi⟩,hb⟩:=h;show PS.imp (CK (λe s z=>(G.hx e s z).elim) G.calm (sI src G _ _ hi).1 (sG G g _ F) (sSs b G q _ hb) (q9 hs)) (yT (mI G.mono src) (mSs G.mono b))
 |.while c b,G,q,s,h=>by calc BJ s h λt body els _ h=>?_;calc i3 els h fun  h=>?_;simp only[D1]at h;show PS.imp (xO (λe s z=>(G.hx e s z).elim) (sT c G _ h.1) (sSs b G q _ h.2)) (tX (mT G.mono c) (mSs G.mono b))
 |.frz i m,G,q,s,h=>by show DC (sS m G q s h)
 |.pass,G,q,s,h=>by calc DO s h λ_ h=>?_;show PS.imp AA mN
 |.brk,G,q,s,h=>by calc BK s h λ_ h=>?_;show PS.imp xM tW
 |.cnt,G,q,s,h=>by calc uq s h λ_ h=>?_;show PS.imp qW vU
theorem sSs:∀(m:MSs) (G:Good C Φ k X) (j:C.sc.kind=.function) (s:List Stmt),okSs m C s=Wi->PSs X s (lS X.K (wSs Φ m))
 |.nil,G,j,s,h=>by simp[okSs]at h;subst h;show PSs.imp Az mN
 |.cons m r,G,j,[],h=>by simp[okSs]at h
 |.cons m r,G,j,s::ss,h=>by simp only[okSs,D1]at h;show PSs.imp (xL (sS m G j s h.1) (sSs r G j ss h.2)) (yQ (mS G.mono m) (mSs G.mono r))
end
end
end
variable{a:Wk}{ns:List Int}
section
structure FD where
 name:Str
 st:Stmt
 N:List Str
 np:Nat
 body:MSs
abbrev fG(N:List Str)(ds:List D):ar:=ds.map Z++I7 (N.length-ds.length) N2
abbrev phi(T:List FD):Nat->Phi
 |0=>λ_ _ _ _=>False
 |k+1=>λf ds M Q=>∃d,T[f]?=Z d/\ds.length=d.np/\wSs (phi T k) d.body {nx:=λ_ M'=>Q .non M',rt:=Q} (fG d.N ds) M
def jt(T:List FD):∀k f,aV (phi T k f)
 |0,f=>λ_ _ _ _ _ q=>q.elim
 |k+1,f=>λds M Q Q' h j=>(by let⟨d,e,l,q⟩:=j;show⟨d,e,l,mSs (jt T k) d.body {nx:=λ_ M'=>Q .non M',rt:=Q} {nx:=λ_ M'=>Q' .non M',rt:=Q'} _ _ ⟨λ_ M' q'=>h _ _ q',h,λ_ _ z=>z,λ_ _ z=>z⟩ q⟩)
abbrev uC(Γ:List Str)(cs:List (Str×D))(d:FD):Bool:=
 decide ((aE d.st).kind=.function) && !(aE d.st).isCoroutine && !(aE d.st).isGenerator&&decide (d.N.Nodup)&&decide (d.np<=d.N.length)
  && (d.N.take d.np).all (λx=>(aE d.st).names.lookup x==Z .local || (aE d.st).names.lookup x==Z .cell)
  && (aE d.st).names.all (λy=>!(y.2==.free))&&okSs d.body ⟨Γ,d.N,aE d.st,d.N,cs⟩ (ck d.st)
def zB{Γ:List Str}{cs:List (Str×D)}{d:FD}(h:uC Γ cs d=Wi):io d.N (d.N.take d.np) (aE d.st)/\(d.N.take d.np).length=d.np/\okSs d.body ⟨Γ,d.N,aE d.st,d.N,cs⟩ (ck d.st)=Wi:=by
 simp only[uC,D1,decide_eq_true_eq,MZ]at h;let⟨⟨⟨⟨⟨⟨⟨h1,h2⟩,q⟩,B⟩,O⟩,F⟩,G⟩,J⟩:=h;let j:(d.N.take d.np).length=d.np:=by rw[LK];lia
 refine⟨⟨h1,h2,q,B,by rw[j],λx hx=>?_,λy L e=>?_⟩,j,J⟩
 ·let z:=OG.mp F x hx;simpa using z
 ·let z:=OG.mp G y L;rw[e]at z;simp at z
section
variable{P:LN}{w:Mq}{K:Frag}{mg:Str->Option q7}{base:Heap}
structure Ak(K:Frag)(mg:Str->Option q7)(T:List FD)(cs:List (Str×D)):Prop where
 blt:∀x∈bltNames,mg x=N2
 fns:∀(i:Nat) (d:FD),T[i]?=Z d->∃f fd,Fun K d.name d.name d.st f fd/\mg d.name=Z (.ref f)/\OT K MW d.name=Z (Z (.ref f))/\Binds K fd (d.N.take d.np) []
 ok:∀d∈T,uC (T.map (·.name)) cs d=Wi
 cst:∀x d,(x,d)∈cs->∃u,mg x=Z u/\GV K d u
def wL{T:List FD}{cs:List (Str×D)}(O:Ak K mg T cs):∀(k i:Nat) (d:FD) (f:Wk) (fd:PR),T[i]?=Z d->Fun K d.name d.name d.st f fd->eE P w K mg base CX0 k f fd (d.N.take d.np) (lSp K (phi T k i))
 |0,i,d,f,fd,e,F=>⟨λvs H Q E h=>by let⟨ds,M,_,_,q⟩:=h;show q.elim,λA outer s H args us vs Q E _ _ _ _ h=>by let⟨ds,M,_,_,q⟩:=h;show q.elim⟩
 |k+1,i,d,f,fd,e,F=>by
  let⟨S,hl,hb⟩:=zB (O.ok d (Lh e));refine F.ok S (λvs H Q E h=>?_) λcdv A outer s H vs Q E hr h=>?_
  ·let⟨ds,M,rm,rs,d',e',l,q⟩:=h;rw[e]at e';cases e';rw[rs.length,l,hl]
  ·let⟨ds,M,rm,rs,d',e',l,q⟩:=h;rw[e]at e';cases e';let G:Good ⟨T.map (·.name),d.N,aE d.st,d.N,cs⟩ (phi T k) k ((jd CX0 P w K mg base d.N d.name (aE d.st) f cdv A outer s H E).nox):=by
    calc⟨λ_ _ z=>z,rfl,rfl,rfl,S.nd,λ_ _=>rfl,hr,O.blt,λj x hx=>?_,jt T k,O.cst⟩;let B:(T.map (·.name))[j]?=Z x:=hx;rw[Lp]at B
    cases Y:T[j]? with
    |none=>rw[Y]at B;cases B
    |some d2=>rw[Y]at B;cases B;let⟨f2,U,fv,m2,n2,b2⟩:=O.fns j d2 Y;show⟨f2,U,_,m2,n2,fv.kp,b2,wL O k j d2 f2 U Y fv⟩
   refine⟨_,sSs d.body G S.kind _ hb,fG d.N ds,M,{nx:=λ_ M'=>KE' K M H Q .non M',rt:=KE' K M H Q},?_,rm,⟨λρ M' σ H' x rs' rm' q'=>?_,λd M' v H' x rm' rd' q'=>q' v H' x rm' rd',λ_ _ _ _ _ _ _ z=>z,λ_ _ _ _ _ _ _ z=>z⟩,q⟩
   ·refine⟨by simp[de,fG,rs.length],λj dd J=>?_⟩
    unfold fG at J;unfold de
    by_cases L:j<ds.length
    ·rw[L8 (by simpa using L),Lp]at J
     cases e3:ds[j]? with
     |none=>rw[e3]at J;cases J
     |some z=>rw[e3]at J;cases J;let⟨v,hv,rv⟩:=rs.get e3;calc⟨v,?_,rv⟩;rw[L8 (by rw[h7,rs.length];show L),Lp,hv];rfl
    ·rw[L3 (by simpa using L),Mb]at J
     split at J<;>cases J
   ·show q' .non H' x rm' (W5.mpr rfl)
def DT{T:List FD}{k i:Nat}{H:Hp}(B:tz H)(F:SqL K H a (ns.map V.int))(h:phi T k i [.con (ns.map D.int)] (λ_=>N2) λd _=>d=.bl Wi):
 lSp K (phi T k i) [.ref a] H (λv _=>v=.bl Wi) λ_ _ _=>False:=by
 let j:RM K (λ_=>N2) H:=λ_ _ z=>by cases z
 refine⟨[.con (ns.map D.int)],λ_=>N2,j,RDs.cons (W3.mpr ⟨a,ns.map V.int,rfl,?_,RDs.ints ns⟩) RDs.nil,jt T k i [.con (ns.map D.int)] (λ_=>N2) (λd _=>d=.bl Wi) (KE' K (λ_=>N2) H λv _=>v=.bl Wi) (λd M' e=>λv H' x rm rd=>?_) h⟩
 ·rcases F with(z|⟨o,z⟩)|z
  ·rcases B a with q|⟨o,xs,q⟩
   ·rw[z]at q;cases q
   ·rw[z]at q;cases q
  ·show .inl ⟨o,z⟩
  ·show .inr z
 ·subst e;show W0.mp rd
end
def dh(us:List q7)(h:us.length=1):∃a,us=[a]:=List.length_eq_one_iff.mp h
def bg(us:List q7)(h:us.length=2):∃a b,us=[a,b]:=by
 cases us with
 |nil=>cases h
 |cons a us=>let⟨b,rfl⟩:=dh us (UM.inj h);show⟨a,b,rfl⟩
def cC(us:List q7)(h:us.length=3):∃a b c,us=[a,b,c]:=by
 cases us with
 |nil=>cases h
 |cons a us=>let⟨b,c,rfl⟩:=bg us (UM.inj h);show⟨a,b,c,rfl⟩
def uD(us:List q7)(h:us.length=4):∃a b c d,us=[a,b,c,d]:=by
 cases us with
 |nil=>cases h
 |cons a us=>let⟨b,c,d,rfl⟩:=cC us (UM.inj h);show⟨a,b,c,d,rfl⟩
end
variable{b d:Wk}{l v u:List Int}{ts:List (List Int)}{m N fn fp L0 L1 L2 P:Nat}{j i c:Int}{s sn:Stmt}{T:List FD}{ds xs:List D}{M M' M'':Mem}{Q:QD}{ρ:ar}{Φ:Phi}{kvs:List (D×D)}{A B:List (Nat->Int)}{o:O}{E:bh}{zs:List (Int×Int)}{base:List (Nat×List Int)}
section
def DU{k:Nat}{d:FD}(e:T[f]?=Z d)(l:ds.length=d.np)(r:fG d.N ds=ρ)(h:wSs (phi T k) d.body {nx:=λ_ M'=>Q .non M',rt:=Q} ρ M):phi T (k+1) f ds M Q:=⟨d,e,l,by rw[r];show h⟩
def al{n:Nat}{d:FD}(j:1<=n)(e:T[f]?=Z d)(l:ds.length=d.np)(r:fG d.N ds=ρ)(h:wSs (phi T (n-1)) d.body {nx:=λ_ M'=>Q .non M',rt:=Q} ρ M):phi T n f ds M Q:=by
 obtain⟨k,rfl⟩:∃k,n=k+1:=⟨n-1,∅⟩
 show DU e l r h
def GG{D:bh}:wSs Φ .nil D ρ M=D.nx ρ M:=by rw[wSs];rfl
def eR{s:MS}{r:MSs}{D:bh}:wSs Φ (.cons s r) D ρ M=wS Φ s {D with nx:=wSs Φ r D} ρ M:=by rw[wSs];rfl
def GH{y:D}:wIx (.tup ds) y M Q=∃i d,y=.int i/\atI ds i=Z d/\Q d M:=rfl
def GI{y:D}:wIx (.con ds) y M Q=∃i d,y=.int i/\atI ds i=Z d/\Q d M:=rfl
def aI{d:D}(h:M a=Z (.lst ds))(e:atI ds i=Z d)(q:Q d M):wIx (.ref a) (.int i) M Q:=.inl ⟨ds,i,d,h,rfl,e,q⟩
def bH{v:D}{j:Nat}{Q:Mem->Prop}(h:M a=Z (.lst ds))(e:ixN ds.length i=Z j)(q:Q (ag M a (.lst (ds.set j v)))):iE (.ref a) (.int i) v M Q:=⟨a,rfl,.inl ⟨ds,i,j,rfl,h,e,q⟩⟩
def BO(h:M a=Z (.lst ds))(q:Q (.int ds.length) M):fX [.ref a] M Q:=⟨_,_,rfl,by simp only[jg,h],q⟩
def ab(h:M a=Z (.lst ds)):aQ M (.ref a)=Z ds:=by simp only[aQ,h]
def Hu:lc [.int i] M Q=Q (.int i) M:=by
 apply propext;constructor
 ·rintro(⟨j,e,q⟩|⟨k,e,q⟩)
  ·cases e;show q
  ·cases e
 ·showλq=>.inl ⟨i,rfl,q⟩
def Hv{b:Bool}:lc [.bl b] M Q=Q (.int (if b then 1 else 0)) M:=by
 apply propext;constructor
 ·rintro(⟨j,e,q⟩|⟨k,e,q⟩)
  ·cases e
  ·cases e;show q
 ·showλq=>.inr ⟨b,rfl,q⟩
def Ix:wEq (.int i) (.int j) M Q=Q (.bl (i==j)) M:=by simp[wEq,rb,Mr]
def Iy:wNe (.int i) (.int j) M Q=Q (.bl (!(i==j))) M:=by simp[wNe,rb,Mr]
def Hw:fu (.int i) (.int j) M Q=Q (.int (i+j)) M:=rfl
def Hx{a b:List D}:fu (.tup a) (.tup b) M Q=((a≠[]∨True)/\a.length+b.length<=Lf/\Q (.tup (a++b)) M):=rfl
def Hy:kW (.int i) (.int j) M Q=Q (.int (i-j)) M:=rfl
def Hz:fw (.int i) (.int j) M Q=(MulOk i j/\Q (.int (i*j)) M):=rfl
def HA{k:Int}:fw (.tup ds) (.int k) M Q=(-(2^63)<=k/\k<2^63/\ds.length*k.toNat<=Lf/\Q (.tup (I7 k.toNat ds).flatten) M):=rfl
def GJ:jS (.int i) (.int j) M Q=(0<j/\j<2^256/\Q (.int (i / j)) M):=rfl
def HB:gT (.int i) (.int j) M Q=(0<j/\Q (.int (i%j)) M):=rfl
def HC:oR (.int i) (.int j) M Q=(0<=j/\j<=1000000/\i.natAbs<2^64/\Q (.int (i^j.toNat)) M):=rfl
def Iz:wLt (.int i) (.int j) M Q=Q (.bl (decide (i<j))) M:=rfl
def IA:wLe (.int i) (.int j) M Q=Q (.bl (decide (i<=j))) M:=rfl
def Fn:wGt (.int i) (.int j) M Q=Q (.bl (decide (j<i))) M:=rfl
def IB:wGe (.int i) (.int j) M Q=Q (.bl (decide (j<=i))) M:=rfl
def GK:kg (.int i) (.int j) M Q=Q (.int (i+j)) M:=rfl
def GL:kh (.int i) (.int j) M Q=Q (.int (i-j)) M:=rfl
def GM:ki (.int i) (.int j) M Q=(MulOk i j/\Q (.int (i*j)) M):=rfl
def HD:oS (.int i) M Q=Q (.int (-i)) M:=rfl
def HE:kZ [.int i] M Q=Q (.int (if i<0 then -i else i)) M:=by simp[kZ]
def GN:jT [.int i,.int j] M Q=Q (.int (if j > i then j else i)) M:=by
 apply propext;constructor
 ·rintro⟨a,b,e,q⟩;cases e;show q
 ·showλq=>⟨i,j,rfl,q⟩
def GO:jU [.int i,.int j] M Q=Q (.int (if j<i then j else i)) M:=by
 apply propext;constructor
 ·rintro⟨a,b,e,q⟩;cases e;show q
 ·showλq=>⟨i,j,rfl,q⟩
def HF:fX [.con ds] M Q=Q (.int ds.length) M:=by simp[fX,jg]
def HG:fX [.tup ds] M Q=Q (.int ds.length) M:=by simp[fX,jg]
def HH:aQ M (.tup ds)=Z ds:=rfl
def HI:aQ M (.con ds)=Z ds:=rfl
def IC{α:Sort _}{a b:α}:(if Wi=Wi then a else b)=a:=rfl
def ID{α:Sort _}{a b:α}:(if Wj=Wi then a else b)=b:=rfl
def GP{ta tb:TEd}{R:List D->(Mem->Prop)->Mem->Prop}:lg ta tb ρ M R=ta ρ M λx j=>tb ρ j λy M2=>∃xs ys,aQ M2 x=Z xs/\aQ M2 y=Z ys/\R (Pm gd xs ys) (λM=>aQ M x=Z xs/\aQ M y=Z ys) M2:=by
 unfold lg aP;congr 1;funext x j;unfold bx;congr 1;funext y M2;apply propext;constructor
 ·rintro⟨x',y',xs,ys,e,q⟩
  cases e;show⟨xs,ys,q⟩
 ·rintro⟨xs,ys,q⟩;show⟨x,y,xs,ys,rfl,q⟩
def HJ{y:Str}:fu (.str x) (.str y) M Q=(x.length+y.length<=Lf/\Q (.str (x++y)) M):=rfl
def HK{i}:wE Φ (.var i)=aY i:=rfl
def HM{i}:wE Φ (.int i)=wC (.int i):=rfl
def IE{b}:wE Φ (.bl b)=wC (.bl b):=rfl
def HN:wE Φ (.non)=wC .non:=rfl
def HP{x}:wE Φ (.str x)=wC (.str x):=rfl
def HQ{op}{a}{b}:wE Φ (.bin op a b)=wOp (opB op) (wE Φ a) (wE Φ b):=rfl
def HR{a}:wE Φ (.neg a)=wUn oS (wE Φ a):=rfl
def HS{op}{a}{b}:wE Φ (.cmp op a b)=wOp (opC op) (wE Φ a) (wE Φ b):=rfl
def HU{es}:wE Φ (.and es)=wAnds Φ es:=rfl
def IF{es}:wE Φ (.or es)=wOrs Φ es:=rfl
def HV{a}:wE Φ (.not a)=nO (wE Φ a):=rfl
def HW{c}{a}{b}:wE Φ (.ite c a b)=wIf (wT Φ c) (wE Φ a) (wE Φ b):=rfl
def HX{es}:wE Φ (.tup es)=wAr oP (wA Φ es):=rfl
def HY{es}:wE Φ (.lst es)=wAr tH (wA Φ es):=rfl
def IG{a}{b}:wE Φ (.ix a b)=wOp wIx (wE Φ a) (wE Φ b):=rfl
def IH{a}{lo}{hi}:wE Φ (.sl a lo hi)=wSl (wE Φ a) (wO Φ lo) (wO Φ hi):=rfl
def GQ{f}{es}:wE Φ (.call f es)=wAr (Φ f) (wA Φ es):=rfl
def HZ{f}{es}:wE Φ (.blt f es)=wAr (opF f) (wA Φ es):=rfl
def GR{a}{T}:wE Φ (.isin a T)=nQ T (wE Φ a):=rfl
def Gm{op}{op'}{a}{b}{c}:wE Φ (.chain op op' a b c)=di (opC op) (opC op') (wE Φ a) (wE Φ b) (wE Φ c):=rfl
def GS{j}{d}:wE Φ (.glob j d)=wC d:=rfl
def GT{t}:wE Φ (.dnew t)=nX t:=rfl
def II{k}{v}:wE Φ (.d1 k v)=wD1 (wE Φ k) (wE Φ v):=rfl
def GU{o}{k}{x}:wE Φ (.dget o k x)=nY (wE Φ o) (wE Φ k) (wE Φ x):=rfl
def GW{m}{o}{a}:wE Φ (.meth m o a)=wBM (opM m) (wE Φ o) (aP (wE Φ a) bx):=rfl
def Gn{m}{o}:wE Φ (.meth0 m o)=wBM (ui m) (wE Φ o) bx:=rfl
def GX{fr}{j}{c}:wE Φ (.comp fr j c)=wCmp Φ fr c:=rfl
def GY:wA Φ (.nil)=bx:=rfl
def Go{e}{r}:wA Φ (.cons e r)=aP (wE Φ e) (wA Φ r):=rfl
def Gp:wTl Φ (.nil)=[]:=rfl
def FL{t}{r}:wTl Φ (.cons t r)=wT Φ t::wTl Φ r:=rfl
def I0{e}:wI Φ (.seq e)=tQ (wE Φ e):=rfl
def GZ{a}:wI Φ (.rng1 a)=nR (aP (wE Φ a) bx):=rfl
def H0{a}{b}:wI Φ (.rng2 a b)=nT (aP (wE Φ a) (aP (wE Φ b) bx)):=rfl
def I8{a}{b}:wI Φ (.zip a b)=lg (wE Φ a) (wE Φ b):=rfl
def H8{a}:wI Φ (.enum a)=nU (wE Φ a):=rfl
def H9{a}:wI Φ (.keys a)=og (wE Φ a):=rfl
def FM{src}{g}{ifs}{elt}:wCl Φ (.last src g ifs elt)=dS (wI Φ src) (bG g) (bw (wTl Φ ifs) (bN (wE Φ elt))):=rfl
def FN{src}{g}{ifs}{rest}:wCl Φ (.more src g ifs rest)=dS (wI Φ src) (bG g) (bw (wTl Φ ifs) (wCl Φ rest)):=rfl
def Fo{src}{g}{ifs}{elt}:wCmp Φ fr (.last src g ifs elt)=iD fr (wI Φ src) (bG g) (bw (wTl Φ ifs) (bN (wE Φ elt))):=rfl
def Fp{src}{g}{ifs}{rest}:wCmp Φ fr (.more src g ifs rest)=iD fr (wI Φ src) (bG g) (bw (wTl Φ ifs) (wCl Φ rest)):=rfl
def I9{g}{e}:wS Φ (.asg g e)=lh (wE Φ e) (bG g):=rfl
def Ia{i}{j}{a}{b}:wS Φ (.par i j a b)=tS (aP (wE Φ a) (aP (wE Φ b) bx)) (bM (bb i) (bM (bb j) fZ)):=rfl
def Ib{o}{i}{e}:wS Φ (.put o i e)=tY (wE Φ e) (wE Φ o) (wE Φ i):=rfl
def Ic{i}{op}{e}:wS Φ (.aug i op e)=tZ i (opI op) (wE Φ e):=rfl
def Ha{e}:wS Φ (.drop e)=nW (wE Φ e):=rfl
def Id{e}:wS Φ (.ret e)=tR (wE Φ e):=rfl
def Ie{c}{a}{b}:wS Φ (.ite c a b)=sIf (wT Φ c) (wSs Φ a) (wSs Φ b):=rfl
def Ig{g}{src}{b}:wS Φ (.for g src b)=tT (wI Φ src) (bG g) (wSs Φ b):=rfl
def Gq{c}{b}:wS Φ (.while c b)=kf (wT Φ c) (wSs Φ b):=rfl
def Ih{i}{s}:wS Φ (.frz i s)=jl i (wS Φ s):=rfl
def Hb:wS Φ (.pass)=jZ:=rfl
def Ii:wS Φ (.brk)=kc:=rfl
def Ij:wS Φ (.cnt)=nV:=rfl
def Ik{e}:wT Φ (.tru e)=tM (wE Φ e):=rfl
def Il{op}{a}{b}:wT Φ (.cmp op a b)=fj (wOp (opC op) (wE Φ a) (wE Φ b)):=rfl
def Gr{op}{op'}{a}{b}{c}:wT Φ (.chain op op' a b c)=fj (di (opC op) (opC op') (wE Φ a) (wE Φ b) (wE Φ c)):=rfl
def Im{ts}:wT Φ (.and ts)=wAndTs Φ ts:=rfl
def IJ{ts}:wT Φ (.or ts)=wOrTs Φ ts:=rfl
def Io{t}:wT Φ (.not t)=nL (wT Φ t):=rfl
def Ex:wAndTs Φ (.nil)=λ_ _ _=>False:=rfl
def DV{e}:wAndTs Φ (.cons e .nil)=wT Φ e:=rfl
def DW{e}{f}{r}:wAndTs Φ (.cons e (.cons f r))=nM (wT Φ e) (wAndTs Φ (.cons f r)):=rfl
def Fq:wOrTs Φ (.nil)=λ_ _ _=>False:=rfl
def Ey{e}:wOrTs Φ (.cons e .nil)=wT Φ e:=rfl
def Ez{e}{f}{r}:wOrTs Φ (.cons e (.cons f r))=tN (wT Φ e) (wOrTs Φ (.cons f r)):=rfl
def Ft:wAnds Φ (.nil)=λ_ _ _=>False:=rfl
def EA{e}:wAnds Φ (.cons e .nil)=wE Φ e:=rfl
def EB{e}{f}{r}:wAnds Φ (.cons e (.cons f r))=nN (wE Φ e) (wAnds Φ (.cons f r)):=rfl
def FO:wOrs Φ (.nil)=λ_ _ _=>False:=rfl
def Fu{e}:wOrs Φ (.cons e .nil)=wE Φ e:=rfl
def Fv{e}{f}{r}:wOrs Φ (.cons e (.cons f r))=tO (wE Φ e) (wOrs Φ (.cons f r)):=rfl
def Gs{i}:bG (.name i)=bb i:=rfl
def Hc{gs}:bG (.tup gs)=pj (bGs gs):=rfl
def Gu:bGs (.nil)=fZ:=rfl
def FP{g}{r}:bGs (.cons g r)=bM (bG g) (bGs r):=rfl
def Gv:wO Φ (.none)=iz:=rfl
def Gw{e}:wO Φ (.some e)=nP (wE Φ e):=rfl
def Hd:opB (.add)=fu:=rfl
def He:opB (.sub)=kW:=rfl
def Hf:opB (.mul)=fw:=rfl
def Gx:opB (.fdiv)=jS:=rfl
def Hg:opB (.mod)=gT:=rfl
def Hh:opB (.pow)=oR:=rfl
def Iq:opC (.eq)=wEq:=rfl
def Ir:opC (.ne)=wNe:=rfl
def Is:opC (.lt)=wLt:=rfl
def Iu:opC (.le)=wLe:=rfl
def Iv:opC (.gt)=wGt:=rfl
def Iw:opC (.ge)=wGe:=rfl
def Hi:opC (.isn)=u6:=rfl
def Hj:opC (.eqD)=ug:=rfl
def Gy:opC (.ninD)=uh Wi:=rfl
def Hk:opF (.len)=fX:=rfl
def Gz:opF (.lenT)=oh:=rfl
def Hl:opF (.abs)=kZ:=rfl
def GA:opF (.max2)=jT:=rfl
def GB:opF (.min2)=jU:=rfl
def Hm:opF (.int)=lc:=rfl
def GC:opF (.list)=nK:=rfl
def FQ:opF (.tuple)=gU:=rfl
def Hn:opF (.all)=pB:=rfl
def Ho:opF (.any)=u7:=rfl
def GD:opF (.dict)=nZ:=rfl
def FR:opF (.sortk)=kx:=rfl
def Fw:opM (.append)=iA:=rfl
def Fx:opM (.extend)=iB:=rfl
def Fy:ui (.clear)=jW:=rfl
def Hq:opI (.add)=kg:=rfl
def Hr:opI (.sub)=kh:=rfl
def Hs:opI (.mul)=ki:=rfl
local macro_rules|`(tactic| ac_nf)=>do
 let f:=fun(n:Lean.Name)(s:String)=>(s.splitOn " ").toArray.map fun x=>(⟨(Lean.mkIdent (n++x.toName)).raw⟩:Lean.Term)
 let a:=f `_root_.L2.Mi "tF aY wC wOp wUn bx aP wAr fj oP tH tM nL nM tN nN tO nO wIf iz nP wSl nQ wBM bb fZ bM pj tQ nR nT nU bN bw dS iD jZ yK kc nV nW tR sIf lh tS tT kf tY tZ di nX nY og wD1 GG GH GI Hu Hv Ix Iy Hw Hx Hy Hz HA GJ HB HC Iz IA Fn IB GK GL GM HD HE GN GO HF HG HH HI IC ID GP HJ HK HM IE HN HP HQ HR HS HU IF HV HW HX HY IG IH GQ HZ GR Gm GS GT II GU GW Gn GX GY Go Gp FL I0 GZ H0 I8 H8 H9 FM FN Fo Fp I9 Ia Ib Ic Ha Id Ie Ig Gq Ih Hb Ii Ij Ik Il Gr Im IJ Io Ex DV DW Fq Ey Ez Ft EA EB FO Fu Fv Gs Hc Gu FP Gv Gw Hd He Hf Gx Hg Hh Iq Ir Is Iu Iv Iw Hi Hj Gy Hk Gz Hl GA GB Hm GC FQ Hn Ho GD FR Fw Fx Fy Hq Hr Hs"
 let b1:=a++f .anonymous "So Ou Ul Um QM Pu V7 V8 V9 Lj Np LB NN"
 let b2:=a++f .anonymous "NO if_false if_true So Ou Ul Um UG exists_eq_left' exists_eq_left exists_eq_right exists_and_left exists_and_right D.bl.injEq D.int.injEq D.ref.injEq D.tup.injEq QM Pu V7 V8 V9 Lj Np decide_eq_true_eq Vu and_true true_and LB NN"
 `(tactic| ((try dsimp only[$[$b1:term],*]);(try simp only[$[$b2:term],*])))
local macro_rules|`(tactic| nofun)=>`(tactic| ((first|rw[eR]|(dsimp only;rw[eR]));ac_nf))
def kD{k d:D}(h:M a=Z (.fdc kvs))(ok:bO k=Wi)(e:dget kvs k=Z d)(q:Q d M):wIx (.ref a) k M Q:=.inr (.inr ⟨kvs,d,h,ok,e,q⟩)
def lr{i:Nat}{t:TSd}{A:bh}(e:ρ[i]?=Z (Z (.ref a)))(m:M a=Z (.dct Wi kvs))(h:t A ρ (ag M a (.fdc kvs))):jl i t A ρ M:=⟨a,kvs,e,.inl ⟨m,h⟩⟩
def BP{i:Nat}{t:TSd}{A:bh}(e:ρ[i]?=Z (Z (.ref a)))(m:M a=Z (.fdc kvs))(h:t A ρ M):jl i t A ρ M:=⟨a,kvs,e,.inr ⟨m,h⟩⟩
def qc{t:Bool}{k v:D}{Q:Mem->Prop}(h:M a=Z (.dct t kvs))(ok:fV t k=Wi)(j:kvs.length<Lf)(q:Q (ag M a (.dct t (ca kvs k v)))):iE (.ref a) k v M Q:=⟨a,rfl,.inr ⟨t,kvs,h,ok,j,q⟩⟩
def nr{o':O}:ag (ag M a o) a o'=ag M a o':=by funext b;unfold ag;split<;>rfl
abbrev Ge(M M':Mem):Prop:=∀a o,M a=Z o->M' a=Z o
def Ge.refl:Ge M M:=λ_ _ h=>h
def Ge.trans(h:Ge M M')(g:Ge M' M''):Ge M M'':=λ_ _ e=>g _ _ (h _ _ e)
def Ge.new{p:Wk}(h:M p=N2):Ge M (ag M p o):=λa o' e=>by rw[av (λz=>by rw[z,h]at e;cases e)];show e
abbrev Box(b:Wk)(M:Mem):Prop:=∃x y z:Int,M b=Z (.lst [.int x,.int y,.int z])
structure Bx(b:Wk)(M M':Mem):Prop where
 box:Box b M'
 keep:∀a o,a≠b->M a=Z o->M' a=Z o
def Bx.refl(h:Box b M):Bx b M M:=⟨h,λ_ _ _ e=>e⟩
def Bx.trans(h:Bx b M M')(g:Bx b M' M''):Bx b M M'':=⟨g.box,λa o n e=>g.keep a o n (h.keep a o n e)⟩
def Bx.ge(h:Bx b M M')(g:Ge M' M''):Bx b M M'':=⟨by let⟨x,y,z,e⟩:=h.box;show⟨x,y,z,g _ _ e⟩,λa o n e=>g _ _ (h.keep a o n e)⟩
def Bx.put{x y z:Int}:Bx b M (ag M b (.lst [.int x,.int y,.int z])):=⟨⟨x,y,z,aa⟩,λa o n e=>by rw[av n];show e⟩
def Bx.of(h:Box b M)(g:Ge M M'):Bx b M M':=(Bx.refl h).ge g
def wM{b:BT}{chk:Mem->Prop}{N:NC}(I:List D->ar->Mem->List D->Prop){acc:List D}(h0:I [] ρ M acc)(q:∀l ρ M acc,I l ρ M acc->chk M)(hs:∀l x r ρ M acc,xs=l++x::r->I l ρ M acc->∃ρ',b x ρ=Z ρ'/\∀N':NC,(∀ρ2 M2 j,I (l++[x]) ρ2 M2 j->N' ρ2 M2 j)->tb ρ' M acc N')(z:∀ρ M acc,I xs ρ M acc->N ρ M acc):be b tb chk N xs ρ M acc:=by
 let g:∀(r l:List D) (ρ:ar) (M:Mem) (acc:List D),xs=l++r->I l ρ M acc->be b tb chk N r ρ M acc:=by
  intro r
  induction r with
  |nil=>intro l ρ M acc e i;rw[MB]at e;subst e;show⟨q _ _ _ _ i,z _ _ _ i⟩
  |cons x r ih=>intro l ρ M acc e i;let⟨ρ',B,h⟩:=hs l x r ρ M acc e i;show⟨q _ _ _ _ i,ρ',B,h _ λρ2 M2 j F=>ih (l++[x]) ρ2 M2 j (by rw[e];simp) F⟩
 show g xs [] ρ M acc rfl h0
def zC{b:BT}{tb:TSd}{chk:Mem->Prop}(I:List D->ar->Mem->Prop)(h0:I [] ρ M)(j:∀l ρ M,I l ρ M->chk M)(hs:∀l x r ρ M,xs=l++x::r->I l ρ M->∃ρ',b x ρ=Z ρ'/\∀F:ar->Mem->Prop,(∀ρ2 M2,I (l++[x]) ρ2 M2->F ρ2 M2)->tb {E with nx:=F,ct:=F,bk:=E.nx} ρ' M)(q:∀ρ M,I xs ρ M->E.nx ρ M):bT b tb chk E xs ρ M:=by
 let g:∀(r l:List D) (ρ:ar) (M:Mem),xs=l++r->I l ρ M->bT b tb chk E r ρ M:=by
  intro r
  induction r with
  |nil=>intro l ρ M e i;rw[MB]at e;subst e;show⟨j _ _ _ i,q _ _ i⟩
  |cons x r ih=>intro l ρ M e i;let⟨ρ',z,h⟩:=hs l x r ρ M e i;show⟨j _ _ _ i,ρ',z,h _ λρ2 M2 B=>ih (l++[x]) ρ2 M2 (by rw[e];simp) B⟩
 show g xs [] ρ M rfl h0
section
variable{T:List FD}
abbrev kE(s:Stmt):FD:=⟨"_law_cell_at",s,["_law_script","_law_k"],2,
 (.cons (.ite (.cmp .lt (.var 1) (.blt .len (.cons (.var 0) .nil))) (.cons (.ret (.ix (.var 0) (.var 1)))
 .nil) .nil)
 (.cons (.ret (.int 0))
 .nil))⟩
def qd{α:Type}{xs:List α}(h0:0<=i)(h1:i<xs.length):∃x,atI xs i=Z x/\xs[i.toNat]?=Z x:=by
 let:i.toNat<xs.length:=∅
 calc⟨xs[i.toNat],?_,z4 this⟩;unfold atI ixN;simp[h0,h1,z4 this]
def BQ(hf:T[f]?=Z (kE s)){n:Nat}(z:1<=n){k:Int}(h0:0<=k)(q:∀i,Q (.int i) M):phi T n f [.con (ns.map D.int),.int k] M Q:=by
 calc al z hf rfl (ρ:=[Z _,Z _]) rfl ?_;unfold kE;nofun
 split
 ·next h=>
  nofun;let⟨x,e,j⟩:=qd (xs:=ns.map D.int) h0 h;rw[Lp]at j
  cases e3:ns[k.toNat]? with
  |none=>rw[e3]at j;cases j
  |some y=>rw[e3]at j;cases j;show⟨_,e,q y⟩
 ·nofun;show q 0
def dA(h:-(2^64)<i/\i<2^64):MulOk i j:=.inl h
def gD(h:-(2^64)<j/\j<2^64):MulOk i j:=.inr (.inl h)
abbrev lu(s:Stmt):FD:=⟨"_law_mixed",s,["_law_number_here","_law_k","_law_once","_law_twice"],2,
 (.cons (.asg (.name 2) (.bin .mod (.bin .mul (.bin .add (.bin .add (.bin .mod (.var 0) (.int 1000000007)) (.bin .mul (.int 7) (.var 1))) (.int 1)) (.int 48271)) (.int 2147483647)))
 (.cons (.asg (.name 3) (.bin .mod (.bin .mul (.var 2) (.bin .add (.bin .add (.bin .mod (.var 2) (.int 1009)) (.var 1)) (.int 3))) (.int 998244353)))
 (.cons (.ret (.bin .fdiv (.bin .mod (.bin .add (.bin .mul (.var 3) (.int 39373)) (.var 2)) (.int 2147483629)) (.int 64)))
 .nil)))⟩
abbrev uE(s:Stmt)(fc fm:Nat):FD:=⟨"_law_box",s,["_law_script","_law_k","_law_cell"],2,
 (.cons (.asg (.name 2) (.call fc (.cons (.var 0) (.cons (.var 1) .nil))))
 (.cons (.ret (.lst (.cons (.bin .mul (.blt .abs (.cons (.var 2) .nil)) (.blt .int (.cons (.cmp .ge (.blt .abs (.cons (.var 2) .nil)) (.bin .pow (.int 10) (.int 18))) .nil))) (.cons (.call fm (.cons (.var 2) (.cons (.bin .add (.int 900) (.var 1)) .nil))) (.cons (.int 0) .nil)))))
 .nil))⟩
def DX{fc fm:Nat}{sc:Stmt}(hf:T[f]?=Z (uE s fc fm))(z:T[fc]?=Z (kE sc)){n:Nat}(B:∀{x k:Int} {M:Mem} {Q:QD},(∀i,Q (.int i) M)->phi T (n-1) fm [.int x,.int k] M Q)(G:2<=n){k:Int}(h0:0<=k)(q:∀p x y,M p=N2->Q (.ref p) (ag M p (.lst [.int x,.int y,.int 0]))):phi T n f [.con (ns.map D.int),.int k] M Q:=by
 refine al ∅ hf rfl (ρ:=[Z _,Z _,N2]) rfl ?_
 unfold uE;nofun;refine BQ z ∅ h0 λi=>?_
 nofun;refine⟨by decide,by decide,by decide,gD ?_,?_⟩
 ·split<;>lia
 calc B λj=>?_;show⟨by rw[D0];lia,λp F=>q p _ _ F⟩
abbrev qe(s:Stmt)(fm:Nat):FD:=⟨"_law_take",s,["_law_box_here","_law_many","_law_found","_law_reach"],2,
 (.cons (.ite (.cmp .gt (.ix (.var 0) (.int 0)) (.int 0)) (.cons (.asg (.name 2) (.bin .mod (.ix (.var 0) (.int 0)) (.var 1)))
 (.cons (.put (.var 0) (.int 0) (.bin .fdiv (.ix (.var 0) (.int 0)) (.var 1)))
 (.cons (.ret (.var 2))
 .nil))) .nil)
 (.cons (.asg (.tup (.cons (.name 2) (.cons (.name 3) .nil))) (.tup (.cons (.int 0) (.cons (.int 1) .nil))))
 (.cons (.while (.cmp .lt (.var 3) (.var 1)) (.cons (.put (.var 0) (.int 2) (.bin .add (.ix (.var 0) (.int 2)) (.int 1)))
 (.cons (.asg (.name 2) (.bin .add (.bin .mul (.var 2) (.int 33554432)) (.call fm (.cons (.ix (.var 0) (.int 1)) (.cons (.ix (.var 0) (.int 2)) .nil)))))
 (.cons (.asg (.name 3) (.bin .mul (.var 3) (.int 33554432)))
 .nil))))
 (.cons (.ret (.bin .mod (.var 2) (.var 1)))
 .nil))))⟩
abbrev uF(T:List FD)(n fm:Nat):Prop:=∀{x k:Int} {M:Mem} {Q:QD},(∀i,Q (.int i) M)->phi T n fm [.int x,.int k] M Q
def BR{fm:Nat}(hf:T[f]?=Z (qe s fm)){n:Nat}(J:uF T (n-1) fm)(O:2<=n){m:Int}(L:Box b M)(h1:0<m)(h2:m<=2^120)(q:∀r M',0<=r->r<m->Bx b M M'->Q (.int r) M'):phi T n f [.ref b,.int m] M Q:=by
 refine al ∅ hf rfl (ρ:=[Z _,Z _,N2,N2]) rfl ?_
 unfold qe;let⟨x,y,z,G⟩:=L;nofun;calc aI G (d:=.int x) rfl ?_;simp only[Fn];ac_nf
 split
 ·next hx=>
  nofun;calc aI G (d:=.int x) rfl ?_;ac_nf;calc⟨h1,?_⟩;nofun;calc aI G (d:=.int x) rfl ?_;ac_nf;refine⟨h1,∅,?_⟩
  calc bH G (j:=0) rfl ?_;nofun;show q _ _ (Nb _ ∅) (Mv _ h1) Bx.put
 ·next hx=>
  nofun;refine⟨by rw[D0];lia,?_⟩
  nofun;calc⟨6,?_⟩;let go:∀(f:Nat) (found reach z:Int) (M':Mem),m<=reach*33554432^f->M' b=Z (.lst [.int x,.int y,.int z])->Bx b M M'->
   aT (fj (wOp wLt (aY 3) (aY 1))) (wSs (phi T (n-1)) (MSs.cons (MS.put (ME.var 0) (ME.int 2) (ME.bin BOp.add ((ME.var 0).ix (ME.int 2)) (ME.int 1)))
    (MSs.cons (MS.asg (MG.name 2) (ME.bin BOp.add (ME.bin BOp.mul (ME.var 2) (ME.int 33554432)) (ME.call fm (MEs.cons ((ME.var 0).ix (ME.int 1)) (MEs.cons ((ME.var 0).ix (ME.int 2)) MEs.nil)))))
      (MSs.cons (MS.asg (MG.name 3) (ME.bin BOp.mul (ME.var 3) (ME.int 33554432))) MSs.nil))))
    {nx:=wSs (phi T (n-1)) (MSs.cons (MS.ret (ME.bin BOp.mod (ME.var 2) (ME.var 1))) MSs.nil) {nx:=λx M'=>Q D.non M',rt:=Q},rt:=Q} (f+1) [Z (.ref b),Z (.int m),Z (.int found),Z (.int reach)] M':=by
   intro f
   induction f with
   |zero=>
    intro found reach z M' hm F B;simp only[aT];ac_nf;rw[if_neg ∅]
    nofun;show⟨h1,q _ _ (Nb _ ∅) (Mv _ h1) B⟩
   |succ f ih=>
    intro found reach z M' hm F B;rw[aT];ac_nf
    split
    ·next U=>
     nofun;calc aI F (d:=.int z) rfl ?_;ac_nf;calc bH F (j:=2) rfl ?_;nofun;refine⟨gD (·),?_⟩
     calc aI aa (d:=.int y) rfl ?_;calc aI aa (d:=.int (z+1)) rfl ?_;calc J λi=>?_;ac_nf;nofun;refine⟨gD (·),?_⟩
     show ih _ _ (z+1) _ (by rw[U5,<-Int.pow_succ'];show hm) aa (B.trans Bx.put)
    ·nofun;show⟨h1,q _ _ (Nb _ ∅) (Mv _ h1) B⟩
  show go 5 0 1 z M ∅ G (Bx.refl ⟨x,y,z,G⟩)
abbrev wN(T:List FD)(n f:Nat):Prop:=∀{b:Wk} {m:Int} {M:Mem} {Q:QD},Box b M->0<m->m<=2^120->(∀r M',0<=r->r<m->Bx b M M'->Q (.int r) M')->phi T n f [.ref b,.int m] M Q
end
section
variable{T:List FD}
abbrev qf(T:List FD)(n f:Nat):Prop:=∀{b:Wk} {M:Mem} {Q:QD},Box b M->(∀r M',-1000<=r->r<=1000->Bx b M M'->Q (.int r) M')->phi T n f [.ref b] M Q
abbrev fg(ns:List Int):Prop:=∀x∈ns,-1000<=x/\x<=1000
def dM{lo:Int}{n:Nat}:(ce lo n).length=n:=by simp[ce]
def ah{α:Type}{xs l r:List α}{x:α}(e:xs=l++x::r):l.length<xs.length:=by rw[e];simp
abbrev qg(s:Stmt)(fn:Nat):FD:=⟨"_law_part",s,["_law_box_here","_law_length"],2,
 (.cons (.ret (.blt .tuple (.cons (.comp [N2,(Z 0)] ["_law_k","_law_box_here"] (.last (.rng1 (.var 1)) (.name 0) .nil (.call fn (.cons (.var 1) .nil)))) .nil)))
 .nil)⟩
def BS(hf:T[f]?=Z (qg s fn)){n:Nat}(B:qf T (n-1) fn)(Y:1<=n){L:Nat}(fv:L<=1000)(F:Box b M)(q:∀(ns:List Int) M',ns.length=L->fg ns->Bx b M M'->Q (.tup (ns.map .int)) M'):phi T n f [.ref b,.int L] M Q:=by
 refine al ∅ hf rfl (ρ:=[Z _,Z _]) rfl ?_
 unfold qg;nofun;refine⟨∅,∅,?_⟩
 refine wM (I:=λl ρ M' acc=>∃(ns:List Int) (x:Option D),acc=ns.map .int/\ns.length=l.length/\fg ns/\Bx b M M'/\ρ=[x,Z (.ref b)]) ⟨[],N2,rfl,rfl,λ_ h=>by simp at h,Bx.refl F,rfl⟩ (λ_ _ _ _ _=>trivial) ?_ ?_
 ·rintro l x r ρ M1 acc e ⟨ns,o,rfl,j,hs,z,rfl⟩;calc⟨_,rfl,λN' G=>?_⟩;ac_nf;calc B z.box λv M2 h1 h2 J=>?_;let:=ah e;rw[dM]at this;refine⟨by rw[h7,j,D0];lia,G _ _ _ ⟨ns++[v],_,by simp,by simp[j],?_,z.trans J,rfl⟩⟩
  intro y O
  rcases Lb.mp O with h|h
  ·show hs y h
  ·simp at h;subst h;show⟨h1,h2⟩
 ·rintro ρ M1 acc ⟨ns,o,rfl,j,hs,z,rfl⟩ p U;rw[dM]at j;calc⟨_,ns.map .int,rfl,ab aa,q ns _ ∅ hs (z.ge (Ge.new U))⟩
noncomputable abbrev Pr:=List Int×List Int×List Int
abbrev prD(p:Pr):D:=.tup [.tup (p.1.map .int),.tup (p.2.1.map .int),.tup (p.2.2.map .int)]
abbrev cS(p:Pr):Ni:=.tuple [.tuple (p.1.map .int),.tuple (p.2.1.map .int),.tuple (p.2.2.map .int)]
structure qh(L0 L1 L2:Nat)(p:Pr):Prop where
 l0:p.1.length=L0
 l1:p.2.1.length=L1
 l2:p.2.2.length=L2
 s0:fg p.1
 s1:fg p.2.1
 s2:fg p.2.2
def dZ{k:Nat}{M:Mem}:∀ns:List Int,ax (rb k M) (ns.map D.int)=Z (ns.map PyData.int)
 |[]=>rfl
 |x::r=>by
  let e:rb k M (.int x)=Z (.int x):=by cases k<;>rfl
  simp[ax,e,dZ r]
def Fz{k:Nat}(p:Pr):rb (k+2) M (prD p)=Z (cS p):=by simp[rb,prD,cS,ax,dZ]
def fH{k:Nat}{M:Mem}:∀ps:List Pr,ax (rb (k+2) M) (ps.map prD)=Z (ps.map cS)
 |[]=>rfl
 |p::r=>by simp[ax,Fz,fH r]
def fI{k:Nat}(h:M a=Z (.lst ds)):rb (k+1) M (.ref a)=(ax (rb k M) ds).map Vi:=by simp only[rb,h]
def qi{s:MS}{r:MSs}(I:ar->Mem->Prop)(h1:∀R:ar->Mem->Prop,(∀ρ M,I ρ M->R ρ M)->wS Φ s {E with nx:=R} ρ M)(h2:∀ρ M,I ρ M->wSs Φ r E ρ M):wSs Φ (.cons s r) E ρ M:=by rw[eR];show h1 _ h2
def Bx.upd{q:Wk}(h:Bx b M M')(B:M q=N2)(j:q≠b):Bx b M (ag M' q o):=
 ⟨by let⟨x,y,z,e⟩:=h.box;show⟨x,y,z,by rw[av j.symm];show e⟩,fun u o' nu eu=>by rw[av (λz=>by rw[z,B]at eu;cases eu)];show h.keep u o' nu eu⟩
def Bx.none{q:Wk}(h:Bx b M M')(z:M' q=N2)(j:q≠b):M q=N2:=by
 cases e:M q with
 |none=>rfl
 |some o=>rw[h.keep q o j e]at z;cases z
abbrev prL(p:Pr):List D:=[.tup (p.1.map .int),.tup (p.2.1.map .int),.tup (p.2.2.map .int)]
def i6{k:Nat}:fg (I7 k 0):=λx h=>by rw[(List.mem_replicate.mp h).2];decide
def gE{k:Nat}:(I7 k [D.int 0]).flatten=(I7 k (0:Int)).map D.int:=by
 induction k with
 |zero=>rfl
 |succ k ih=>rw[N7,MX,ih];rfl
abbrev wP(T:List FD)(n f:Nat):Prop:=∀{b:Wk} {L:Nat} {M:Mem} {Q:QD},L<=1000->Box b M->(∀(ns:List Int) M',ns.length=L->fg ns->Bx b M M'->Q (.tup (ns.map .int)) M')->phi T n f [.ref b,.int L] M Q
abbrev ju(s:Stmt)(ft fp:Nat):FD:=⟨"_law_scheme",s,["_law_box_here","_law_lengths","_law_count","_law_products","_law_k","_law_product","_law_way","_law_side"],3,
 (.cons (.asg (.name 3) (.lst .nil))
 (.cons (.for (.name 4) (.rng1 (.var 2)) (.cons (.asg (.name 5) (.comp [N2,(Z 0)] ["_law_length","_law_box_here"] (.last (.seq (.var 1)) (.name 0) .nil (.call fp (.cons (.var 1) (.cons (.var 0) .nil))))))
 (.cons (.asg (.name 6) (.call ft (.cons (.var 0) (.cons (.int 8) .nil))))
 (.cons (.ite (.and (.cons (.cmp .lt (.var 6) (.int 3)) (.cons (.cmp .ne (.var 3) (.lst .nil)) .nil))) (.cons (.put (.var 5) (.var 6) (.ix (.ix (.var 3) (.call ft (.cons (.var 0) (.cons (.blt .len (.cons (.var 3) .nil)) .nil)))) (.var 6)))
 .nil) .nil)
 (.cons (.ite (.cmp .eq (.var 6) (.int 3)) (.cons (.asg (.name 7) (.call ft (.cons (.var 0) (.cons (.int 3) .nil))))
 (.cons (.put (.var 5) (.var 7) (.bin .mul (.tup (.cons (.int 0) .nil)) (.ix (.var 1) (.var 7))))
 .nil)) .nil)
 (.cons (.drop (.meth .append (.var 3) (.blt .tuple (.cons (.var 5) .nil))))
 .nil))))))
 (.cons (.ret (.bin .add (.blt .tuple (.cons (.var 1) .nil)) (.tup (.cons (.var 3) .nil))))
 .nil)))⟩
def wQ{ft:Nat}(hf:T[f]?=Z (ju s ft fp)){n:Nat}(IV:wN T (n-1) ft)(IW:wP T (n-1) fp)(hn:1<=n){c:Nat}(h0:L0<=1000)(h1:L1<=1000)(h2:L2<=1000)(hc:c<=1000)(hb:Box b M)(IM:a≠b)(ha:M a=Z (.lst [.int L0,.int L1,.int L2]))(q:∀(ps:List Pr) pr M',ps.length=c->(∀p∈ps,qh L0 L1 L2 p)->Bx b M M'->M pr=N2->M' pr=Z (.lst (ps.map prD))->Q (.tup [.int L0,.int L1,.int L2,.ref pr]) M'):phi T n f [.ref b,.ref a,.int c] M Q:=by
 refine al ∅ hf rfl (ρ:=[Z _,Z _,Z _,N2,N2,N2,N2,N2]) rfl ?_
 unfold ju;nofun;refine⟨∅,λpr IO=>?_⟩
 let U:pr≠b:=λz=>by let⟨x,y,w,e⟩:=hb;rw[<-z,IO]at e;cases e
 let Je:pr≠a:=λz=>by rw[<-z,IO]at ha;cases ha
 nofun;refine⟨∅,∅,?_⟩
 refine zC (I:=λl ρ M'=>∃(ps:List Pr) (o4 o5 o6 o7:Option D),ρ=[Z (.ref b),Z (.ref a),Z (.int c),Z (.ref pr),o4,o5,o6,o7]/\ps.length=l.length/\(∀p∈ps,qh L0 L1 L2 p)/\Bx b M M'/\M' pr=Z (.lst (ps.map prD)))
  ⟨[],N2,N2,N2,N2,rfl,rfl,λ_ h=>by simp at h,Bx.of hb (Ge.new IO),aa⟩ (λ_ _ _ _=>trivial) ?_ ?_
 ·rintro l x r ρ M1 e ⟨ps,o4,o5,o6,o7,rfl,hl,hp,x1,IX⟩;let J6:=ah e;rw[dM]at J6;calc⟨_,rfl,λF hF=>?_⟩;ac_nf;let IP:=x1.keep a _ IM ha;rw[eR];ac_nf;calc⟨_,ab IP,?_⟩;simp only[be];calc⟨ab IP,_,rfl,?_⟩;ac_nf;calc IW h0 x1.box λn0 M2 l0 s0 x2=>?_;let IY:=x2.keep a _ IM IP;refine⟨by simp[D0],ab IY,?_⟩
  calc IW h1 x2.box λn1 M3 l1 s1 x3=>?_;let IZ:=x3.keep a _ IM IY;refine⟨by simp[D0],ab IZ,?_⟩
  calc IW h2 x3.box λn2 M4 l2 s2 x4=>?_;let IS:=x4.keep a _ IM IZ;refine⟨by simp[D0],ab IS,λpq IN=>?_⟩
  let IK:=x4.keep pr _ U (x3.keep pr _ U (x2.keep pr _ U IX));let x5:=((x1.trans x2).trans (x3.trans x4)).ge (Ge.new (o:=.lst ([]++[D.tup (NX D.int n0)]++[D.tup (NX D.int n1)]++[D.tup (NX D.int n2)])) IN);let J:pq≠b:=λz=>by let⟨x,y,w,e⟩:=x4.box;rw[<-z,IN]at e;cases e
  let L:M pq=N2:=((x1.trans x2).trans (x3.trans x4)).none IN J;let Y:pr≠pq:=λz=>by rw[z,IN]at IK;cases IK
  let Jf:a≠pq:=λz=>by rw[z,IN]at IS;cases IS
  let IT:ag M4 pq (.lst ([]++[D.tup (NX D.int n0)]++[D.tup (NX D.int n1)]++[D.tup (NX D.int n2)])) pr=Z (.lst (ps.map prD)):=by rw[av Y];show IK
  let J0:ag M4 pq (.lst ([]++[D.tup (NX D.int n0)]++[D.tup (NX D.int n1)]++[D.tup (NX D.int n2)])) pq=Z (.lst (prL (n0,n1,n2))):=aa;let hok:qh L0 L1 L2 (n0,n1,n2):=⟨l0,l1,l2,s0,s1,s2⟩;generalize ag M4 pq (.lst ([]++[D.tup (NX D.int n0)]++[D.tup (NX D.int n1)]++[D.tup (NX D.int n2)]))=M5 at x5 IT J0;generalize hP:(n0,n1,n2)=p0 at hok J0;clear IN IK x4 IS x3 IZ x2 IY hP;nofun;refine IV x5.box (·) (·) λway M6 w0 w1 x6=>?_
  let IQ:=x6.keep pr _ U IT;let J2:=x6.keep pq _ J J0;let J3:=x5.trans x6;refine qi (I:=λρ' M'=>ρ'=[Z (.ref b),Z (.ref a),Z (.int c),Z (.ref pr),Z x,Z (.ref pq),Z (.int way),o7]/\∃p:Pr,qh L0 L1 L2 p/\Bx b M M'/\M' pr=Z (.lst (ps.map prD))/\M' pq=Z (.lst (prL p))) (λR hR=>?_) ?_
  ·ac_nf
   split
   ·next hw=>
    refine⟨∅,λpe J7=>?_⟩
    let g:=Ge.new (o:=.lst []) J7;refine⟨_,_,fI (g _ _ IQ) |>.trans (by rw[fH];rfl),fI aa,?_⟩
    ac_nf;let x7:=J3.ge g;let O:=g _ _ IQ;let IR:=g _ _ J2
    split
    ·next J8=>
     let Jd:0<ps.length:=by
      cases ps with
      |nil=>simp[Mr,MU]at J8
      |cons p r=>simp
     nofun;calc BO O ?_;refine IV x7.box (by rw[h7];lia) (by rw[h7];lia) λr M8 r0 r1 x8=>?_
     let G:=x8.keep pr _ U O;let fv:=x8.keep pq _ J IR;let⟨d,e1,e2⟩:=qd r0 r1;calc aI G e1 ?_;rw[Lp]at e2
     cases e3:ps[r.toNat]? with
     |none=>rw[e3]at e2;cases e2
     |some pp=>
      rw[e3]at e2;cases e2;let ho:=hp pp (Lh e3);let J9:way=0∨way=1∨way=2:=∅
      let x9:=x7.trans x8
      rcases J9 with rfl|rfl|rfl
      ·calc⟨_,_,rfl,rfl,bH fv (j:=0) rfl ?_⟩;show hR _ _ ⟨rfl,(pp.1,p0.2.1,p0.2.2),⟨ho.l0,hok.l1,hok.l2,ho.s0,hok.s1,hok.s2⟩,x9.upd L J,by rw[av Y];show G,aa⟩
      ·calc⟨_,_,rfl,rfl,bH fv (j:=1) rfl ?_⟩;show hR _ _ ⟨rfl,(p0.1,pp.2.1,p0.2.2),⟨hok.l0,ho.l1,hok.l2,hok.s0,ho.s1,hok.s2⟩,x9.upd L J,by rw[av Y];show G,aa⟩
      ·calc⟨_,_,rfl,rfl,bH fv (j:=2) rfl ?_⟩;show hR _ _ ⟨rfl,(p0.1,p0.2.1,pp.2.2),⟨hok.l0,hok.l1,ho.l2,hok.s0,hok.s1,ho.s2⟩,x9.upd L J,by rw[av Y];show G,aa⟩
    ·show hR _ _ ⟨rfl,p0,hok,x7,O,IR⟩
   ·show hR _ _ ⟨rfl,p0,hok,J3,IQ,J2⟩
  ·rintro ρ M7 ⟨rfl,p,B,x7,O,IR⟩;refine qi (I:=λρ' M'=>∃(o7:Option D),ρ'=[Z (.ref b),Z (.ref a),Z (.int c),Z (.ref pr),Z x,Z (.ref pq),Z (.int way),o7]/\∃p:Pr,qh L0 L1 L2 p/\Bx b M M'/\M' pr=Z (.lst (ps.map prD))/\M' pq=Z (.lst (prL p))) (λR hR=>?_) ?_
   ·ac_nf
    split
    ·nofun;refine IV x7.box (·) (·) λside M8 d0 d1 x8=>?_
     let G:=x8.keep pr _ U O;let fv:=x8.keep pq _ J IR;let x9:=x7.trans x8;let J1:=x9.keep a _ IM ha;nofun;refine⟨by rw[D0];lia,?_⟩
     let Ja:side=0∨side=1∨side=2:=∅
     rcases Ja with rfl|rfl|rfl
     ·calc aI J1 (d:=.int L0) rfl ?_;ac_nf;refine⟨∅,∅,by rw[D0];lia,bH fv (j:=0) rfl ?_⟩
      rw[gE];show hR _ _ ⟨_,rfl,(I7 (L0:Int).toNat 0,p.2.1,p.2.2),⟨by simp,B.l1,B.l2,i6,B.s1,B.s2⟩,x9.upd L J,by rw[av Y];show G,aa⟩
     ·calc aI J1 (d:=.int L1) rfl ?_;ac_nf;refine⟨∅,∅,by rw[D0];lia,bH fv (j:=1) rfl ?_⟩
      rw[gE];show hR _ _ ⟨_,rfl,(p.1,I7 (L1:Int).toNat 0,p.2.2),⟨B.l0,by simp,B.l2,B.s0,i6,B.s2⟩,x9.upd L J,by rw[av Y];show G,aa⟩
     ·calc aI J1 (d:=.int L2) rfl ?_;ac_nf;refine⟨∅,∅,by rw[D0];lia,bH fv (j:=2) rfl ?_⟩
      rw[gE];show hR _ _ ⟨_,rfl,(p.1,p.2.1,I7 (L2:Int).toNat 0),⟨B.l0,B.l1,by simp,B.s0,B.s1,i6⟩,x9.upd L J,by rw[av Y];show G,aa⟩
    ·show hR _ _ ⟨_,rfl,p,B,x7,O,IR⟩
   ·rintro ρ M9 ⟨Jg,rfl,p,B,x9,IU,Jb⟩;nofun;refine⟨⟨_,IU⟩,_,_,rfl,ab Jb,_,_,_,rfl,rfl,IU,by rw[h7,D0];lia,?_⟩
    ac_nf;show hF _ _ ⟨ps++[p],_,_,_,_,rfl,by simp[hl],λp' Jc=>(Lb.mp Jc).elim (hp p') λz=>by simp at z;subst z;show B,x9.upd IO U,by rw[aa];simp[prD,prL]⟩
 ·rintro ρ M1 ⟨ps,o4,o5,o6,o7,rfl,hl,hp,x1,IX⟩;let IP:=x1.keep a _ IM ha;dsimp only;nofun;refine⟨_,_,rfl,ab IP,by rw[D0];lia,?_⟩
  ac_nf;rw[dM]at hl;show⟨by simp,by rw[D0];lia,q ps pr M1 ∅ hp x1 IO IX⟩
end
section
def ak{α:Type}{f:α->D}{b:BT}{chk:Mem->Prop}{N:NC}(I:List α->ar->Mem->List D->Prop){ys:List α}(hx:xs=ys.map f){acc:List D}(h0:I [] ρ M acc)(q:∀l ρ M acc,I l ρ M acc->chk M)(hs:∀l x r ρ M acc,ys=l++x::r->I l ρ M acc->∃ρ',b (f x) ρ=Z ρ'/\∀N':NC,(∀ρ2 M2 j,I (l++[x]) ρ2 M2 j->N' ρ2 M2 j)->tb ρ' M acc N')(z:∀ρ M acc,I ys ρ M acc->N ρ M acc):be b tb chk N xs ρ M acc:=by
 subst hx;let g:∀(r l:List α) (ρ:ar) (M:Mem) (acc:List D),ys=l++r->I l ρ M acc->be b tb chk N (r.map f) ρ M acc:=by
  intro r
  induction r with
  |nil=>intro l ρ M acc e i;rw[MB]at e;subst e;show⟨q _ _ _ _ i,z _ _ _ i⟩
  |cons x r ih=>intro l ρ M acc e i;let⟨ρ',B,h⟩:=hs l x r ρ M acc e i;show⟨q _ _ _ _ i,ρ',B,h _ λρ2 M2 j F=>ih (l++[x]) ρ2 M2 j (by rw[e];simp) F⟩
 show g ys [] ρ M acc rfl h0
def au{α:Type}{f:α->D}{b:BT}{tb:TSd}{chk:Mem->Prop}(I:List α->ar->Mem->Prop){ys:List α}(hx:xs=ys.map f)(h0:I [] ρ M)(j:∀l ρ M,I l ρ M->chk M)(hs:∀l x r ρ M,ys=l++x::r->I l ρ M->∃ρ',b (f x) ρ=Z ρ'/\∀F:ar->Mem->Prop,(∀ρ2 M2,I (l++[x]) ρ2 M2->F ρ2 M2)->tb {E with nx:=F,ct:=F,bk:=E.nx} ρ' M)(q:∀ρ M,I ys ρ M->E.nx ρ M):bT b tb chk E xs ρ M:=by
 subst hx;let g:∀(r l:List α) (ρ:ar) (M:Mem),ys=l++r->I l ρ M->bT b tb chk E (r.map f) ρ M:=by
  intro r
  induction r with
  |nil=>intro l ρ M e i;rw[MB]at e;subst e;show⟨j _ _ _ i,q _ _ i⟩
  |cons x r ih=>intro l ρ M e i;let⟨ρ',z,h⟩:=hs l x r ρ M e i;show⟨j _ _ _ i,ρ',z,h _ λρ2 M2 B=>ih (l++[x]) ρ2 M2 (by rw[e];simp) B⟩
 show g ys [] ρ M rfl h0
def bv{x:D}(h:aQ M x=Z ds):jg M x=Z ds.length:=by
 cases x with
 |ref a=>
  simp only[aQ]at h
  split at h
  ·next e=>cases h;simp only[jg,e]
  ·cases h
 |tup es=>cases h;rfl
 |con es=>cases h;rfl
 |_=>cases h
def bJ{α:Type}{xs:List α}{k:Nat}{x:α}(h:xs[k]?=Z x):atI xs (k:Int)=Z x:=by
 let j:k<xs.length:=(L5.mp h).1;unfold atI ixN;rw[if_pos ∅,if_pos ∅]
 show h
def aC{n:Nat}:ce 0 n=(Lc n).map λi=>D.int (i:Nat):=by simp[ce]
end
section
variable{T:List FD}
abbrev Big(ns:List Int):Prop:=∀x∈ns,-1000000000000<=x/\x<=1000000000000
end
section
variable{T:List FD}
abbrev qj(x:Str)(s:Stmt):FD:=⟨"_law_mixed",s,[x,"_law_k","_law_once","_law_twice"],2,(lu s).body⟩
def wR(hf:T[f]?=Z (qj x s)){n:Nat}(j:1<=n):uF T n f:=by
 intro x k M Q q;calc al j hf rfl (ρ:=[Z _,Z _,N2,N2]) rfl ?_;unfold qj lu;nofun;refine⟨by decide,dA (·),gD (·),by decide,?_⟩
 nofun;refine⟨by decide,dA ?_,by decide,?_⟩
 ·let h1:=Nb ((x%1000000007+7*k+1)*48271) (b:=2147483647) (·)
  let h2:=Mv ((x%1000000007+7*k+1)*48271) (b:=2147483647) (·)
  lia
 nofun;refine⟨gD (·),by decide,by decide,by decide,?_⟩
 show q _
end
section
open L2.Srt
variable{T:List FD}
noncomputable abbrev K3:=Int×Int×Int
noncomputable abbrev Tm:=K3×Int
abbrev k3D(k:K3):D:=.tup [.int k.1,.int k.2.1,.int k.2.2]
abbrev tmD(t:Tm):D:=.tup [.int t.1.1,.int t.1.2.1,.int t.1.2.2,.int t.2]
abbrev kcD(t:Tm):D×D:=(k3D t.1,.int t.2)
abbrev k3K(k:K3):Ky:=.tup [.int k.1,.int k.2.1,.int k.2.2]
abbrev klt(a b:K3):Prop:=ltK (k3K a) (k3K b)=Wi
def iP{a b:K3}(h:k3D a=k3D b):a=b:=by let⟨a1,a2,j⟩:=a;let⟨q,z,B⟩:=b;simp[k3D]at h;simp[h]
def BU{a b:K3}(h:k3K a=k3K b):a=b:=by let⟨a1,a2,j⟩:=a;let⟨q,z,B⟩:=b;simp[k3K]at h;simp[h]
abbrev cf(ts:List Tm)(k:K3):Int:=((ts.filter λt=>decide (t.1=k)).map (·.2)).sum
def cM{k:K3}:cf [] k=0:=rfl
def aR{t:Tm}{ts:List Tm}{k:K3}:cf (t::ts) k=(if t.1=k then t.2 else 0)+cf ts k:=by
 unfold cf
 by_cases h:t.1=k
 ·rw[LL (by simpa using h),if_pos h];simp
 ·rw[LW (by simpa using h),if_neg h];simp
def cE{a b:List Tm}{k:K3}:cf (a++b) k=cf a k+cf b k:=by
 induction a with
 |nil=>simp[cM]
 |cons t a ih=>rw[Sn,aR,aR,ih];lia
def BV{a b:List Tm}(h:a.Perm b){k:K3}:cf a k=cf b k:=by
 induction h with
 |nil=>rfl
 |cons x h ih=>rw[aR,aR,ih]
 |swap x y l=>simp only[aR];lia
 |trans _ _ j q=>rw[j,q]
def fJ{ts:List Tm}{k:K3}(h:∀t∈ts,t.1≠k):cf ts k=0:=by
 induction ts with
 |nil=>rfl
 |cons t ts ih=>rw[aR,if_neg (h t (_)),ih λu j=>h u (by simp[j])];rfl
def kF{ts:List Tm}(j:(ts.map (·.1)).Nodup){t:Tm}(q:t∈ts):cf ts t.1=t.2:=by
 induction ts with
 |nil=>simp at q
 |cons u ts ih=>
  simp only[Lj,Na]at j;rw[aR]
  rcases Lm.mp q with z|z
  ·subst z;rw[if_pos rfl,fJ λv B e=>j.1 (by rw[<-e];show LJ B)]
   lia
  ·rw[if_neg λe=>j.1 (by rw[e];show LJ z),ih j.2 z];lia
abbrev eS(L:List Tm)(k:K3)(c:Int):List Tm:=if(L.any λp=>decide (p.1=k))=Wi then L.map λp=>if p.1=k then(p.1,p.2+c)else p else L++[(k,c)]
def lw{L:List Tm}{k:K3}:dget (L.map kcD) (k3D k)=(L.find? λp=>decide (p.1=k)).map λp=>.int p.2:=by
 unfold dget
 induction L with
 |nil=>rfl
 |cons t L ih=>
  by_cases h:t.1=k
  ·rw[Lj,QA (by simp[kcD,h]),QA (by simpa using h)];rfl
  ·rw[Lj,Po (by simp only[decide_eq_true_eq];showλe=>h (iP e)),Po (by simpa using h),ih]
def wU{L:List Tm}{k:K3}:((L.map kcD).any λp=>decide (p.1=k3D k))=L.any λp=>decide (p.1=k):=by
 induction L with
 |nil=>rfl
 |cons t L ih=>
  rw[Lj,PH,PH,ih];congr 1
  by_cases h:t.1=k
  ·simp[kcD,h]
  ·rw[decide_eq_false h];show decide_eq_false (λe=>h (iP e))
def BW{L:List Tm}(j:(L.map (·.1)).Nodup){k:K3}:ca (L.map kcD) (k3D k) (.int ((((L.find? λp=>decide (p.1=k)).map (·.2)).getD 0)+c))=(eS L k c).map kcD:=by
 unfold ca eS;rw[wU]
 split
 ·next h=>
  rw[N1,N1];apply N8;intro t q;simp only[U6]
  by_cases e:t.1=k
  ·rw[if_pos (by rw[<-e];rfl),if_pos e]
   let:L.find? (λp=>decide (p.1=k))=Z t:=by
    clear h
    induction L with
    |nil=>simp at q
    |cons u L ih=>
     simp only[Lj,Na]at j
     rcases Lm.mp q with z|z
     ·subst z;rw[QA (by simpa using e)]
     ·rw[Po (by simp;intro B;show j.1 (by rw[B,<-e];show LJ z))]
      show ih j.2 z
   rw[this];rfl
  ·rw[if_neg (c:=(kcD t).1=k3D k) (λz=>e (iP z)),if_neg e]
 ·next h=>
  let:L.find? (λp=>decide (p.1=k))=N2:=by rw[List.find?_eq_none];intro x hx;simp only[decide_eq_true_eq];intro e;show h (P9.mpr ⟨x,hx,by simpa using e⟩)
  rw[this];simp[kcD]
def wV{L:List Tm}{k:K3}:(eS L k c).map (·.1)=if(L.any λp=>decide (p.1=k))=Wi then L.map (·.1)else L.map (·.1)++[k]:=by
 unfold eS
 split
 ·rw[N1];apply N8;intro t _;simp only[U6]
  split<;>rfl
 ·simp
def uG{L:List Tm}(j:(L.map (·.1)).Nodup){k:K3}:((eS L k c).map (·.1)).Nodup:=by
 rw[wV]
 split
 ·show j
 ·next h=>
  refine OW.mpr ⟨j,by simp,λa z b q e=>?_⟩
  simp at q;subst q;subst e;let⟨t,B,e⟩:=L7.mp z;show h (P9.mpr ⟨t,B,by simpa using e⟩)
def zD{L:List Tm}{k:K3}:(eS L k c).length<=L.length+1:=by unfold eS;split<;>simp
def BX{L:List Tm}(j:(L.map (·.1)).Nodup){k a:K3}:cf (eS L k c) a=cf L a+if k=a then c else 0:=by
 unfold eS
 split
 ·next h=>
  let⟨t,q,e⟩:=P9.mp h;let e:t.1=k:=by simpa using e
  clear h
  induction L with
  |nil=>simp at q
  |cons u L ih=>
   simp only[Lj,Na]at j;rw[Lj,aR,aR]
   by_cases eu:u.1=k
   ·let rest:(L.map fun p=>if p.1=k then(p.1,p.2+c)else p)=L:=by
     conv=>rhs;rw[<-List.map_id L]
     apply N8;intro p B;rw[if_neg λz=>j.1 (by rw[eu,<-z];show LJ B)];rfl
    rw[rest,if_pos eu];dsimp only
    by_cases ea:u.1=a
    ·rw[if_pos ea,if_pos ea,if_pos (by rw[<-eu];show ea)];lia
    ·rw[if_neg ea,if_neg ea,if_neg (by rw[<-eu];show ea)];lia
   ·rcases Lm.mp q with z|z
    ·show absurd (by rw[<-z];show e) eu
    ·rw[ih j.2 z,if_neg eu];lia
 ·rw[cE,aR,cM];simp
abbrev bA(ts:List Tm):List Tm:=ts.foldl (λL t=>eS L t.1 t.2) []
def fh{ts:List Tm}{t:Tm}:bA (ts++[t])=eS (bA ts) t.1 t.2:=by simp[bA]
def gF{α:Type}{P:List α->Prop}(h0:P [])(h1:∀l x,P l->P (l++[x]))(l:List α):P l:=by
 let:∀r:List α,P r.reverse:=by
  intro r
  induction r with
  |nil=>show h0
  |cons x r ih=>rw[List.reverse_cons];show h1 _ _ ih
 let:=this l.reverse;rw[Tp]at this;show this
def gG(ts:List Tm):((bA ts).map (·.1)).Nodup:=gF (P:=λts=>((bA ts).map (·.1)).Nodup) (by simp[bA]) (λl x ih=>by rw[fh];show uG ih) ts
def BY(ts:List Tm)(k:K3):cf (bA ts) k=cf ts k:=gF (P:=λts=>cf (bA ts) k=cf ts k) rfl (λl x ih=>by rw[fh,BX (gG l),ih,cE,aR,cM];lia) ts
def qk(ts:List Tm):(bA ts).length<=ts.length:=gF (P:=λts=>(bA ts).length<=ts.length) (by simp[bA]) (λl x ih=>by rw[fh];let:=zD (L:=bA l) (k:=x.1) (c:=x.2);simp;lia) ts
def FA{ts:List Tm}{k:K3}:Mi.cf (ts.filter λt=>!(t.2==0)) k=Mi.cf ts k:=by
 induction ts with
 |nil=>rfl
 |cons t ts ih=>
  rw[aR]
  by_cases h:t.2=0
  ·rw[LW (by simp[h]),ih,h];split<;>lia
  ·rw[LL (by simp[h]),aR,ih]
def Ge.upd{j:Mem}(g:Ge M j)(hd:M d=N2):Ge M (ag j d o):=λa o' e=>by rw[av (λz=>by rw[z,hd]at e;cases e)];show g _ _ e
end
section
open L2.Srt
variable{T:List FD}
abbrev gi(l:List Int)(i:Int):Int:=l.getD i.toNat 0
def jv(h0:0<=i)(h1:i<l.length):atI (l.map D.int) i=Z (.int (gi l i)):=by
 obtain⟨k,rfl⟩:∃k:Nat,i=k:=⟨i.toNat,∅⟩
 calc bJ ?_;unfold gi;rw[Lp,Li,Lw,z4 (show k<l.length by lia)];rfl
end
section
open L2.Srt
def fK{p:Wk}(j:Box b M)(q:M p=N2):p≠b:=λz=>by let⟨x,y,w,e⟩:=j;rw[<-z,q]at e;cases e
end
section
open L2.Srt
variable{T:List FD}
abbrev zE(L:List Tm)(k:K3)(c:Int):List Tm:=if(L.any λp=>decide (p.1=k))=Wi then L.map (λp=>if p.1=k then(p.1,c)else p)else L++[(k,c)]
def zF{L:List Tm}{k:K3}:ca (L.map kcD) (k3D k) (.int c)=(zE L k c).map kcD:=by
 unfold ca zE;rw[wU]
 split
 ·rw[N1,N1];calc N8 λp _=>?_;simp only[U6]
  by_cases h:p.1=k
  ·rw[if_pos h,if_pos (show(kcD p).1=k3D k by change k3D p.1=k3D k;rw[h])];rfl
  ·rw[if_neg h,if_neg (show ¬(kcD p).1=k3D k fromλz=>h (iP z))]
 ·rw[Ll];rfl
def rq{L:List Tm}(B:(L.map (·.1)).Nodup){ys:List D}(q:ys.Perm ((L.map kcD).map (·.1)))(hs:pR ys):∃rs:List Tm,rs.Perm L/\ys=rs.map (λt=>k3D t.1)/\rs.Pairwise λa b=>klt a.1 b.1:=by
 let F:(L.map kcD).map (·.1)=L.map λt=>k3D t.1:=by rw[N1];rfl
 rw[F]at q;let⟨rs,z,p2⟩:=n8 (λt:Tm=>k3D t.1) q rfl;calc⟨rs,z,p2.symm,?_⟩;let j:(rs.map (·.1)).Nodup:=(z.map (·.1)).nodup_iff.mpr B;unfold pR at hs;rw[<-p2,Nr]at hs;rw[LS,Nr]at j;calc(hs.and j).imp ?_;rintro a b ⟨h1,h2⟩;unfold klt
 cases G:ltK (k3K a.1) (k3K b.1)with
 |true=>rfl
 |false=>show absurd (BU (mX _ _ G h1)) h2
def cT{L:List Tm}(j:(L.map (·.1)).Nodup){t:Tm}(q:t∈L):dget (L.map kcD) (k3D t.1)=Z (.int t.2):=by
 rw[lw];let:L.find? (λp=>decide (p.1=t.1))=Z t:=by
  induction L with
  |nil=>simp at q
  |cons x L ih=>
   simp only[Lj,Na]at j
   rcases Lm.mp q with z|z
   ·subst z;simp
   ·let:x.1≠t.1:=λe=>j.1 (by rw[e];show LJ z)
    rw[Po (by simpa using this)]
    show ih j.2 z
 rw[this];rfl
def jw{L:List Tm}(j:(L.map (·.1)).Nodup):uf (L.map kcD)=L.map kcD:=by
 let g:∀(r l:List Tm),(((l++r).map (·.1)).Nodup)->(r.map kcD).foldl (λa kv=>ca a kv.1 kv.2) (l.map kcD)=(l++r).map kcD:=by
  intro r
  induction r with
  |nil=>intro l _;simp
  |cons t r ih=>
   intro l h;rw[Lj,Nl];let e:ca (l.map kcD) (kcD t).1 (kcD t).2=(l++[t]).map kcD:=by change ca (l.map kcD) (k3D t.1) (.int t.2)=_;rw[zF];unfold zE;rw[if_neg];intro z;let⟨p,q,e⟩:=P9.mp z;rw[Ll,OW]at h;show h.2.2 _ (LJ q) _ (LJ (Ld ..)) (of_decide_eq_true e)
   rw[e,ih (l++[t]) (by rw[Lx];show h)]
   rw[Lx];rfl
 let:=g L [] (by simpa using j)
 simpa[uf]using this
def gH(k:K3):bO (k3D k)=Wi:=rfl
end
section
open L2.Srt
variable{T:List FD}
abbrev idx(l:List Int):List (Int×Int):=l.mapIdx λi x=>((i:Nat),x)
abbrev nz(l:List Int):List (Int×Int):=(idx l).filter λq=>!(q.2==0)
def ee:(idx l).length=l.length:=by simp[idx]
abbrev cv(i a j b:Int)(zs:List (Int×Int)):List Tm:=zs.map λz=>((z.1,i,j),a*b*z.2)
abbrev cw(i a:Int)(ys zs:List (Int×Int)):List Tm:=ys.flatMap λy=>cv i a y.1 y.2 zs
abbrev bV(xs ys zs:List (Int×Int)):List Tm:=xs.flatMap λx=>cw x.1 x.2 ys zs
abbrev zG(p:Pr):List Tm:=bV (nz p.1) (nz p.2.1) (nz p.2.2)
abbrev uH(ps:List Pr):List Tm:=ps.flatMap zG
def ql{a b:Int}:(cv i a j b zs).length=zs.length:=by simp[cv]
def qm{a:Int}{ys:List (Int×Int)}:(cw i a ys zs).length=ys.length*zs.length:=by
 unfold cw
 induction ys with
 |nil=>simp
 |cons y ys ih=>rw[MD,hH,ih,ql,LB,Mp];lia
def qp{xs ys:List (Int×Int)}:(bV xs ys zs).length=xs.length*(ys.length*zs.length):=by
 unfold bV
 induction xs with
 |nil=>simp
 |cons y ys ih=>rw[MD,hH,ih,qm,LB,Mp];lia
structure IsSum(ps:List Pr)(L:List Tm):Prop where
 nd:(L.map (·.1)).Nodup
 nz:∀t∈L,t.2≠0
 cf:∀k,cf L k=cf (uH ps) k
abbrev Od(d:Wk)(M M':Mem):Prop:=∀a,a≠d->M' a=M a
def Od.refl:Od d M M:=λ_ _=>rfl
def Od.trans(h:Od d M M')(g:Od d M' M''):Od d M M'':=λa n=>(g a n).trans (h a n)
def Od.upd(h:Od d M M'):Od d M (ag M' d o):=λa n=>(av n).trans (h a n)
noncomputable abbrev bd(x:Int):Prop:=-1000000000000<=x/\x<=1000000000000
end
section
open L2.Srt
abbrev S1(zs:List (Int×Int))(k:Int):Int:=(zs.map λz=>if z.1=k then z.2 else 0).sum
def eh{z:Int×Int}{k:Int}:S1 (z::zs) k=(if z.1=k then z.2 else 0)+S1 zs k:=by simp[S1]
def lB{α:Type}{F:α->List Tm}{k:K3}:∀l:List α,cf (l.flatMap F) k=(l.map λx=>cf (F x) k).sum
 |[]=>rfl
 |x::l=>by rw[MD,cE,lB l];simp
def sg{i a j b k i' j':Int}:∀{zs:List (Int×Int)},cf (cv i a j b zs) (k,i',j')=if i=i'/\j=j' then a*b*S1 zs k else 0
 |[]=>by simp[cv,cM,S1]
 |z::zs=>by
  rw[show cv i a j b (z::zs)=((z.1,i,j),a*b*z.2)::cv i a j b zs from rfl,aR,sg,eh]
  by_cases h:i=i'/\j=j'
  ·let⟨rfl,rfl⟩:=h
   by_cases q:z.1=k
   ·subst q;simp[Vp]
   ·let:¬((z.1,i,j)=(k,i,j)):=λe=>q (congrArg (·.1) e);rw[if_neg this,if_pos ⟨rfl,rfl⟩,if_pos ⟨rfl,rfl⟩,if_neg q];simp
  ·let:¬((z.1,i,j)=(k,i',j')):=λe=>h ⟨congrArg (·.2.1) e,congrArg (·.2.2) e⟩;rw[if_neg this,if_neg h,if_neg h];rfl
def si{i a k i' j':Int}{zs:List (Int×Int)}:∀{ys:List (Int×Int)},cf (cw i a ys zs) (k,i',j')=if i=i' then a*S1 ys j'*S1 zs k else 0
 |[]=>by simp[cw,cM,S1]
 |y::ys=>by
  rw[show cw i a (y::ys) zs=cv i a y.1 y.2 zs++cw i a ys zs from by simp[cw],cE,si,sg,eh]
  by_cases h:i=i'
  ·subst h
   by_cases j:y.1=j'
   ·subst j;simp[Vp,Vq]
   ·rw[if_neg (λe=>j e.2),if_pos rfl,if_pos rfl,if_neg j];simp
  ·rw[if_neg (λe=>h e.1),if_neg h,if_neg h];rfl
def lD{k i' j':Int}{ys zs:List (Int×Int)}:∀{xs:List (Int×Int)},cf (bV xs ys zs) (k,i',j')=S1 xs i'*S1 ys j'*S1 zs k
 |[]=>by simp[bV,cM,S1]
 |x::xs=>by
  rw[show bV (x::xs) ys zs=cw x.1 x.2 ys zs++bV xs ys zs from by simp[bV],cE,lD,si,eh]
  by_cases h:x.1=i'
  ·subst h;simp[Vq]
  ·rw[if_neg h,if_neg h];simp
abbrev gz(l:List Int)(i:Int):Int:=if i<0 then 0 else l.getD i.toNat 0
def wW(h:i<0):gz l i=0:=if_pos h
def wX:gz [] i=0:=by unfold gz;split<;>simp
def lF{x:Int}:gz (x::l) i=if i=0 then x else gz l (i-1):=by
 unfold gz
 by_cases h:i<0
 ·rw[if_pos h,if_neg ∅,if_pos ∅]
 ·rw[if_neg h]
  by_cases h0:i=0
  ·subst h0;simp
  ·rw[if_neg h0,if_neg ∅]
   obtain⟨n,rfl⟩:∃n:Nat,i=((n+1:Nat):Int):=⟨(i-1).toNat,∅⟩
   rw[show(((n+1:Nat):Int)-1).toNat=n by lia,Li]
   simp
def wY{a b:List Int}:∀{i:Int},gz (a++b) i=if i<a.length then gz a i else gz b (i-a.length):=by
 induction a with
 |nil=>
  intro i
  by_cases h:i<0
  ·rw[if_pos (by simpa using h),R3,wW h,wW h]
  ·rw[if_neg (by simpa using h)];simp
 |cons x a ih=>
  intro i;rw[Sn,lF,lF,ih,LB]
  by_cases h0:i=0
  ·subst h0;rw[if_pos rfl,if_pos rfl,if_pos ∅]
  ·rw[if_neg h0,if_neg h0]
   by_cases h:i<((a.length+1:Nat):Int)
   ·rw[if_pos ∅,if_pos h]
   ·rw[if_neg ∅,if_neg h]
    congr 1;lia
def kG(h:gz l i≠0):0<=i/\i<l.length:=by
 unfold gz at h
 by_cases hi:i<0
 ·rw[if_pos hi]at h;show absurd rfl h
 ·rw[if_neg hi]at h;refine⟨∅,?_⟩
  by_cases hl:i.toNat<l.length
  ·lia
  ·rw[Lw,OL ∅]at h;show absurd rfl h
def wZ{a b:List (Int×Int)}{k:Int}:S1 (a++b) k=S1 a k+S1 b k:=by simp[S1]
def kH{k:Int}:∀zs:List (Int×Int),S1 (zs.filter λq=>!(q.2==0)) k=S1 zs k
 |[]=>rfl
 |z::zs=>by
  rw[eh]
  by_cases h:z.2=0
  ·rw[LW (by simp[h]),kH zs,h];simp
  ·rw[LL (by simp[h]),eh,kH zs]
def fL(l:List Int)(k:Int):S1 (idx l) k=gz l k:=gF (P:=λl=>S1 (idx l) k=gz l k) (by rw[wX];rfl) (λl x ih=>by
 let e:idx (l++[x])=idx l++[(((l.length:Nat):Int),x)]:=by simp[idx,List.mapIdx_append]
 rw[e,wZ,ih,wY,eh];simp only[S1,Np,List.sum_nil]
 by_cases h:k<l.length
 ·rw[if_pos h,if_neg ∅];lia
 ·rw[if_neg h,lF,wX];let z:gz l k=0:=by
   cases Decidable.em (gz l k=0)with
   |inl h=>show h
   |inr h'=>show absurd (kG h').2 h
  rw[z]
  by_cases e:(l.length:Int)=k
  ·rw[if_pos e,if_pos ∅];lia
  ·rw[if_neg e,if_neg ∅];rfl) l
def BZ{p:Pr}{k:Int}:cf (zG p) (k,i,j)=gz p.1 i*gz p.2.1 j*gz p.2.2 k:=by unfold zG;rw[lD];unfold nz;rw[kH,kH,kH,fL,fL,fL]
abbrev Tn(ps:List Pr)(k i j:Int):Int:=(ps.map λp=>gz p.1 i*gz p.2.1 j*gz p.2.2 k).sum
def lH{ps:List Pr}{k:Int}:cf (uH ps) (k,i,j)=Tn ps k i j:=by unfold uH Tn;rw[lB];congr 1;show N8 λp _=>BZ
def sj{p:Pr}{a:List Pr}{k:Int}:Tn (p::a) k i j=gz p.1 i*gz p.2.1 j*gz p.2.2 k+Tn a k i j:=by simp[Tn]
def qq{L0 L1 L2:Nat}{k i j:Int}:∀{us:List Pr},(∀u∈us,u.1.length=L0/\u.2.1.length=L1/\u.2.2.length=L2)->Tn us k i j≠0->(0<=k/\k<L2)/\(0<=i/\i<L0)/\(0<=j/\j<L1)
 |[],_,h=>absurd (by simp[Tn]) h
 |u::us,q,h=>by
  let⟨G,J,L⟩:=q u (_)
  rw[sj]at h
  by_cases z:gz u.1 i*gz u.2.1 j*gz u.2.2 k=0
  ·rw[z,Rj]at h;show qq (λv B=>q v (by simp[B])) h
  ·let a1:gz u.1 i≠0:=λe=>z (by rw[e];simp)
   let a2:gz u.2.1 j≠0:=λe=>z (by rw[e];simp)
   let F:gz u.2.2 k≠0:=λe=>z (by rw[e];simp)
   let:=kG a1;let:=kG a2;let:=kG F;lia
def uI{l:List Tm}(g:(l.map (·.1)).Nodup):l.Nodup:=by rw[LS]at g⊢;rw[Nr]at g;show g.imp λ{a b} hab e=>hab (by rw[e])
def xc{a:List Tm}(q:(a.map (·.1)).Nodup){k:K3}(h:cf a k≠0):(k,cf a k)∈a:=by
 by_cases e:∃r∈a,r.1=k
 ·let⟨r,j,rfl⟩:=e;rw[kF q j];show j
 ·show absurd (fJ λr j z=>e ⟨r,j,z⟩) h
def C0{a b:List Tm}(q:(a.map (·.1)).Nodup)(z:(b.map (·.1)).Nodup)(za:∀t∈a,t.2≠0)(zb:∀t∈b,t.2≠0)(h:∀k,cf a k=cf b k):a.Perm b:=by
 refine(List.perm_ext_iff_of_nodup (uI q) (uI z)).mpr λt=>⟨λj=>?_,λj=>?_⟩
 ·let e:=kF q j;let:=xc z (k:=t.1) (by rw[<-h,e];show za t j)
  rwa[<-h,e]at this
 ·let e:=kF z j;let:=xc q (k:=t.1) (by rw[h,e];show zb t j)
  rwa[h,e]at this
def zH{a b:List Tm}(q:(b.map (·.1)).Nodup)(h:a.Perm b):eqD (a.map kcD) (b.map kcD)=Wi:=by
 unfold eqD;rw[D1];refine⟨by simp[h.length_eq],?_⟩
 rw[OG];intro kv j;let⟨t,z,rfl⟩:=L7.mp j;show decide_eq_true (cT q (h.mem_iff.mp z))
def IsSum.val{ps:List Pr}{L:List Tm}(h:IsSum ps L){t:Tm}(j:t∈L):Tn ps t.1.1 t.1.2.1 t.1.2.2=t.2:=by rw[<-lH,<-h.cf,kF h.nd j]
end
section
open L2.Srt
abbrev Sp(p:Int)(n:Nat):List (Nat->Int)->(Nat->Int)->Prop
 |[],f=>∀x,x<n->p ∣ f x
 |b::bs,f=>∃c:Int,Sp p n bs λx=>f x-c*b x
def Sp.congr{p:Int}{n:Nat}:∀{bs:List (Nat->Int)} {f g:Nat->Int},(∀x,x<n->p ∣ f x-g x)->Sp p n bs f->Sp p n bs g
 |[],f,g,h,s=>λx hx=>by
  let:=Oi (s x hx) (h x hx)
  rwa[show f x-(f x-g x)=g x by lia]at this
 |b::bs,f,g,h,⟨c,s⟩=>⟨c,s.congr fun x hx=>by
  let:=h x hx
  rwa[show f x-c*b x-(g x-c*b x)=f x-g x by lia]⟩
def Sp.zero{p:Int}{n:Nat}:∀{bs:List (Nat->Int)} {f:Nat->Int},(∀x,x<n->p ∣ f x)->Sp p n bs f
 |[],f,h=>h
 |b::bs,f,h=>⟨0,Sp.zero λx hx=>by simpa using h x hx⟩
def Sp.comb{p:Int}{n:Nat}{k:Int}:∀{bs:List (Nat->Int)} {f g:Nat->Int},Sp p n bs f->Sp p n bs g->Sp p n bs λx=>f x+k*g x
 |[],f,g,h,s=>λx hx=>Pf (h x hx) (N4 (s x hx))
 |b::bs,f,g,⟨c,h⟩,⟨d,s⟩=>⟨c+k*d,(h.comb (k:=k) s).congr fun x hx=>by
  rw[Vq,Int.mul_sub,U5,show f x-c*b x+(k*g x-k*(d*b x))-(f x+k*g x-(c*b x+k*(d*b x)))=0 by lia]
  show N9 _⟩
def Sp.snoc{p:Int}{n:Nat}{t:Nat->Int}:∀{bs:List (Nat->Int)} {f:Nat->Int},Sp p n (bs++[t]) f↔∃c:Int,Sp p n bs λx=>f x-c*t x
 |[],f=>TK
 |b::bs,f=>by
  constructor
  ·rintro⟨c,h⟩;let⟨d,h⟩:=Sp.snoc.mp h;show⟨d,c,h.congr λx _=>by rw[show f x-c*b x-d*t x-(f x-d*t x-c*b x)=0 by lia];show N9 _⟩
  ·rintro⟨d,c,h⟩;show⟨c,Sp.snoc.mpr ⟨d,h.congr λx _=>by rw[show f x-d*t x-c*b x-(f x-c*b x-d*t x)=0 by lia];show N9 _⟩⟩
def Sp.more{p:Int}{n:Nat}{t:Nat->Int}{bs:List (Nat->Int)}{f:Nat->Int}(h:Sp p n bs f):Sp p n (bs++[t]) f:=Sp.snoc.mpr ⟨0,h.congr λx _=>by simp⟩
def Sp.last{p:Int}{n:Nat}{t:Nat->Int}{bs:List (Nat->Int)}:Sp p n (bs++[t]) t:=Sp.snoc.mpr ⟨1,Sp.zero λx _=>by simp⟩
structure Vr(p:Int)(n:Nat)(v:List Int):Prop where
 len:v.length=n
 inn:∀x∈v,0<=x/\x<p
abbrev gf(v:List Int):Nat->Int:=λx=>gz v (x:Nat)
def az{x:Nat}(h:x<v.length):v[x]?=Z (gf v x):=by unfold gf gz;rw[if_neg ∅,Li,Lw,z4 h];rfl
def Vr.at{p:Int}{n:Nat}(h:Vr p n v){x:Nat}(hx:x<n):0<=gf v x/\gf v x<p:=h.inn _ (Lh (az (by rw[h.len];show hx)))
def Vr.ext{p:Int}{n:Nat}(j:Vr p n u)(q:Vr p n v)(h:∀x,x<n->p ∣ gf u x-gf v x):u=v:=by
 apply NV;intro x
 by_cases hx:x<n
 ·rw[az (by rw[j.len];show hx),az (by rw[q.len];show hx)]
  let a:=j.at hx;let b:=q.at hx;let⟨k,F⟩:=h x hx;congr 1;let B:0<p:=∅
  let:k=0:=by
   apply Mw;intro z
   rcases Uo z with h1|h1
   ·let:=QX (show k <= -1 by lia) (Int.le_of_lt B)
    lia
   ·let:=QX (show 1<=k by lia) (Int.le_of_lt B)
    lia
  rw[this]at F;lia
 ·rw[OL (by rw[j.len];lia),OL (by rw[q.len];lia)]
abbrev cb(p t:Int)(u v:List Int):List Int:=Pm (λa b=>(a+t*b)%p) u v
def dN{p t:Int}(j:0<p){n:Nat}(z:u.length=n)(B:v.length=n):Vr p n (cb p t u v):=by
 refine⟨by unfold cb;rw[Rb,z,B];simp,λx hx=>?_⟩
 unfold cb at hx;rw[<-List.map_uncurry_zip_eq_zipWith]at hx;let⟨q,_,rfl⟩:=L7.mp hx;show⟨Nb _ ∅,Mv _ j⟩
def uJ{p t:Int}{n:Nat}(j:u.length=n)(q:v.length=n){x:Nat}(hx:x<n):gf (cb p t u v) x=(gf u x+t*gf v x)%p:=by
 let z:(cb p t u v).length=n:=by unfold cb;rw[Rb,j,q];simp
 let e:=az (v:=cb p t u v) (x:=x) (by rw[z];show hx)
 unfold cb at e⊢;rw[T1,az (by rw[j];show hx),az (by rw[q];show hx)]at e
 show(LG.inj e).symm
def cr{p a:Int}:p ∣ a-a%p:=by let:=Int.mul_ediv_add_emod a p;show⟨a / p,∅⟩
def dr{p t:Int}{n:Nat}(j:u.length=n)(q:v.length=n){x:Nat}(hx:x<n):p ∣ (gf u x+t*gf v x)-gf (cb p t u v) x:=by rw[uJ j q hx];show cr
def qr{p:Int}(j:p=2∨p=3){w:Int}(h0:0<w)(h1:w<p):p ∣ w*w-1:=by
 rcases j with rfl|rfl
 ·let:w=1:=by lia
  subst this;show⟨0,∅⟩
 ·let:w=1∨w=2:=by lia
  rcases this with rfl|rfl
  ·show⟨0,∅⟩
  ·show⟨1,∅⟩
def xf{p:Int}(B:p=2∨p=3){n:Nat}{t u':List Int}(F:t.length=n)(G:Vr p n u)(j:Vr p n u')(J:Sp p n A (gf u))(q:Sp p n A (gf u'))(L:¬Sp p n A (gf t)){s s':Int}(h0:0<=s/\s<p)(O:0<=s'/\s'<p)(e:cb p s u t=cb p s' u' t):s=s'/\u=u':=by
 let key:∀x,x<n->p ∣ (gf u x+s*gf t x)-(gf u' x+s'*gf t x):=λx hx=>by
  let a:=dr (p:=p) (t:=s) G.len F hx;let b:=dr (p:=p) (t:=s') j.len F hx;rw[e]at a;let:=Oi a b
  rwa[show gf u x+s*gf t x-gf (cb p s' u' t) x-(gf u' x+s'*gf t x-gf (cb p s' u' t) x)=(gf u x+s*gf t x)-(gf u' x+s'*gf t x) by lia]at this
 let es:s=s':=by
  apply Mw;intro z;apply L;let hd:p ∣ (s-s')*(s-s')-1:=by
   rcases Uo z with h|h
   ·let:=qr B (w:=s'-s) ∅ ∅
    rwa[show(s'-s)*(s'-s)=(s-s')*(s-s') by rw[<-Int.neg_sub s s',Int.neg_mul_neg]]at this
   ·show qr B ∅ ∅
  let h1:=Sp.comb (k:=-1) q J;let h2:=Sp.comb (k:=s-s') (Sp.zero (f:=λ_=>0) λ_ _=>N9 _) h1;calc h2.congr λx hx=>?_;let U:p ∣ (s-s')*_:=N4 (key x hx);let Y:p ∣ _*gf t x:=Nc hd;let fv:=Oi Y U
  rwa[show((s-s')*(s-s')-1)*gf t x-(s-s')*(gf u x+s*gf t x-(gf u' x+s'*gf t x))=0+(s-s')*(gf u' x + -1*gf u x)-gf t x by grind]at fv
 subst es;calc⟨rfl,G.ext j λx hx=>?_⟩;let:=key x hx
 rwa[show gf u x+s*gf t x-(gf u' x+s*gf t x)=gf u x-gf u' x by lia]at this
structure Kn(P n:Nat)(A:List (Nat->Int))(keys:List (List Int)):Prop where
 nd:keys.Nodup
 mem:∀v,v∈keys↔Vr P n v/\Sp P n A (gf v)
 len:keys.length=P^A.length
abbrev nxR(P:Nat)(t u:List Int)(ss:List Nat):List (List Int):=ss.map λs=>cb P (s:Nat) u t
abbrev nx(P:Nat)(t:List Int)(keys:List (List Int)):List (List Int):=keys.flatMap λu=>nxR P t u (Lc P)
def cF{n x:Nat}:gf (I7 n 0) x=0:=by
 unfold gf gz;rw[if_neg ∅,Li,Lw,Mb]
 split<;>rfl
def iQ{n:Nat}(j:0<P):Vr P n (I7 n 0):=⟨by simp,λx hx=>by rw[My hx];lia⟩
def Kn.init{n:Nat}(j:0<P):Kn P n [] [I7 n 0] where
 nd:=by simp
 mem:=λv=>by
  rw[LD];constructor
  ·rintro rfl;show⟨iQ j,Sp.zero λx _=>by rw[cF];show N9 _⟩
  ·rintro⟨h,s⟩;show h.ext (iQ j) λx hx=>by rw[cF,UN];show s x hx
 len:=by simp
def qt{P:Nat}{t:List Int}:∀{keys:List (List Int)},(nx P t keys).length=keys.length*P
 |[]=>by simp[nx]
 |u::keys=>by let ih:=qt (P:=P) (t:=t) (keys:=keys);unfold nx at ih⊢;rw[MD,hH,ih,LB,Mp];simp[nxR];lia
def Kn.step{n:Nat}(hP:P=2∨P=3){keys:List (List Int)}{t:List Int}(h:Kn P n A keys)(q:Vr P n t)(J:¬Sp P n A (gf t)):Kn P n (A++[gf t]) (nx P t keys) where
 nd:=by
  let L:(P:Int)=2∨(P:Int)=3:=∅
  unfold nx;rw[LS,QG];refine⟨λu z=>?_,?_⟩
  ·let j:=(h.mem u).mp z;unfold nxR;rw[Nr];calc P5 (λ{a b} O U hab e=>?_) (LS.mp QR);let O:=LP.mp O;let U:=LP.mp U;show hab (Rm.inj (xf L q.len j.1 j.1 j.2 j.2 J ∅ ∅ e).1)
  ·calc P5 (λ{u u'} z j huu x hx y hy e=>?_) (LS.mp h.nd);let⟨s,hs,rfl⟩:=L7.mp hx;let⟨s',F,rfl⟩:=L7.mp hy;let hs:=LP.mp hs;let F:=LP.mp F;let h1:=(h.mem u).mp z;let h2:=(h.mem u').mp j;show huu (xf L q.len h1.1 h2.1 h1.2 h2.2 J ∅ ∅ e).2
 mem:=λv=>by
  let B:(0:Int)<P:=∅
  unfold nx;rw[Mn];constructor
  ·rintro⟨u,z,Y⟩;let⟨s,hs,rfl⟩:=L7.mp Y;let⟨h1,h2⟩:=(h.mem u).mp z;calc⟨dN B h1.len q.len,Sp.snoc.mpr ⟨s,h2.congr λx hx=>?_⟩⟩;let:=dr (p:=P) (t:=(s:Nat)) h1.len q.len hx
   rwa[show gf u x-(gf (cb P (s:Nat) u t) x-(s:Nat)*gf t x)=gf u x+(s:Nat)*gf t x-gf (cb P (s:Nat) u t) x by lia]
  ·rintro⟨h1,h2⟩;let⟨c,h2⟩:=Sp.snoc.mp h2;let z:=dN (p:=P) (t:=-c) B h1.len q.len;let G:=Nb c (show(P:Int)≠0 by lia)
   let fv:=Mv c B;refine⟨cb P (-c) v t,(h.mem _).mpr ⟨z,h2.congr λx hx=>?_⟩,L7.mpr ⟨(c%P).toNat,LP.mpr ∅,?_⟩⟩
   ·let:=dr (p:=P) (t:=-c) h1.len q.len hx
    rwa[show gf v x-c*gf t x-gf (cb P (-c) v t) x=gf v x + -c*gf t x-gf (cb P (-c) v t) x by rw[Int.neg_mul];lia]
   ·rw[Q4 G];calc(dN B z.len q.len).ext h1 λx hx=>?_;let a:=dr (p:=P) (t:=c%P) z.len q.len hx;let b:=dr (p:=P) (t:=-c) h1.len q.len hx;let d:(P:Int) ∣ (c-c%P)*gf t x:=Nc cr;let:=Pf (Pf a b) d;rw[<-Qm]at this
    rwa[show -(gf (cb P (-c) v t) x+c%P*gf t x-gf (cb P (c%P) (cb P (-c) v t) t) x+(gf v x + -c*gf t x-gf (cb P (-c) v t) x)+(c-c%P)*gf t x)=gf (cb P (c%P) (cb P (-c) v t) t) x-gf v x by grind]at this
 len:=by rw[qt,h.len,hH,LC,SM]
structure Bs(P n:Nat)(A:List (Nat->Int))(base:List (Nat×List Int)):Prop where
 vr:∀e∈base,Vr P n e.2
 pl:∀e∈base,e.1<n/\gf e.2 e.1=1
 tri:base.Pairwise λe e'=>gf e'.2 e.1=0
 sp:∀f,Sp P n (base.map λe=>gf e.2) f↔Sp P n A f
 len:base.length=A.length
def Bs.init{n:Nat}:Bs P n [] []:=⟨by simp,by simp,.nil,λ_=>TK,rfl⟩
abbrev wo(P:Nat):List (Nat×List Int)->List Int->List Int
 |[],r=>r
 |e::bs,r=>wo P bs (cb P (-(gf r e.1)) r e.2)
def dO{P n:Nat}(q:0<P):∀{base:List (Nat×List Int)} {r:List Int},(∀e∈base,Vr P n e.2)->Vr P n r->Vr P n (wo P base r)
 |[],r,_,h=>h
 |e::bs,r,j,h=>by change Vr P n (wo P bs (cb P (-(gf r e.1)) r e.2));show dO q (λx hx=>j x (L4 _ hx)) (dN ∅ h.len (j e Ld).len)
def sk{P n:Nat}(F:0<P){z:Nat}(j:z<n):∀{base:List (Nat×List Int)} {r:List Int},(∀e∈base,Vr P n e.2)->(∀e∈base,gf e.2 z=0)->Vr P n r->gf r z=0->gf (wo P base r) z=0
 |[],r,_,_,_,h0=>h0
 |e::bs,r,q,he,h,h0=>by
  let B:=(q e Ld).len;change gf (wo P bs (cb P (-(gf r e.1)) r e.2)) z=0;refine sk F j (λx hx=>q x (L4 _ hx)) (λx hx=>he x (L4 _ hx)) (dN ∅ h.len B) ?_
  rw[uJ h.len B j,h0,he e Ld];simp
def iR{P n:Nat}(B:0<P):∀{base:List (Nat×List Int)} {r:List Int},(∀e∈base,Vr P n e.2)->(∀e∈base,e.1<n/\gf e.2 e.1=1)->(base.Pairwise λe e'=>gf e'.2 e.1=0)->Vr P n r->∀e∈base,gf (wo P base r) e.1=0
 |[],r,_,_,_,_,e,he=>by cases he
 |b::bs,r,q,j,z,h,e,he=>by
  let F:=(q b Ld).len;let G:=dN (p:=P) (t:=-(gf r b.1)) ∅ h.len F
  rw[Nj]at z;change gf (wo P bs (cb P (-(gf r b.1)) r b.2)) e.1=0
  rcases Lm.mp he with rfl|he
  ·calc sk B (j e Ld).1 (λx hx=>q x (L4 _ hx)) z.1 G ?_;rw[uJ h.len F (j e Ld).1,(j e Ld).2];simp;rw[show gf r e.1 + -gf r e.1=0 by lia];simp
  ·show iR B (λx hx=>q x (L4 _ hx)) (λx hx=>j x (L4 _ hx)) z.2 G e he
def oo{P n:Nat}(z:0<P):∀{base:List (Nat×List Int)} {r:List Int},(∀e∈base,Vr P n e.2)->Vr P n r->Sp P n (base.map λe=>gf e.2) λx=>gf r x-gf (wo P base r) x
 |[],r,_,_=>λx _=>by simp[wo]
 |b::bs,r,j,h=>by
  let q:=(j b Ld).len;let ih:=oo z (base:=bs) (r:=cb P (-(gf r b.1)) r b.2) (λx hx=>j x (L4 _ hx)) (dN ∅ h.len q)
  calc⟨gf r b.1,ih.congr λx hx=>?_⟩;let a:=dr (p:=P) (t:=-(gf r b.1)) h.len q hx;rw[<-Qm]at a;change(P:Int) ∣ _-(gf r x-gf (wo P bs (cb P (-(gf r b.1)) r b.2)) x-gf r b.1*gf b.2 x)
  rwa[show -(gf r x + -gf r b.1*gf b.2 x-gf (cb P (-gf r b.1) r b.2) x)=gf (cb P (-gf r b.1) r b.2) x-gf (wo P bs (cb P (-gf r b.1) r b.2)) x-(gf r x-gf (wo P bs (cb P (-(gf r b.1)) r b.2)) x-gf r b.1*gf b.2 x) by grind]at a
def Sp.at{p:Int}{n z:Nat}(j:z<n):∀{bs:List (Nat->Int)} {f:Nat->Int},(∀b∈bs,b z=0)->Sp p n bs f->p ∣ f z
 |[],f,_,h=>h z j
 |b::bs,f,q,⟨c,h⟩=>by let:=Sp.at j (λx hx=>q x (L4 _ hx)) h;rw[q b Ld]at this;simpa using this
def jx{P n:Nat}:∀{base:List (Nat×List Int)} {f:Nat->Int},(∀e∈base,e.1<n/\gf e.2 e.1=1)->(base.Pairwise λe e'=>gf e'.2 e.1=0)->(∀e∈base,(P:Int) ∣ f e.1)->Sp P n (base.map λe=>gf e.2) f->∀x,x<n->(P:Int) ∣ f x
 |[],f,_,_,_,h=>h
 |e::bs,f,j,q,B,⟨c,h⟩=>by
  rw[Nj]at q;let h1:=Sp.at (j e Ld).1 (λb F=>by let⟨e',z,rfl⟩:=L7.mp F;show q.1 e' z) h
  dsimp only at h1;rw[(j e Ld).2,Vd]at h1;let G:(P:Int) ∣ c:=by
   let:=Oi (B e Ld) h1
   rwa[show f e.1-(f e.1-c)=c by lia]at this
  calc jx (λx hx=>j x (L4 _ hx)) q.2 (λx hx=>B x (L4 _ hx)) (h.congr λx _=>?_);rw[show f x-c*gf e.2 x-f x = -(c*gf e.2 x) by lia,Qm]
  show Nc G
def Bs.out{n:Nat}(j:0<P)(h:Bs P n A base){t:List Int}(q:Vr P n t):wo P base t=I7 n 0↔Sp P n A (gf t):=by
 let hs:=oo j h.vr q;constructor
 ·intro e;calc(h.sp _).mp (hs.congr λx _=>?_);rw[e,cF,UN,Int.sub_self];show N9 _
 ·intro e;let e:=(h.sp _).mpr e;let z:=Sp.comb (k:=-1) e hs;calc(dO j h.vr q).ext (iQ j) λx hx=>?_;rw[cF,UN];refine jx h.pl h.tri (λb B=>by rw[iR j h.vr h.pl h.tri q b B];show N9 _) (z.congr λx _=>?_) x hx
  rw[show gf t x + -1*(gf t x-gf (wo P base t) x)-gf (wo P base t) x=0 by lia];show N9 _
def kI{F:Int->Int}{x:Nat}(h:x<v.length):gf (v.map F) x=F (gf v x):=by
 let e:=az (v:=v.map F) (x:=x) (by rw[h7];show h)
 rw[Lp,az h]at e;show(LG.inj e).symm
def Bs.step{n:Nat}(U:P=2∨P=3)(h:Bs P n A base){t:List Int}(G:Vr P n t){pl:Nat}(j:pl<n)(hw:gf (wo P base t) pl≠0):
 Bs P n (A++[gf t]) (base++[(pl,(wo P base t).map λx=>(gf (wo P base t) pl*x)%P)]):=by
 let q:0<P:=∅
 let B:=dO q h.vr G;let L:=iR q h.vr h.pl h.tri G;let hs:=oo q h.vr G;let z:=B.at j;generalize hR:wo P base t=R at B L hs hw z;generalize Y:gf R pl=w at hw z;let J:(P:Int) ∣ w*w-1:=qr ∅ ∅ z.2
 let go:∀x,x<n->gf (R.map λx=>(w*x)%P) x=(w*gf R x)%P:=λx hx=>kI (F:=λx=>(w*x)%P) (by rw[B.len];show hx)
 refine⟨λe he=>?_,λe he=>?_,?_,λf=>?_,by rw[hH,hH,h.len];rfl⟩
 ·rcases Lb.mp he with he|he
  ·show h.vr e he
  ·rw[LD.mp he];refine⟨by rw[h7];show B.len,λx hx=>?_⟩
   let⟨y,_,rfl⟩:=L7.mp hx;show⟨Nb _ ∅,Mv _ ∅⟩
 ·rcases Lb.mp he with he|he
  ·show h.pl e he
  ·rw[LD.mp he];calc⟨j,?_⟩;dsimp only;rw[go pl j,Y]
   rcases U with rfl|rfl
   ·let:w=1:=by lia
    rw[this];rfl
   ·let:w=1∨w=2:=by lia
    rcases this with e|e<;>rw[e]<;>rfl
 ·rw[L6];refine⟨h.tri,by simp,λa O b fv=>?_⟩
  rw[LD.mp fv];dsimp only;rw[go _ (h.pl a O).1,L a O];simp
 ·rw[Ll,Lj,Np];constructor
  ·intro hf;let⟨c,hf⟩:=Sp.snoc.mp hf;calc Sp.snoc.mpr ⟨c*w,(h.sp _).mp ((Sp.comb (k:=-(c*w)) hf hs).congr λx hx=>?_)⟩;dsimp only;rw[go x hx];let a:(P:Int) ∣ c*(w*gf R x-(w*gf R x)%P):=N4 cr
   rwa[show f x-c*(w*gf R x % ↑P) + -(c*w)*(gf t x-gf R x)-(f x-c*w*gf t x)=c*(w*gf R x-(w*gf R x)%P) by grind]
  ·intro hf;let⟨c,hf⟩:=Sp.snoc.mp hf;calc Sp.snoc.mpr ⟨c*w,(Sp.comb (k:=c) ((h.sp _).mpr hf) hs).congr λx hx=>?_⟩;dsimp only;rw[go x hx];let a:(P:Int) ∣ c*w*(w*gf R x-(w*gf R x)%P):=N4 cr;let b:(P:Int) ∣ (c*gf R x)*(w*w-1):=N4 J;let:=Oi b a
   rwa[show(c*gf R x)*(w*w-1)-c*w*(w*gf R x-(w*gf R x)%P)=f x-c*gf t x+c*(gf t x-gf R x)-(f x-c*w*(w*gf R x % ↑P)) by grind]at this
end
section
open L2.Srt
variable{T:List FD}
abbrev ixs(l:List Int)(ks:List Nat):List (Int×Int):=ks.map λk:Nat=>((k:Int),gi l (k:Int))
def lJ(h:l.length=N):ixs l (Lc N)=idx l:=by
 unfold ixs idx;apply NV;intro j;rw[Lp,OU]
 by_cases hj:j<N
 ·rw[NY hj,z4 ∅]
  simp only[Pu,gi,Li];rw[Lw,z4 ∅];rfl
 ·rw[OL (by simp;lia),OL ∅];rfl
def lK{ks:List Nat}:(ixs l ks).length=ks.length:=by simp[ixs]
def jy{ks:List Nat}{k:Nat}:ixs l (ks++[k])=ixs l ks++[((k:Int),gi l (k:Int))]:=by simp[ixs]
def xg(h:Big l):bd (gi l i):=by
 unfold gi;rw[Lw]
 cases e:l[i.toNat]? with
 |none=>constructor<;>decide
 |some x=>show h x (Lh e)
abbrev lL(s:Stmt):FD:=⟨"_law_sums",s,["_law_scheme_here","_law_found","_law_l","_law_r","_law_o","_law_i","_law_j","_law_k"],1,
 (.cons (.asg (.name 1) (.dnew Wi))
 (.cons (.for (.tup (.cons (.name 2) (.cons (.name 3) (.cons (.name 4) .nil)))) (.seq (.ix (.var 0) (.int 3))) (.cons (.for (.name 5) (.rng1 (.ix (.var 0) (.int 0))) (.cons (.for (.name 6) (.rng1 (.ix (.var 0) (.int 1))) (.cons (.for (.name 7) (.rng1 (.ix (.var 0) (.int 2))) (.cons (.put (.var 1) (.tup (.cons (.var 7) (.cons (.var 5) (.cons (.var 6) .nil)))) (.bin .add (.dget (.var 1) (.tup (.cons (.var 7) (.cons (.var 5) (.cons (.var 6) .nil)))) (.int 0)) (.bin .mul (.bin .mul (.ix (.var 2) (.var 5)) (.ix (.var 3) (.var 6))) (.ix (.var 4) (.var 7)))))
 .nil))
 .nil))
 .nil))
 .nil))
 (.cons (.frz 1 (.ret (.blt .dict (.cons (.comp [N2,(Z 1)] ["_law_place","_law_found"] (.last (.keys (.var 1)) (.name 0) (.cons (.cmp .ne (.ix (.var 1) (.var 0)) (.int 0)) .nil) (.tup (.cons (.var 0) (.cons (.ix (.var 1) (.var 0)) .nil))))) .nil))))
 .nil)))⟩
abbrev sbK:MSs:=.cons (.put (.var 1) (.tup (.cons (.var 7) (.cons (.var 5) (.cons (.var 6) .nil)))) (.bin .add (.dget (.var 1) (.tup (.cons (.var 7) (.cons (.var 5) (.cons (.var 6) .nil)))) (.int 0)) (.bin .mul (.bin .mul (.ix (.var 2) (.var 5)) (.ix (.var 3) (.var 6))) (.ix (.var 4) (.var 7))))) .nil
abbrev sbJ:MSs:=.cons (.for (.name 7) (.rng1 (.ix (.var 0) (.int 2))) sbK) .nil
abbrev sbI:MSs:=.cons (.for (.name 6) (.rng1 (.ix (.var 0) (.int 1))) sbJ) .nil
abbrev scD(L0 L1 L2:Nat)(p:Wk):D:=.tup [.int L0,.int L1,.int L2,.ref p]
def DY{p:Wk}{x:Pr}{i j:Nat}{B:Option D}{pre:List Tm}(h2:L2<=1000)(hi:i<x.1.length)(hj:j<x.2.1.length)(U:x.2.2.length=L2)(Y:Big x.1)(fv:Big x.2.2)(hd:M d=Z (.dct Wi ((bA pre).map kcD)))(hl:pre.length+L2<=1000000)(q:∀M' B,Od d M M'->M' d=Z (.dct Wi ((bA (pre++cv i (gi x.1 i) j (gi x.2.1 j) (idx x.2.2))).map kcD))->E.nx [Z (scD L0 L1 L2 p),Z (.ref d),Z (.tup (x.1.map .int)),Z (.tup (x.2.1.map .int)),Z (.tup (x.2.2.map .int)),Z (.int i),Z (.int j),B] M'):
 wSs Φ sbJ E [Z (scD L0 L1 L2 p),Z (.ref d),Z (.tup (x.1.map .int)),Z (.tup (x.2.1.map .int)),Z (.tup (x.2.2.map .int)),Z (.int i),Z (.int j),B] M:=by
 unfold sbJ scD;nofun;refine⟨_,rfl,_,rfl,∅,∅,?_⟩
 rw[Li];rw[<-lJ U]at q;refine au (I:=λl ρ M'=>∃B,ρ=[Z (scD L0 L1 L2 p),Z (.ref d),Z (.tup (x.1.map .int)),Z (.tup (x.2.1.map .int)),Z (.tup (x.2.2.map .int)),Z (.int i),Z (.int j),B]/\Od d M M'/\M' d=Z (.dct Wi ((bA (pre++cv i (gi x.1 i) j (gi x.2.1 j) (ixs x.2.2 l))).map kcD))) aC ⟨_,rfl,Od.refl,by simpa[cv,ixs]using hd⟩ (λ_ _ _ _=>trivial) ?_ ?_
 ·rintro l k r ρ M1 e ⟨B,rfl,g1,G⟩;calc⟨_,rfl,λF hF=>?_⟩;let J:=ah e;rw[Lq]at J;let IK:k<L2:=by let h9:k∈Lc L2:=(by rw[e];simp);simpa using h9
  let O:=qk (pre++cv i (gi x.1 i) j (gi x.2.1 j) (ixs x.2.2 l));rw[hH,ql,lK]at O;unfold sbK;rw[eR];ac_nf;refine⟨⟨_,_,G⟩,by rw[D0];lia,_,_,G,rfl,_,jv ∅ ∅,_,jv ∅ ∅,?_⟩
  ac_nf;refine⟨dA (by let:=xg Y (i:=(i:Int));unfold bd at this;lia),_,jv ∅ ∅,?_⟩
  ac_nf;refine⟨gD (by let:=xg fv (i:=(k:Int));unfold bd at this;lia),?_⟩
  let ek:D.tup [D.int (k:Int),D.int (i:Int),D.int (j:Int)]=k3D (k,i,j):=rfl;rw[ek,lw];let eg:∀L:List Tm,((Option.map (λp:Tm=>D.int p.2) (L.find? λp=>decide (p.1=((k:Int),(i:Int),(j:Int))))).getD (.int 0))=.int (((L.find? λp=>decide (p.1=((k:Int),(i:Int),(j:Int)))).map (·.2)).getD 0):=λL=>by cases L.find? λp=>decide (p.1=((k:Int),(i:Int),(j:Int)))<;>rfl
  rw[eg];ac_nf;refine⟨by rw[D0];lia,qc G rfl (by rw[h7,D0];lia) ?_⟩
  rw[BW (gG _)];calc hF _ _ ⟨_,rfl,g1.upd,?_⟩;rw[aa,jy,show ∀a b:Int,∀zs,∀z:Int×Int,cv i a j b (zs++[z])=cv i a j b zs++[((z.1,(i:Int),(j:Int)),a*b*z.2)] fromλa b zs z=>by simp[cv],<-Lx,fh]
 ·rintro ρ M1 ⟨B,rfl,g1,G⟩;dsimp only;ac_nf;show q _ _ g1 G
def DZ{p:Wk}{x:Pr}{i:Nat}{B z:Option D}{pre:List Tm}(h1:L1<=1000)(h2:L2<=1000)(hi:i<x.1.length)(O:x.2.1.length=L1)(L:x.2.2.length=L2)(U:Big x.1)(Y:Big x.2.2)(hd:M d=Z (.dct Wi ((bA pre).map kcD)))(hl:pre.length+L1*L2<=1000000)(q:∀M' B z,Od d M M'->M' d=Z (.dct Wi ((bA (pre++cw i (gi x.1 i) (idx x.2.1) (idx x.2.2))).map kcD))->E.nx [Z (scD L0 L1 L2 p),Z (.ref d),Z (.tup (x.1.map .int)),Z (.tup (x.2.1.map .int)),Z (.tup (x.2.2.map .int)),Z (.int i),B,z] M'):
 wSs Φ sbI E [Z (scD L0 L1 L2 p),Z (.ref d),Z (.tup (x.1.map .int)),Z (.tup (x.2.1.map .int)),Z (.tup (x.2.2.map .int)),Z (.int i),B,z] M:=by
 unfold sbI scD;nofun;refine⟨_,rfl,_,rfl,∅,∅,?_⟩
 rw[Li];rw[<-lJ O]at q;refine au (I:=λl ρ M'=>∃B z,ρ=[Z (scD L0 L1 L2 p),Z (.ref d),Z (.tup (x.1.map .int)),Z (.tup (x.2.1.map .int)),Z (.tup (x.2.2.map .int)),Z (.int i),B,z]/\Od d M M'/\M' d=Z (.dct Wi ((bA (pre++cw i (gi x.1 i) (ixs x.2.1 l) (idx x.2.2))).map kcD))) aC ⟨_,_,rfl,Od.refl,by simpa[cw,ixs]using hd⟩ (λ_ _ _ _=>trivial) ?_ ?_
 ·rintro l j r ρ M1 e ⟨B,z,rfl,g1,J⟩;calc⟨_,rfl,λF fv=>?_⟩;let G:=ah e;rw[Lq]at G;let IK:j<L1:=by let h9:j∈Lc L1:=(by rw[e];simp);simpa using h9
  let hm:(l.length+1)*L2<=L1*L2:=Ng _ G;rw[Mp]at hm;refine DY h2 hi ∅ L U Y J (by rw[hH,qm,lK,ee,L];lia) λM2 z g2 e2=>fv _ _ ⟨_,_,rfl,g1.trans g2,?_⟩
  rw[e2,jy,Lx,show ∀(a:Int) (ys zs:List (Int×Int)) (y:Int×Int),cw i a (ys++[y]) zs=cw i a ys zs++cv i a y.1 y.2 zs fromλa ys zs y=>by simp[cw]]
 ·rintro ρ M1 ⟨B,z,rfl,g1,J⟩;dsimp only;ac_nf;show q _ _ _ g1 J
def qu(hf:T[f]?=Z (lL s)){n:Nat}(hn:1<=n)(h0:L0<=1000)(h1:L1<=1000)(h2:L2<=1000){p:Wk}{ps:List Pr}(hp:M p=Z (.lst (ps.map prD)))(hl:ps.length*(L0*(L1*L2))<=1000000)(hF:∀p∈ps,Big p.1/\Big p.2.2/\p.1.length=L0/\p.2.1.length=L1/\p.2.2.length=L2)(q:∀(L:List Tm) d M',IsSum ps L->L.length<=ps.length*(L0*(L1*L2))->Ge M M'->M d=N2->M' d=Z (.dct Wi (L.map kcD))->Q (.ref d) M'):phi T n f [.tup [.int L0,.int L1,.int L2,.ref p]] M Q:=by
 refine al ∅ hf rfl (ρ:=[Z (scD L0 L1 L2 p),N2,N2,N2,N2,N2,N2,N2]) rfl ?_
 unfold lL;nofun;intro d hd;let g0:=Ge.new (o:=.dct Wi []) hd;let d0:=aa (M:=M) (a:=d) (o:=.dct Wi []);generalize ag M d (.dct Wi [])=M0 at g0 d0⊢;unfold scD;nofun;calc⟨_,rfl,_,ab (g0 _ _ hp),?_⟩;let IW:p≠d:=λz=>by rw[z,hd]at hp;cases hp
 let cfR:∀ps:List Pr,∀k,cf (ps.flatMap λx=>bV (idx x.1) (idx x.2.1) (idx x.2.2)) k=cf (uH ps) k:=λps k=>by let⟨k,i,j⟩:=k;rw[lH,lB];unfold Tn;congr 1;show N8 λx _=>by rw[lD,fL,fL,fL]
 refine au (f:=prD) (ys:=ps) (I:=λl ρ M'=>∃o2 o3 o4 o5 O U,ρ=[Z (scD L0 L1 L2 p),Z (.ref d),o2,o3,o4,o5,O,U]/\Ge M M'/\M' d=Z (.dct Wi ((bA (l.flatMap λx=>bV (idx x.1) (idx x.2.1) (idx x.2.2))).map kcD))/\(l.flatMap λx=>bV (idx x.1) (idx x.2.1) (idx x.2.2)).length=l.length*(L0*(L1*L2))) rfl ⟨_,_,_,_,_,_,rfl,g0,d0,by simp⟩ (λl ρ M' ⟨_,_,_,_,_,_,_,g,_⟩=>ab (g _ _ hp)) ?_ ?_
 ·rintro l x r ρ M1 e ⟨o2,o3,o4,o5,O,U,rfl,g1,hM,hlen⟩;calc⟨_,rfl,λF IQ=>?_⟩;let⟨b1,b3,e0,e1,e2⟩:=hF x (by rw[e];simp)
  let IM:=ah e;let hm:(l.length+1)*(L0*(L1*L2))<=ps.length*(L0*(L1*L2)):=Ng _ IM;rw[Mp]at hm;unfold scD;nofun;refine⟨_,rfl,_,rfl,∅,∅,?_⟩
  rw[Li];generalize Y:(l.flatMap λx=>bV (idx x.1) (idx x.2.1) (idx x.2.2))=pre at hM hlen;let B:(pre++bV (idx x.1) (idx x.2.1) (idx x.2.2)).length=(l.length+1)*(L0*(L1*L2)):=by rw[hH,qp,ee,ee,ee,hlen,e0,e1,e2,Mp]
  refine au (I:=λl' ρ M'=>∃o5 O U,ρ=[Z (scD L0 L1 L2 p),Z (.ref d),Z (.tup (x.1.map .int)),Z (.tup (x.2.1.map .int)),Z (.tup (x.2.2.map .int)),o5,O,U]/\Od d M1 M'/\M' d=Z (.dct Wi ((bA (pre++bV (ixs x.1 l') (idx x.2.1) (idx x.2.2))).map kcD))) aC ⟨_,_,_,rfl,Od.refl,by simpa[bV,ixs]using hM⟩ (λ_ _ _ _=>trivial) ?_ ?_
  ·rintro l' i r' ρ M2 e' ⟨o5,O,U,rfl,g2,G⟩;calc⟨_,rfl,λF2 IR=>?_⟩;let fv:=ah e';rw[Lq]at fv;let IX:i<L0:=by let h9:i∈Lc L0:=(by rw[e'];simp);simpa using h9
   let IS:(l'.length+1)*(L1*L2)<=L0*(L1*L2):=Ng _ fv;rw[Mp]at IS;refine DZ h1 h2 ∅ e1 e2 b1 b3 G (by rw[hH,qp,lK,ee,ee,hlen,e1,e2];lia) λM3 O U g3 e3=>IR _ _ ⟨_,_,_,rfl,g2.trans g3,?_⟩
   rw[e3,jy,Lx,show ∀(xs ys zs:List (Int×Int)) (y:Int×Int),bV (xs++[y]) ys zs=bV xs ys zs++cw y.1 y.2 ys zs fromλxs ys zs y=>by simp[bV]]
  ·rintro ρ M2 ⟨o5,O,U,rfl,g2,G⟩;dsimp only;ac_nf;rw[lJ e0]at G;refine IQ _ _ ⟨_,_,_,_,_,_,rfl,λa o ea=>?_,?_,?_⟩
   ·by_cases had:a=d
    ·subst had;rw[hd]at ea;cases ea
    ·rw[g2 a had];show g1 _ _ ea
   ·rw[G,Mo,Y,MD,Va,MB]
   ·rw[Mo,Y,MD,Va,MB,B,hH,LC]
 ·rintro ρ M1 ⟨o2,o3,o4,o5,O,U,rfl,g1,hM,hlen⟩;dsimp only;nofun;calc lr rfl hM ?_;generalize B:(ps.flatMap λx=>bV (idx x.1) (idx x.2.1) (idx x.2.2))=raw at hM hlen⊢;let fd:=aa (M:=M1) (a:=d) (o:=.fdc ((bA raw).map kcD));let g2:Ge M (ag M1 d (.fdc ((bA raw).map kcD))):=g1.upd hd;let IT:=qk raw;let J:=gG raw;let IN:=BY raw;generalize ag M1 d (.fdc ((bA raw).map kcD))=M2 at fd g2⊢;generalize bA raw=L at fd IT J IN;ac_nf;calc⟨_,fd,?_⟩;refine ak (f:=λt:Tm=>k3D t.1) (ys:=L) (I:=λl ρ M' acc=>(∃o0,ρ=[o0,Z (.ref d)])/\M'=M2/\acc=(l.filter λt=>!(t.2==0)).map λt=>.tup [k3D t.1,.int t.2]) (by rw[N1];rfl) ⟨⟨_,rfl⟩,rfl,rfl⟩ (λ_ _ _ _ _=>trivial) ?_ ?_
  ·rintro l t r ρ M3 acc e ⟨⟨o0,rfl⟩,rfl,rfl⟩;calc⟨_,rfl,λN' IO=>?_⟩;let IM:=ah e;let ht:t∈L:=by rw[e];simp
   let IU:(l.filter λt=>!(t.2==0)).length<=l.length:=LF _ _;ac_nf;calc kD fd (gH _) (cT J ht) ?_;ac_nf
   by_cases hz:t.2=0
   ·rw[if_neg (by simp[hz])]
    calc IO _ _ _ ⟨⟨_,rfl⟩,rfl,?_⟩;rw[LU,LW (by simp[hz])];simp
   ·rw[if_pos (by simp[hz])]
    calc kD fd (gH _) (cT J ht) ?_;refine⟨by rw[D0];lia,by rw[h7,D0];lia,IO _ _ _ ⟨⟨_,rfl⟩,rfl,?_⟩⟩
    rw[LU,LL (by simp[hz])];simp
  ·rintro ρ M3 acc ⟨⟨o0,rfl⟩,rfl,rfl⟩ p2 hp2;let IU:(L.filter λt=>!(t.2==0)).length<=L.length:=LF _ _;let IP:((L.filter λt=>!(t.2==0)).map (·.1)).Nodup:=J.sublist (Sr _ Q5);refine⟨p2,(L.filter λt=>!(t.2==0)).map kcD,rfl,by rw[aa,N1];rfl,λkv IV=>?_,by rw[h7,D0];lia,λpf IK=>?_⟩
   ·let⟨t,_,rfl⟩:=L7.mp IV;show gH _
   ·rw[jw IP];let g3:=g2.trans (Ge.new (o:=.lst ((L.filter λt=>!(t.2==0)).map λt=>D.tup [k3D t.1,.int t.2])) hp2);refine q (L.filter λt=>!(t.2==0)) pf _ ⟨IP,λt ht=>?_,λk=>by rw[FA,IN,<-B,cfR]⟩ ∅ (g3.trans (Ge.new IK)) ?_ aa
    ·let:=(LM.mp ht).2;simpa using this
    ·cases hz:M pf with
     |none=>rfl
     |some o=>rw[g3 _ _ hz]at IK;cases IK
abbrev lM(s:Stmt):FD:=⟨"_law_terms",s,["_law_sums_here"],1,
 (.cons (.ret (.comp [N2,(Z 0)] ["_law_place","_law_sums_here"] (.last (.seq (.blt .sortk (.cons (.var 0) .nil))) (.name 0) .nil (.bin .add (.var 0) (.tup (.cons (.ix (.var 1) (.var 0)) .nil))))))
 .nil)⟩
def zI(hf:T[f]?=Z (lM s)){n:Nat}(hn:1<=n){L:List Tm}(z:(L.map (·.1)).Nodup)(hl:L.length<=1000000)(hd:M d=Z (.dct Wi (L.map kcD)))(q:∀(rs:List Tm) p M',rs.Perm L->(rs.Pairwise λa b=>klt a.1 b.1)->Ge M M'->M p=N2->M' p=Z (.lst (rs.map tmD))->Q (.ref p) M'):phi T n f [.ref d] M Q:=by
 refine al ∅ hf rfl (ρ:=[Z _]) rfl ?_
 unfold lM;nofun;refine⟨d,Wi,_,.tup [.int,.int,.int],rfl,hd,rfl,λkv G=>?_,λps ys J j B=>?_⟩
 ·let⟨t,_,rfl⟩:=L7.mp G;rfl
 let⟨rs,O,rfl,U⟩:=rq z j B;let F:=Ge.new (o:=.lst (rs.map λt=>k3D t.1)) J;let d7:=F _ _ hd;let Y:=aa (M:=M) (a:=ps) (o:=.lst (rs.map λt=>k3D t.1));generalize ag M ps (.lst (rs.map λt=>k3D t.1))=M7 at F d7 Y⊢;let IK:rs.length<=1000000:=by rw[O.length_eq];lia
 calc⟨_,ab Y,?_⟩;refine ak (f:=λt:Tm=>k3D t.1) (ys:=rs) (I:=λl ρ M' acc=>(∃o0,ρ=[o0,Z (.ref d)])/\M'=M7/\acc=l.map tmD) rfl ⟨⟨_,rfl⟩,rfl,rfl⟩ (λ_ _ _ _ h=>by rw[h.2.1];show ab Y) ?_ ?_
 ·rintro l t r ρ M8 acc e ⟨⟨o0,rfl⟩,rfl,rfl⟩;calc⟨_,rfl,λN' fv=>?_⟩;let IM:=ah e;let ht:t∈L:=O.mem_iff.mp (by rw[e];simp)
  ac_nf;calc .inr (.inl ⟨Wi,_,_,d7,rfl,cT z ht,?_⟩);refine⟨by rw[D0];lia,?_⟩
  unfold k3D;ac_nf;refine⟨.inr trivial,by rw[D0];lia,by rw[h7,D0];lia,fv _ _ _ ⟨⟨_,rfl⟩,rfl,?_⟩⟩
  rw[Ll];rfl
 ·rintro ρ M8 acc ⟨⟨o0,rfl⟩,rfl,rfl⟩ p2 hp2;refine q rs p2 _ O U (F.trans (Ge.new hp2)) ?_ aa
  cases hz:M p2 with
  |none=>rfl
  |some o=>rw[F _ _ hz]at hp2;cases hp2
end
section
open L2.Srt
variable{T:List FD}
abbrev ov(p:Int)(L:List Tm):List Tm:=(L.filter λt=>!(t.2%p==0)).map λt=>(t.1,t.2%p)
def so{p:Int}{L:List Tm}(h:(L.map (·.1)).Nodup):((ov p L).map (·.1)).Nodup:=by unfold ov;rw[N1];show h.sublist (Sr _ Q5)
def Al{p:Int}{L:List Tm}:∀t∈ov p L,t.2≠0:=λt j=>by unfold ov at j;let⟨u,q,rfl⟩:=L7.mp j;let:=(LM.mp q).2;simpa using this
def uK{p:Int}{k:K3}:∀{L:List Tm},(L.map (·.1)).Nodup->cf (ov p L) k=cf L k%p
 |[],_=>by simp[ov,cM]
 |t::L,h=>by
  rw[Lj,Na]at h;let ih:=uK (p:=p) (k:=k) h.2;rw[aR]
  by_cases e:t.1=k
  ·let z:cf L k=0:=fJ λu q eu=>h.1 (by rw[e,<-eu];show LJ q)
   rw[z]at ih;rw[if_pos e,z,Rk];unfold ov at ih⊢
   by_cases j:t.2%p=0
   ·rw[LW (by simp[j]),ih,j];simp
   ·rw[LL (by simp[j]),Lj,aR,if_pos e,ih];simp
  ·rw[if_neg e,Rj];unfold ov at ih⊢
   by_cases j:t.2%p=0
   ·rw[LW (by simp[j]),ih]
   ·rw[LL (by simp[j]),Lj,aR,if_neg e,ih];simp
def qv{α:Type}[DecidableEq α]:∀{a b:List α},a.Nodup->(∀x∈a,x∈b)->b.length<=a.length->a.Perm b
 |[],b,_,_,h=>by
  let:b=[]:=LV.mp (by simpa using h)
  rw[this]
 |x::a,b,j,hs,h=>by
  rw[Na]at j;let hx:=hs x (_)
  let h1:=Sd hx;let ih:=qv (b:=b.erase x) j.2 (λy q=>(Tz (λz:y=x=>j.1 (by rw[<-z];show q))).mpr (hs y (by simp[q]))) (by rw[LB]at h;lia)
  show(ih.cons x).trans (List.perm_cons_erase hx).symm
def E1{a b:List Tm}(j:(a.map (·.1)).Nodup)(q:(b.map (·.1)).Nodup)(za:∀t∈a,t.2≠0)(zb:∀t∈b,t.2≠0):eqD (a.map kcD) (b.map kcD)=Wi↔∀k,cf a k=cf b k:=by
 constructor
 ·intro h k;unfold eqD at h;rw[D1]at h;let⟨h1,h2⟩:=h;rw[OG]at h2;let sub:∀t∈a,t∈b:=fun t B=>by
   let:=of_decide_eq_true (h2 (kcD t) (LJ B));rw[show(kcD t).1=k3D t.1 from rfl,lw]at this;let⟨u,z,e⟩:=OB.mp this;let F:=List.find?_some z;let G:=RL z;let J:u.1=t.1:=of_decide_eq_true F;let L:u.2=t.2:=D.int.inj e;rw[show t=u from VG J.symm L.symm];show G
  let pm:a.Perm b:=qv (uI j) sub (by
   let:a.length=b.length:=by simpa using h1
   lia)
  show BV pm
 ·intro h;show zH q (C0 j q za zb h)
end
section
open L2.Srt
abbrev chF(P n:Nat)(A:List (Nat->Int))(ts:List (List Int)):List (Nat->Int):=ts.foldl (λA t=>@ite _ (Sp P n A (gf t)) (Nf _) A (A++[gf t])) A
def fM{n:Nat}:chF P n A []=A:=rfl
def bD{n:Nat}{t:List Int}(h:Sp P n A (gf t)):chF P n A (t::ts)=chF P n A ts:=by unfold chF;rw[Nl,if_pos h]
def aH{n:Nat}{t:List Int}(h:¬Sp P n A (gf t)):chF P n A (t::ts)=chF P n (A++[gf t]) ts:=by unfold chF;rw[Nl,if_neg h]
def sr{n:Nat}{us:List (List Int)}:chF P n A (ts++us)=chF P n (chF P n A ts) us:=by unfold chF;rw[Ov]
def i7{n:Nat}{t:List Int}(h:Sp P n (chF P n A ts) (gf t)):chF P n A (ts++[t])=chF P n A ts:=by rw[sr,bD h];rfl
def cU{n:Nat}{t:List Int}(h:¬Sp P n (chF P n A ts) (gf t)):chF P n A (ts++[t])=chF P n A ts++[gf t]:=by rw[sr,aH h];rfl
def Sp.moreL{p:Int}{n:Nat}{bs:List (Nat->Int)}{f:Nat->Int}(h:Sp p n bs f):∀us:List (Nat->Int),Sp p n (bs++us) f
 |[]=>by rw[MB];show h
 |u::us=>by
  rw[show bs++u::us=(bs++[u])++us by simp]
  show Sp.moreL h.more us
def fN{P n:Nat}:∀{ts:List (List Int)} {A:List (Nat->Int)},∃us,chF P n A ts=A++us/\us.length<=ts.length
 |[],A=>⟨[],by rw[fM,MB],L9 _⟩
 |t::ts,A=>by
  by_cases h:Sp P n A (gf t)
  ·let⟨us,e,j⟩:=fN (P:=P) (n:=n) (ts:=ts) (A:=A);show⟨us,by rw[bD h,e],by rw[LB];lia⟩
  ·let⟨us,e,j⟩:=fN (P:=P) (n:=n) (ts:=ts) (A:=A++[gf t]);show⟨gf t::us,by rw[aH h,e];simp,by rw[LB,LB];lia⟩
def iS{n:Nat}:(chF P n A ts).length<=A.length+ts.length:=by let⟨us,e,j⟩:=fN (P:=P) (n:=n) (ts:=ts) (A:=A);rw[e,hH];lia
def i8{n:Nat}{f:Nat->Int}(h:Sp P n A f):Sp P n (chF P n A ts) f:=by let⟨us,e,_⟩:=fN (P:=P) (n:=n) (ts:=ts) (A:=A);rw[e];show h.moreL us
def bP{P n:Nat}:∀{ts:List (List Int)} {A:List (Nat->Int)} {t:List Int},t∈ts->Sp P n (chF P n A ts) (gf t)
 |u::ts,A,t,h=>by
  rcases Lm.mp h with rfl|h
  ·by_cases e:Sp P n A (gf t)
   ·rw[bD e];show i8 e
   ·rw[aH e];show i8 Sp.last
  ·by_cases e:Sp P n A (gf u)
   ·rw[bD e];show bP h
   ·rw[aH e];show bP h
def qw{P n:Nat}:∀{ts:List (List Int)} {A:List (Nat->Int)},(chF P n A ts).length<A.length+ts.length->∃i,i<ts.length/\chF P n A (ts.eraseIdx i)=chF P n A ts
 |[],A,h=>by rw[fM]at h;simp at h
 |t::ts,A,h=>by
  by_cases e:Sp P n A (gf t)
  ·show⟨0,by simp,by rw[bD e];rfl⟩
  ·rw[aH e,LB,<-Sa,Nat.add_right_comm]at h;let⟨i,hi,q⟩:=qw (A:=A++[gf t]) (ts:=ts) (by rw[hH,LC];show h)
   show⟨i+1,by rw[LB];lia,by rw[List.eraseIdx_cons_succ,aH e,aH e,q]⟩
def qz{P n:Nat}{A:List (Nat->Int)}(T:List (List Int)):∀k,k<=T.length->∃ix:List Nat,ix.Pairwise (· < ·)/\(∀i∈ix,i<k)/\chF P n A (ix.map λi=>T.getD i [])=chF P n A (T.take k)/\(chF P n A (T.take k)).length=A.length+ix.length
 |0,_=>⟨[],.nil,by simp,by simp[fM],by simp[fM]⟩
 |k+1,h=>by
  let⟨ix,h1,h2,j,z⟩:=qz (P:=P) (n:=n) (A:=A) T k ∅
  let e:T.take (k+1)=T.take k++[T.getD k []]:=by rw[NF,z4 ∅];simp[Lw,z4 (show k<T.length by lia)]
  by_cases q:Sp P n (chF P n A (T.take k)) (gf (T.getD k []))
  ·show⟨ix,h1,λi hi=>by let:=h2 i hi;lia,by rw[e,i7 q,j],by rw[e,i7 q,z]⟩
  ·refine⟨ix++[k],?_,?_,?_,?_⟩
   ·rw[L6];show⟨h1,by simp,λa B b F=>by rw[LD.mp F];show h2 a B⟩
   ·intro i hi
    rcases Lb.mp hi with hi|hi
    ·let:=h2 i hi;lia
    ·rw[LD.mp hi];lia
   ·rw[Ll,Lj,Np,e,cU (by rw[j];show q),j,cU q]
   ·rw[e,cU q,hH,hH,z];simp;lia
abbrev In(P n:Nat)(A:List (Nat->Int)):Prop:=∃keys,Kn P n A keys
def In.init{n:Nat}(j:P=2∨P=3):In P n []:=⟨_,Kn.init ∅⟩
def In.step{n:Nat}(j:P=2∨P=3){t:List Int}(h:In P n A)(q:Vr P n t)(z:¬Sp P n A (gf t)):In P n (A++[gf t]):=let⟨k,h⟩:=h; ⟨_,h.step j q z⟩
def In.ch{P n:Nat}(j:P=2∨P=3):∀{ts:List (List Int)} {A:List (Nat->Int)},In P n A->(∀t∈ts,Vr P n t)->In P n (chF P n A ts)
 |[],A,h,_=>h
 |t::ts,A,h,q=>by
  by_cases e:Sp P n A (gf t)
  ·rw[bD e];show In.ch j h λx hx=>q x (L4 _ hx)
  ·rw[aH e];show In.ch j (h.step j (q t Ld) e) λx hx=>q x (L4 _ hx)
def iT{α:Type}[DecidableEq α]:∀{l₁ l₂:List α},l₁.Nodup->(∀x∈l₁,x∈l₂)->l₁.length<=l₂.length
 |[],_,_,_=>N6 _
 |a::l,l₂,h,hs=>by
  rw[Na]at h;let j:=hs a Ld;let ih:=iT (l₂:=l₂.erase a) h.2 λx hx=>(Tz λz=>h.1 (by rw[<-z];show hx)).mpr (hs x (L4 _ hx))
  rw[Sd j]at ih;let:=List.length_pos_of_mem j;rw[LB];lia
def Am{a b:Nat}(j:P=2∨P=3)(h:P^a<=P^b):a<=b:=by
 rcases Qz b a with k|k
 ·let:=Nat.pow_lt_pow_right (a:=P) ∅ k
  lia
 ·show k
def In.le{n:Nat}(j:P=2∨P=3)(q:In P n A)(z:In P n B)(h:∀v,Vr P n v->Sp P n A (gf v)->Sp P n B (gf v)):A.length<=B.length:=by let⟨k,ka⟩:=q;let⟨l,kb⟩:=z;let:=iT ka.nd λx hx=>(kb.mem x).mpr ⟨((ka.mem x).mp hx).1,h x ((ka.mem x).mp hx).1 ((ka.mem x).mp hx).2⟩;rw[ka.len,kb.len]at this;show Am j this
def In.all{n:Nat}(J:P=2∨P=3)(j:In P n A)(q:In P n B)(h:∀v,Vr P n v->Sp P n A (gf v)->Sp P n B (gf v))(e:A.length=B.length)(F:Vr P n v)(hs:Sp P n B (gf v)):Sp P n A (gf v):=by
 let⟨k,ka⟩:=j;let⟨l,kb⟩:=q;apply Mw;intro G;let hm:v∉k:=λz=>G ((ka.mem v).mp z).2;let:=iT (l₁:=v::k) (l₂:=l) (Na.mpr ⟨hm,ka.nd⟩) λx hx=>by
  rcases Lm.mp hx with rfl|hx
  ·show(kb.mem x).mpr ⟨F,hs⟩
  ·show(kb.mem x).mpr ⟨((ka.mem x).mp hx).1,h x ((ka.mem x).mp hx).1 ((ka.mem x).mp hx).2⟩
 rw[LB,ka.len,kb.len,e]at this;lia
def Bs.le{n:Nat}(h:Bs P n A base):A.length<=n:=by
 let nd:(base.map (·.1)).Nodup:=by rw[LS,Nr];calc P5 (λ{a b} ha hb hab e=>?_) h.tri;rw[e,(h.pl b hb).2]at hab;show absurd hab (·)
 let:=iT (l₂:=Lc n) nd λx hx=>by let⟨e,he,rfl⟩:=L7.mp hx;show LP.mpr (h.pl e he).1
 rw[h7,Lq,h.len]at this;show this
abbrev dlk(k:Nat):Nat->Int:=λx=>if x=k then 1 else 0
def Sp.units{p:Int}{n:Nat}(h:∀k,k<n->Sp p n B (dlk k))(f:Nat->Int):Sp p n B f:=by
 let go:∀k,k<=n->Sp p n B λx=>if x<k then f x else 0:=by
  intro k
  induction k with
  |zero=>intro _;show Sp.zero λx _=>by simp
  |succ k ih=>
   intro j;refine((ih ∅).comb (k:=f k) (h k ∅)).congr λx _=>?_
   unfold dlk
   by_cases e:x=k
   ·subst e;simp
   ·by_cases e2:x<k
    ·rw[if_pos e2,if_neg e,if_pos ∅];simp
    ·rw[if_neg e2,if_neg e,if_neg ∅];simp
 show(go n (L9 _)).congr λx hx=>by rw[if_pos hx];simp
end
section
open L2.Srt
abbrev bn:Nat->Nat->Nat
 |_,0=>1
 |0,_+1=>0
 |n+1,k+1=>bn n k+bn n (k+1)
def bn_0{n:Nat}:bn n 0=1:=by cases n<;>rfl
def el:∀{n k:Nat},n<k->bn n k=0
 |0,k+1,_=>rfl
 |n+1,k+1,h=>by change bn n k+bn n (k+1)=0;rw[el (show n<k by lia),el (show n<k+1 by lia)]
def xh:∀{n k:Nat},k<=n->1<=bn n k
 |n,0,_=>by rw[bn_0];show L9 _
 |n+1,k+1,h=>by
  change 1<=bn n k+bn n (k+1);let:=xh (n:=n) (k:=k) ∅
  lia
def su{n:Nat}:bn n n=1:=by
 induction n with
 |zero=>rfl
 |succ n ih=>change bn n n+bn n (n+1)=1;rw[ih,el ∅]
def lN:∀{n a b:Nat},a+b=n->bn n a=bn n b
 |0,a,b,h=>by
  let:a=0:=∅
  let:b=0:=∅
  subst a;subst b;rfl
 |n+1,0,b,h=>by
  let:b=n+1:=∅
  subst this;rw[bn_0,su]
 |n+1,a+1,0,h=>by
  let:a=n:=∅
  subst this;rw[bn_0,su]
 |n+1,a+1,b+1,h=>by change bn n a+bn n (a+1)=bn n b+bn n (b+1);rw[lN (show a+(b+1)=n by lia),lN (show(a+1)+b=n by lia),Uz]
def E2{k:Nat}:bn m k*(k+1)+bn m k*(m-k)=bn m k*(m+1):=by
 by_cases h:k<=m
 ·rw[<-Nat.mul_add,show k+1+(m-k)=m+1 by lia]
 ·rw[el ∅];simp
def iU:∀{m k:Nat},bn m (k+1)*(k+1)=bn m k*(m-k)
 |0,k=>by simp[bn]
 |m+1,0=>by let ih:=iU (m:=m) (k:=0);let e:bn (m+1) (0+1)=bn m 0+bn m (0+1):=rfl;rw[bn_0]at ih;rw[e,bn_0,bn_0];lia
 |m+1,k+1=>by
  let j:=iU (m:=m) (k:=k+1);let q:=iU (m:=m) (k:=k);let a1:=E2 (m:=m) (k:=k+1);let z:bn (m+1) (k+1+1)=bn m (k+1)+bn m (k+1+1):=rfl;let B:bn (m+1) (k+1)=bn m k+bn m (k+1):=rfl;let F:m+1-(k+1)=m-k:=∅
  let a2:bn m (k+1)*(k+1)+bn m (k+1)*(m-k)=bn m (k+1)*(m+1):=by
   by_cases h:k<=m
   ·rw[<-Nat.mul_add,show k+1+(m-k)=m+1 by lia]
   ·rw[el (show m<k+1 by lia)];simp
  rw[z,B,F,Nat.add_mul,Nat.add_mul,j,<-q,a1,a2]
abbrev cnt(m:Nat):Nat->Nat
 |0=>1
 |k+1=>cnt m k*(m-k) / (k+1)
def xi{m:Nat}:∀k,cnt m k=bn m k
 |0=>bn_0.symm
 |k+1=>by change cnt m k*(m-k) / (k+1)=_;rw[xi k,<-iU,Nat.mul_div_cancel _ ∅]
def C1{e:Nat}(h:e<=m):cnt m (min e (m-e))=bn m e:=by
 rw[xi]
 by_cases k:e<=m-e
 ·rw[OQ k]
 ·rw[Nat.min_eq_right ∅];show lN ∅
def xj{r:Nat}:∀{M:Nat},((Lc (M-r)).map λi=>bn (M-(i+1)) r).sum=bn M (r+1)
 |0=>by simp[bn]
 |M+1=>by
  by_cases h:r<=M
  ·rw[show M+1-r=(M-r)+1 by lia,List.range_succ_eq_map,Lj,U7,N1]
   let ih:=xj (r:=r) (M:=M);change _=bn M r+bn M (r+1);rw[<-ih];congr 1;congr 1;calc N8 λi _=>?_;change bn (M+1-(i+1+1)) r=_;congr 1;lia
  ·rw[show M+1-r=0 by lia,el ∅];rfl
abbrev fsx(c:List Nat):Nat:=match c.getLast? with|none=>0|some x=>x+1
abbrev exs(m e k:Nat)(c:List Nat):List (List Nat):=(Lc (m-e+k+1-fsx c)).map λi=>c++[fsx c+i]
abbrev stp(m e k:Nat)(cs:List (List Nat)):List (List Nat):=cs.flatMap (exs m e k)
abbrev sts(m e:Nat):Nat->List (List Nat)
 |0=>[[]]
 |k+1=>stp m e k (sts m e k)
def cV{c:List Nat}{x:Nat}:fsx (c++[x])=x+1:=by unfold fsx;simp
def eA{m e:Nat}:∀{k:Nat},∀c,c∈sts m e k↔c.length=k/\c.Pairwise (· < ·)/\∀(i x:Nat),c[i]?=Z x->x<=m-e+i
 |0,c=>by
  constructor
  ·intro h;let:c=[]:=by simpa[sts]using h
   subst this;show⟨rfl,.nil,by simp⟩
  ·rintro⟨h,_,_⟩;rw[LV.mp h];simp[sts]
 |k+1,c=>by
  constructor
  ·intro h;let⟨u,B,h⟩:=Mn.mp (show c∈(sts m e k).flatMap (exs m e k)from h);let⟨i,hi,rfl⟩:=L7.mp h;let hi:=LP.mp hi;let⟨h1,h2,z⟩:=(eA u).mp B;refine⟨by rw[hH,h1];rfl,?_,λj x hx=>?_⟩
   ·rw[L6];refine⟨h2,by simp,λa q b J=>?_⟩
    rw[LD.mp J]
    rcases NH u with rfl|⟨u',y,rfl⟩
    ·cases q
    ·rw[NI]at *
     rw[cV]
     rcases Lb.mp q with q|q
     ·let:=(L6.mp h2).2.2 a q y (_)
      lia
     ·rw[LD.mp q];lia
   ·by_cases hj:j<u.length
    ·rw[L8 hj]at hx;show z j x hx
    ·rw[L3 ∅]at hx
     let:j-u.length=0:=by let:=(L5.mp hx).1;simp at this;lia
     rw[this]at hx;let hx:fsx u+i=x:=by simpa using hx
     lia
  ·rintro⟨h1,h2,z⟩
   rcases NH c with rfl|⟨u,x,rfl⟩
   ·simp at h1
   ·rw[NI]at *
    rw[L6]at h2;let F:u.length=k:=by rw[hH,LC]at h1;lia
    let B:=(eA (m:=m) (e:=e) (k:=k) u).mpr ⟨F,h2.1,λi y G=>z i y (by rw[L8 (L5.mp G).1];show G)⟩
    let hx:=z k x (by rw[L3 ∅,F,Q2];rfl)
    let hf:fsx u<=x:=by
     rcases NH u with rfl|⟨u',y,rfl⟩
     ·show N6 _
     ·rw[NI]at *
      rw[cV];show h2.2.2 y (_) x (_)
    change _∈(sts m e k).flatMap (exs m e k);show Mn.mpr ⟨u,B,L7.mpr ⟨x-fsx u,LP.mpr ∅,by rw[show fsx u+(x-fsx u)=x by lia]⟩⟩
def qA{m:Nat}:∀{c:List Nat},c.Pairwise (· < ·)->(∀x∈c,x<m)->∀(i x:Nat),c[i]?=Z x->x+(c.length-i)<=m
 |a::c,h,hm,0,x,e=>by
  let:a=x:=by simpa using e
  subst this;let j:=hm a Ld
  cases c with
  |nil=>simp;lia
  |cons b c=>let ih:=qA (c:=b::c) (Nj.mp h).2 (λx hx=>hm x (L4 _ hx)) 0 b rfl;let:=(Nj.mp h).1 b Ld;rw[LB];lia
 |a::c,h,hm,i+1,x,e=>by
  let ih:=qA (c:=c) (Nj.mp h).2 (λx hx=>hm x (L4 _ hx)) i x (by simpa using e)
  rw[LB];lia
def lP{e:Nat}{c:List Nat}(j:c.length=e)(h:c.Pairwise (· < ·))(hm:∀x∈c,x<m):c∈sts m e e:=by calc(eA c).mpr ⟨j,h,λi x hx=>?_⟩;let:=qA h hm i x hx;let hi:=(L5.mp hx).1;lia
def qB{e:Nat}(he:e<=m){c:List Nat}(h:c∈sts m e e):c.length=e/\c.Pairwise (· < ·)/\∀x∈c,x<m:=by let⟨h1,h2,j⟩:=(eA c).mp h;calc⟨h1,h2,λx hx=>?_⟩;let⟨i,hi⟩:=Nv hx;let:=j i x hi;let:=(L5.mp hi).1;lia
def qC{α β:Type}(f:α->List β)(g:β->Nat):∀l:List α,((l.flatMap f).map g).sum=(l.map λa=>((f a).map g).sum).sum
 |[]=>rfl
 |a::l=>by rw[MD,Ll,List.sum_append,qC f g l,Lj,U7]
def sv{m e:Nat}(he:e<=m):∀{k:Nat},k<=e->((sts m e k).map λc=>bn (m-fsx c) (e-k)).sum=bn m e
 |0,_=>by simp[sts,fsx]
 |k+1,j=>by
  change(((sts m e k).flatMap (exs m e k)).map λc=>bn (m-fsx c) (e-(k+1))).sum=_;rw[qC,<-sv he (k:=k) ∅]
  congr 1;calc N8 λc _=>?_;let h:=xj (r:=e-(k+1)) (M:=m-fsx c);rw[show e-(k+1)+1=e-k by lia]at h
  rw[<-h];unfold exs;rw[N1,show m-e+k+1-fsx c=m-fsx c-(e-(k+1)) by lia]
  congr 1;calc N8 λi _=>?_;change bn (m-fsx (c++[fsx c+i])) _=_;rw[cV];congr 1;lia
def qD{α:Type}(g:α->Nat):∀{l:List α},(∀a∈l,1<=g a)->l.length<=(l.map g).sum
 |[],_=>N6 _
 |a::l,h=>by let:=qD g (l:=l) λx hx=>h x (L4 _ hx);let:=h a Ld;rw[Lj,U7,LB];lia
def C2{e:Nat}(he:e<=m){k:Nat}(j:k<=e):(sts m e k).length<=bn m e:=by
 rw[<-sv he j];calc qD _ λc q=>xh ?_;let⟨h1,h2,z⟩:=(eA c).mp q
 rcases NH c with rfl|⟨u,x,rfl⟩
 ·change e-k<=m-0;lia
 ·rw[NI]at *
  rw[cV];let B:u.length+1=k:=by simpa using h1
  let:=z u.length x (_)
  lia
end
section
open L2.Srt
abbrev cm(g:Nat->Nat->Int)(c:Nat->Int):Nat->Nat->Int
 |0,_=>0
 |k+1,x=>cm g c k x+c k*g k x
def eT{g g':Nat->Nat->Int}{c c':Nat->Int}{x:Nat}:∀{k:Nat},(∀i,i<k->c i*g i x=c' i*g' i x)->cm g c k x=cm g' c' k x
 |0,_=>rfl
 |k+1,h=>by change cm g c k x+c k*g k x=cm g' c' k x+c' k*g' k x;rw[eT λi hi=>h i ∅,h k ∅]
def sx{g:Nat->Nat->Int}{c:Nat->Int}{a:Int}{x:Nat}:∀{k:Nat},cm g (λi=>a*c i) k x=a*cm g c k x
 |0=>by simp[cm]
 |k+1=>by change cm g (λi=>a*c i) k x+a*c k*g k x=a*(cm g c k x+c k*g k x);rw[sx,Vp,U5]
def qE{g:Nat->Nat->Int}{c d:Nat->Int}{x:Nat}:∀{k:Nat},cm g (λi=>d i-c i) k x=cm g d k x-cm g c k x
 |0=>by simp[cm]
 |k+1=>by change cm g (λi=>d i-c i) k x+(d k-c k)*g k x=cm g d k x+d k*g k x-(cm g c k x+c k*g k x);rw[qE,Int.sub_mul];lia
def sp_cm{p:Int}{n:Nat}{g:Nat->Nat->Int}:∀{k:Nat} {f:Nat->Int},Sp p n ((Lc k).map g) f↔∃c:Nat->Int,∀x,x<n->p ∣ f x-cm g c k x
 |0,f=>by
  constructor
  ·intro h;show⟨λ_=>0,λx hx=>by let:=h x hx;simpa[cm]using this⟩
  ·rintro⟨c,h⟩ x hx;let:=h x hx;simpa[cm]using this
 |k+1,f=>by
  rw[PD,Ll,Lj,Np,Sp.snoc];constructor
  ·rintro⟨a,h⟩;let⟨c,h⟩:=sp_cm.mp h;refine⟨λi=>if i=k then a else c i,λx hx=>?_⟩
   let:=h x hx;change p ∣ f x-(cm g (λi=>if i=k then a else c i) k x+(if k=k then a else c k)*g k x)
   rw[if_pos rfl,eT (g':=g) (c':=c) λi hi=>by rw[if_neg ∅]]
   rwa[show f x-(cm g c k x+a*g k x)=f x-a*g k x-cm g c k x by lia]
  ·rintro⟨c,h⟩;calc⟨c k,sp_cm.mpr ⟨c,λx hx=>?_⟩⟩;let:=h x hx
   rwa[show f x-cm g c (k+1) x=f x-c k*g k x-cm g c k x by change f x-(cm g c k x+c k*g k x)=_;lia]at this
def sq1(j:P=2∨P=3)(h:¬(P:Int) ∣ c):(P:Int) ∣ c*c-1:=by
 let h0:=Nb c (show(P:Int)≠0 by lia)
 let h1:=Mv c (show(0:Int)<P by lia)
 let hw:c%P≠0:=λz=>h (Int.dvd_of_emod_eq_zero z);let a:=qr (p:=P) ∅ (w:=c%P) ∅ h1
 let b:(P:Int) ∣ (c-c%P)*(c+c%P):=Nc cr;let:=Pf b a
 rwa[show(c-c%P)*(c+c%P)+(c%P*(c%P)-1)=c*c-1 by grind]at this
def xk{P n m:Nat}(q:P=2∨P=3){g:Nat->Nat->Int}(hi:∀k,k<m->¬Sp P n ((Lc k).map g) (g k)){c:Nat->Int}:∀{k:Nat},k<=m->(∀x,x<n->(P:Int) ∣ cm g c k x)->∀i,i<k->(P:Int) ∣ c i
 |0,_,_,i,h=>absurd h ∅
 |k+1,B,h,i,z=>by
  by_cases j:(P:Int) ∣ c k
  ·let ih:=xk q hi (k:=k) ∅ fun x hx=>by
    let a:=h x hx;let b:(P:Int) ∣ c k*g k x:=Nc j;let:=Oi a b
    rwa[show cm g c (k+1) x-c k*g k x=cm g c k x by change cm g c k x+c k*g k x-c k*g k x=_;lia]at this
   by_cases e:i=k
   ·rw[e];show j
   ·show ih i ∅
  ·exfalso
   apply hi k ∅
   calc sp_cm.mpr ⟨λi=>-(c k)*c i,λx hx=>?_⟩;rw[sx];let a:(P:Int) ∣ c k*cm g c (k+1) x:=N4 (h x hx);let b:(P:Int) ∣ (c k*c k-1)*g k x:=Nc (sq1 q j);let:=Oi a b
   rwa[show c k*cm g c (k+1) x-(c k*c k-1)*g k x=g k x - -(c k)*cm g c k x by change c k*(cm g c k x+c k*g k x)-_=_;grind]at this
def Sp.less{p:Int}{n:Nat}(h:n<=N):∀{bs:List (Nat->Int)} {f:Nat->Int},Sp p N bs f->Sp p n bs f
 |[],f,s=>λx hx=>s x ∅
 |b::bs,f,⟨c,s⟩=>⟨c,s.less h⟩
def FB{n:Nat}(hP:P=2∨P=3){g mk:Nat->Nat->Int}(hi:∀k,k<m->¬Sp P n ((Lc k).map g) (g k))(h1:∀i x,i<m->x<n->mk i x=g i x)(h2:∀i j,i<m->j<m->mk i (n+j)=if j=i then 1 else 0)(q:Bs P (n+m) ((Lc m).map mk) base)(hf:∀e∈base,∀x,x<e.1->gf e.2 x=0){t t0:List Int}(ht:Vr P (n+m) t0)(e1:∀x,x<n->gf t0 x=gf t x)(G:∀j,j<m->gf t0 (n+j)=0)(hs:Sp P n ((Lc m).map g) (gf t)):
 ∀x,x<n->(P:Int) ∣ gf t x-cm g (λi=>(-(gf (wo P base t0) (n+i)))%P) m x:=by
 let z:0<P:=∅
 let cmg:∀(c:Nat->Int) x,x<n->cm mk c m x=cm g c m x:=λc x hx=>eT λi hi=>by rw[h1 i x hi hx]
 let cmm:∀(c:Nat->Int) j,j<m->cm mk c m (n+j)=c j:=by
  intro c j J;let:∀k,k<=m->cm mk c k (n+j)=if j<k then c j else 0:=by
   intro k
   induction k with
   |zero=>intro _;simp[cm]
   |succ k ih=>
    intro hk;change cm mk c k (n+j)+c k*mk k (n+j)=_;rw[ih ∅,h2 k j ∅ J]
    by_cases e:j=k
    ·subst e;rw[if_neg ∅,if_pos rfl,if_pos ∅];lia
    ·by_cases G:j<k
     ·rw[if_pos G,if_neg e,if_pos ∅];lia
     ·rw[if_neg G,if_neg e,if_neg ∅];lia
  rw[this m (L9 _),if_pos J]
 let L:∀e∈base,e.1<n:=by
  intro e he;apply Mw;intro B;let O:Sp P (n+m) (base.map λe=>gf e.2) (gf e.2):=by
   let⟨l,r,rfl⟩:=Up he;rw[Ll,Lj,show(l.map λe=>gf e.2)++(gf e.2::r.map λe=>gf e.2)=((l.map λe=>gf e.2)++[gf e.2])++r.map λe=>gf e.2 by simp]
   show Sp.last.moreL _
  let⟨c,F⟩:=sp_cm.mp ((q.sp _).mp O);let U:=xk hP hi (c:=c) (L9 m) λx hx=>by
   let:=F x ∅
   rw[hf e he x ∅,cmg c x hx,Int.zero_sub]at this
   rwa[<-Qm]
  let⟨Y,fv⟩:=q.pl e he;let:=F e.1 Y;obtain⟨j,J⟩:∃j,e.1=n+j:=⟨e.1-n,∅⟩
  rw[fv,J,cmm c j ∅]at this
  let h9:=Pf this (U j ∅)
  rw[show(1:Int)-c j+c j=1 by lia]at h9
  let:=Int.le_of_dvd (·) h9
  lia
 let⟨c,F⟩:=sp_cm.mp ((q.sp _).mp (oo z q.vr ht));let⟨d,hd⟩:=sp_cm.mp hs;let U:=iR z q.vr q.pl q.tri ht;let IK:=jx (P:=P) (f:=cm mk (λi=>d i-c i) m) q.pl q.tri (λe he=>by
  let B:=L e he;let a:=F e.1 ∅
  let b:=hd e.1 B;rw[U e he,e1 _ B,cmg c _ B]at a;rw[cmg _ _ B,qE];let:=Oi a b
  rwa[show gf t e.1-0-cm g c m e.1-(gf t e.1-cm g d m e.1)=cm g d m e.1-cm g c m e.1 by lia]at this) ((q.sp _).mpr (sp_cm.mpr ⟨λi=>d i-c i,λx _=>by rw[Int.sub_self];show N9 _⟩))
 intro x hx;let IM:∀i,i<m->(P:Int) ∣ d i-(-(gf (wo P base t0) (n+i)))%P:=by
  intro i hi;let a:=IK (n+i) ∅
  rw[cmm _ i hi]at a;let b:=F (n+i) ∅
  rw[G i hi,cmm c i hi]at b;let e:=Pf (Oi a b) (cr (p:=P) (a:=-(gf (wo P base t0) (n+i))))
  rwa[show d i-c i-(0-gf (wo P base t0) (n+i)-c i)+(-(gf (wo P base t0) (n+i)) - -(gf (wo P base t0) (n+i))%P)=d i - -(gf (wo P base t0) (n+i))%P by lia]at e
 let a:=hd x hx;let b:(P:Int) ∣ cm g (λi=>d i-(-(gf (wo P base t0) (n+i)))%P) m x:=by
  let:∀k,k<=m->(P:Int) ∣ cm g (λi=>d i-(-(gf (wo P base t0) (n+i)))%P) k x:=by
   intro k
   induction k with
   |zero=>intro _;show N9 _
   |succ k ih=>intro hk;show Pf (ih ∅) (Nc (IM k ∅))
  show this m (L9 _)
 rw[qE]at b;let:=Pf a b
 rwa[show gf t x-cm g d m x+(cm g d m x-cm g (λi=>-gf (wo P base t0) (n+i) % ↑P) m x)=gf t x-cm g (λi=>-gf (wo P base t0) (n+i) % ↑P) m x by lia]at this
end
section
variable{T:List FD}
abbrev gI(s:Stmt):FD:=⟨"is_number",s,["thing"],1,
 (.cons (.ret (.and (.cons (.isin (.var 0) "int") (.cons (.not (.isin (.var 0) "bool")) .nil))))
 .nil)⟩
abbrev ot(s:Stmt)(fn:Nat):FD:=⟨"is_length",s,["thing"],1,
 (.cons (.ret (.and (.cons (.call fn (.cons (.var 0) .nil)) (.cons (.chain .le .le (.int 1) (.var 0) (.glob "LONGEST" (.int 81))) .nil))))
 .nil)⟩
abbrev fO(s:Stmt)(fn:Nat):FD:=⟨"is_part",s,["thing","length"],2,
 (.cons (.ret (.and (.cons (.isin (.var 0) "tuple") (.cons (.cmp .eq (.blt .len (.cons (.var 0) .nil)) (.var 1)) (.cons (.blt .all (.cons (.comp [N2] ["x"] (.last (.seq (.var 0)) (.name 0) .nil (.call fn (.cons (.var 0) .nil)))) .nil)) .nil)))))
 .nil)⟩
abbrev iV(s:Stmt)(fp:Nat):FD:=⟨"is_product",s,["thing","lengths"],2,
 (.cons (.ite (.or (.cons (.not (.tru (.isin (.var 0) "tuple"))) (.cons (.cmp .ne (.blt .len (.cons (.var 0) .nil)) (.int 3)) .nil))) (.cons (.ret (.bl Wj))
 .nil) .nil)
 (.cons (.ret (.blt .all (.cons (.comp [N2,N2] ["part","length"] (.last (.zip (.var 0) (.var 1)) (.tup (.cons (.name 0) (.cons (.name 1) .nil))) .nil (.call fp (.cons (.var 0) (.cons (.var 1) .nil))))) .nil)))
 .nil))⟩
abbrev qF(s:Stmt)(fl fq:Nat):FD:=⟨"is_scheme",s,["thing","lengths","products"],1,
 (.cons (.ite (.or (.cons (.not (.tru (.isin (.var 0) "tuple"))) (.cons (.cmp .ne (.blt .len (.cons (.var 0) .nil)) (.int 4)) .nil))) (.cons (.ret (.bl Wj))
 .nil) .nil)
 (.cons (.asg (.tup (.cons (.name 1) (.cons (.name 2) .nil))) (.tup (.cons (.sl (.var 0) .none (.some (.int 3))) (.cons (.ix (.var 0) (.int 3)) .nil))))
 (.cons (.ite (.not (.tru (.blt .all (.cons (.comp [N2] ["x"] (.last (.seq (.var 1)) (.name 0) .nil (.call fl (.cons (.var 0) .nil)))) .nil)))) (.cons (.ret (.bl Wj))
 .nil) .nil)
 (.cons (.ite (.or (.cons (.not (.tru (.isin (.var 2) "list"))) (.cons (.cmp .gt (.blt .len (.cons (.var 2) .nil)) (.glob "MOST_PRODUCTS" (.int 400))) .nil))) (.cons (.ret (.bl Wj))
 .nil) .nil)
 (.cons (.ret (.blt .all (.cons (.comp [N2,(Z 1)] ["x","lengths"] (.last (.seq (.var 2)) (.name 0) .nil (.call fq (.cons (.var 0) (.cons (.var 1) .nil))))) .nil)))
 .nil)))))⟩
def xm(hf:T[f]?=Z (gI s)){n:Nat}(j:1<=n)(q:Q (.bl Wi) M):phi T n f [.int i] M Q:=by
 calc al j hf rfl (ρ:=[Z _]) rfl ?_;unfold gI;nofun;calc⟨_,rfl,?_⟩;rw[if_pos (·)]
 show⟨_,rfl,q⟩
def sy:∀n:Nat,ax lj (I7 n (D.bl Wi))=Z (I7 n Wi)
 |0=>rfl
 |n+1=>by rw[N7];unfold ax;rw[sy n];rfl
def i9{p:Wk}{n:Nat}(e:M p=Z (.lst (I7 n (.bl Wi))))(q:Q (.bl Wi) M):pB [.ref p] M Q:=by
 calc⟨_,_,_,rfl,ab e,sy n,?_⟩;rw[show(I7 n Wi).all id=Wi by simp]
 show q
def lQ(hf:T[f]?=Z (ot s fn))(j:T[fn]?=Z (gI sn)){n:Nat}(z:2<=n)(h1:1<=i)(h2:i<=81)(q:Q (.bl Wi) M):phi T n f [.int i] M Q:=by
 refine al ∅ hf rfl (ρ:=[Z _]) rfl ?_
 unfold ot;nofun;refine xm j ∅ ?_
 calc⟨_,rfl,?_⟩;rw[if_pos (·)]
 ac_nf;rw[if_pos h1,show decide (i<=81)=Wi by simpa using h2]
 show q
def jz(hf:T[f]?=Z (fO s fn))(j:T[fn]?=Z (gI sn)){n:Nat}(G:2<=n){L:Int}(z:(l.length:Int)=L)(J:l.length<=1000)(q:∀M',Ge M M'->Q (.bl Wi) M'):phi T n f [.tup (l.map .int),.int L] M Q:=by
 refine al ∅ hf rfl (ρ:=[Z _,Z _]) rfl ?_
 unfold fO;nofun;calc⟨_,rfl,?_⟩;rw[if_pos (·)]
 ac_nf;rw[h7,if_pos (by simpa using z)]
 refine ak (I:=λl ρ M' acc=>(∃o,ρ=[o])/\M'=M/\acc=I7 l.length (.bl Wi)) (ys:=l) (f:=D.int) rfl ⟨⟨_,rfl⟩,rfl,rfl⟩ (λ_ _ _ _ O=>by first|trivial|simp) ?_ ?_
 ·rintro l' y r ρ M1 acc e ⟨⟨o,rfl⟩,rfl,rfl⟩;calc⟨_,rfl,λN B=>?_⟩;let F:=ah e;ac_nf;refine xm j ∅ ⟨by rw[N5,D0];lia,B _ _ _ ⟨⟨_,rfl⟩,rfl,by simp[QY]⟩⟩
 ·rintro ρ M1 acc ⟨⟨o,rfl⟩,rfl,rfl⟩ p hp;show i9 aa (q _ (Ge.new hp))
def zJ{sp:Stmt}(hf:T[f]?=Z (iV s fp))(j:T[fp]?=Z (fO sp fn))(z:T[fn]?=Z (gI sn)){n:Nat}(F:3<=n){p:Pr}(h:p.1.length=L0/\p.2.1.length=L1/\p.2.2.length=N)(h0:L0<=1000)(h1:L1<=1000)(G:N<=1000)(q:∀M',Ge M M'->Q (.bl Wi) M'):phi T n f [prD p,.tup [.int L0,.int L1,.int N]] M Q:=by
 refine al ∅ hf rfl (ρ:=[Z _,Z _]) rfl ?_
 unfold iV prD;nofun;calc⟨_,rfl,_,rfl,?_⟩;rw[if_neg (·)]
 ac_nf;rw[if_neg (·)]
 nofun;calc⟨trivial,_,rfl,?_⟩;ac_nf;refine jz j z ∅ (by rw[h.1]) ∅ λJ g1=>⟨by rw[D0];simp,trivial,_,rfl,?_⟩
 ac_nf;refine jz j z ∅ (by rw[h.2.1]) ∅ λM2 g2=>⟨by rw[D0];simp,trivial,_,rfl,?_⟩
 ac_nf;refine jz j z ∅ (by rw[h.2.2]) ∅ λL g3=>⟨by rw[D0];simp,trivial,λp B=>?_⟩
 show i9 (n:=3) aa (q _ (((g1.trans g2).trans g3).trans (Ge.new B)))
def iW{a b c d:D}(q:Q (.tup [a,b,c]) M):cJ (.tup [a,b,c,d]) N2 (Z 3) M Q:=q
def C3{fl fq:Nat}{sl sq sp:Stmt}(hf:T[f]?=Z (qF s fl fq))(z:T[fl]?=Z (ot sl fn))(F:T[fq]?=Z (iV sq fp))(G:T[fp]?=Z (fO sp fn))(j:T[fn]?=Z (gI sn)){n:Nat}(fv:4<=n){ps:List Pr}{pr:Wk}(h0:1<=L0/\L0<=81)(h1:1<=L1/\L1<=81)(hN:1<=N/\N<=81)(hc:ps.length<=400)(h:∀p∈ps,p.1.length=L0/\p.2.1.length=L1/\p.2.2.length=N)(e:M pr=Z (.lst (ps.map prD)))(q:∀M',Ge M M'->Q (.bl Wi) M'):phi T n f [.tup [.int L0,.int L1,.int N,.ref pr]] M Q:=by
 refine al ∅ hf rfl (ρ:=[Z _,N2,N2]) rfl ?_
 unfold qF;nofun;calc⟨_,rfl,_,rfl,?_⟩;rw[if_neg (·)]
 ac_nf;rw[if_neg (·)]
 nofun;refine iW ⟨_,rfl,by rw[D0];lia,?_⟩
 nofun;calc⟨trivial,_,rfl,?_⟩;ac_nf;refine lQ z j ∅ ∅ ∅ ⟨by rw[D0];simp,trivial,_,rfl,?_⟩
 ac_nf;refine lQ z j ∅ ∅ ∅ ⟨by rw[D0];simp,trivial,_,rfl,?_⟩
 ac_nf;refine lQ z j ∅ ∅ ∅ ⟨by rw[D0];simp,trivial,λO J=>?_⟩
 let g1:=Ge.new (o:=.lst ([]++[D.bl Wi]++[D.bl Wi]++[D.bl Wi])) J;calc i9 (n:=3) aa ⟨_,rfl,?_⟩;let B:=g1 _ _ e;generalize ag M O (.lst ([]++[D.bl Wi]++[D.bl Wi]++[D.bl Wi]))=M1 at g1 B⊢;rw[if_neg (·)]
 nofun;refine⟨"list",by simp[tyN,B],_,rfl,?_⟩
 rw[if_neg (·)]
 calc⟨_,_,rfl,bv (ab B),?_⟩;ac_nf;rw[h7,if_neg ∅]
 nofun;calc⟨_,ab B,?_⟩;refine ak (I:=λl ρ M' acc=>(∃o,ρ=[o,Z (.tup [.int L0,.int L1,.int N])])/\Ge M1 M'/\acc=I7 l.length (.bl Wi)) (ys:=ps) (f:=prD) rfl ⟨⟨_,rfl⟩,Ge.refl,rfl⟩ (λ_ _ _ _ U=>ab (U.2.1 _ _ B)) ?_ ?_
 ·rintro l' y r ρ M2 acc e' ⟨⟨o,rfl⟩,g2,rfl⟩;calc⟨_,rfl,λN' L=>?_⟩;let Y:=ah e';ac_nf;refine zJ F G j ∅ (h y (by rw[e'];simp)) ∅ ∅ ∅ λM3 g3=>⟨by rw[N5,D0];lia,L _ _ _ ⟨⟨_,rfl⟩,g2.trans g3,by simp[QY]⟩⟩
 ·rintro ρ M2 acc ⟨⟨o,rfl⟩,g2,rfl⟩ p hp;show i9 aa (q _ ((g1.trans g2).trans (Ge.new hp)))
end
section
namespace K42
abbrev aj(i:Nat):Stmt:=PySem.Challenge.pw_fewtimes_k42_least_counts.main.body.getD i (.Pass ⟨0,0,0,0⟩)
abbrev d0:FD:=gI (aj 3)
abbrev d1:FD:=ot (aj 4) 0
abbrev d2:FD:=fO (aj 5) 0
abbrev d3:FD:=iV (aj 6) 2
abbrev d4:FD:=qF (aj 7) 1 3
abbrev b5:MSs:=
 (.cons (.asg (.name 2) (.bin .mul (.lst (.cons (.int 0) .nil)) (.var 0)))
 (.cons (.put (.var 2) (.var 1) (.int 1))
 (.cons (.ret (.var 2))
 .nil)))
abbrev d5:FD:=⟨"single_one",aj 8,["length","at","row"],2,b5⟩
abbrev b6:MSs:=
 (.cons (.asg (.name 2) (.lst (.cons (.tup .nil) .nil)))
 (.cons (.for (.name 3) (.rng1 (.var 0)) (.cons (.asg (.name 2) (.comp [N2,N2,(Z 1)] ["row","x","p"] (.more (.seq (.var 2)) (.name 0) .nil (.last (.rng1 (.var 2)) (.name 1) .nil (.bin .add (.var 0) (.tup (.cons (.var 1) .nil)))))))
 .nil))
 (.cons (.ret (.var 2))
 .nil)))
abbrev d6:FD:=⟨"rows_over",aj 10,["length","p","rows","turn"],2,b6⟩
abbrev b7:MSs:=
 (.cons (.asg (.name 1) (.comp [N2] ["x"] (.last (.seq (.var 0)) (.name 0) (.cons (.cmp .ne (.var 0) (.int 0)) .nil) (.var 0))))
 (.cons (.ret (.and (.cons (.cmp .gt (.blt .len (.cons (.var 1) .nil)) (.int 0)) (.cons (.cmp .eq (.ix (.var 1) (.int 0)) (.int 1)) .nil))))
 .nil))
abbrev d7:FD:=⟨"begins_with_one",aj 11,["row","some"],1,b7⟩
abbrev b8:MSs:=
 (.cons (.asg (.name 3) (.comp [N2] ["row"] (.last (.seq (.call 6 (.cons (.var 1) (.cons (.var 2) .nil)))) (.name 0) (.cons (.tru (.call 7 (.cons (.var 0) .nil))) .nil) (.var 0))))
 (.cons (.ret (.comp [N2,N2,(Z 3)] ["l","r","rights"] (.more (.seq (.call 6 (.cons (.var 0) (.cons (.var 2) .nil)))) (.name 0) (.cons (.tru (.call 7 (.cons (.var 0) .nil))) .nil) (.last (.seq (.var 2)) (.name 1) .nil (.tup (.cons (.var 0) (.cons (.var 1) .nil)))))))
 .nil))
abbrev d8:FD:=⟨"pairs_over",aj 12,["left","right","p","rights"],3,b8⟩
abbrev b9:MSs:=
 (.cons (.asg (.tup (.cons (.name 2) (.cons (.name 3) .nil))) (.var 0))
 (.cons (.ret (.blt .tuple (.cons (.comp [N2,N2,(Z 1),(Z 3)] ["x","y","p","r"] (.more (.seq (.var 2)) (.name 0) .nil (.last (.seq (.var 3)) (.name 1) .nil (.bin .mod (.bin .mul (.var 0) (.var 1)) (.var 2))))) .nil)))
 .nil))
abbrev d9:FD:=⟨"pair_table",aj 13,["pair","p","l","r"],2,b9⟩
abbrev b10:MSs:=
 (.cons (.asg (.tup (.cons (.name 2) (.cons (.name 3) (.cons (.name 4) (.cons (.name 5) .nil))))) (.var 0))
 (.cons (.asg (.name 6) (.comp [N2,(Z 2),(Z 3)] ["k","left","right"] (.last (.rng1 (.var 4)) (.name 0) .nil (.bin .mul (.lst (.cons (.int 0) .nil)) (.bin .mul (.var 1) (.var 2))))))
 (.cons (.for (.tup (.cons (.name 7) (.cons (.name 8) (.cons (.name 9) (.cons (.name 10) .nil))))) (.seq (.var 5)) (.cons (.put (.ix (.var 6) (.var 7)) (.bin .add (.bin .mul (.var 8) (.var 3)) (.var 9)) (.bin .mod (.var 10) (.var 1)))
 .nil))
 (.cons (.ret (.comp [N2] ["table"] (.last (.seq (.var 6)) (.name 0) .nil (.blt .tuple (.cons (.var 0) .nil)))))
 .nil))))
abbrev d10:FD:=⟨"tables_over",aj 14,["task","p","left","right","many","terms","tables","k","i","j","c"],2,b10⟩
abbrev b11:MSs:=
 (.cons (.for (.tup (.cons (.name 3) (.cons (.name 4) .nil))) (.seq (.var 1)) (.cons (.asg (.name 5) (.ix (.var 0) (.var 3)))
 (.cons (.ite (.cmp .ne (.var 5) (.int 0)) (.cons (.asg (.name 0) (.blt .tuple (.cons (.comp [N2,N2,(Z 5),(Z 2)] ["x","y","c","p"] (.last (.zip (.var 0) (.var 4)) (.tup (.cons (.name 0) (.cons (.name 1) .nil))) .nil (.bin .mod (.bin .sub (.var 0) (.bin .mul (.var 2) (.var 1))) (.var 3)))) .nil)))
 .nil) .nil)
 .nil)))
 (.cons (.ret (.var 0))
 .nil))
abbrev d11:FD:=⟨"without",aj 15,["row","base","p","place","other","c"],3,b11⟩
abbrev b12:MSs:=
 (.cons (.ret (.not (.blt .any (.cons (.call 11 (.cons (.var 0) (.cons (.var 1) (.cons (.var 2) .nil)))) .nil))))
 .nil)
abbrev d12:FD:=⟨"is_sum",aj 16,["row","base","p"],3,b12⟩
abbrev b13:MSs:=
 (.cons (.ret (.ix (.comp [N2,N2] ["at","x"] (.last (.enum (.var 0)) (.tup (.cons (.name 0) (.cons (.name 1) .nil))) (.cons (.cmp .ne (.var 1) (.int 0)) .nil) (.var 0))) (.int 0)))
 .nil)
abbrev d13:FD:=⟨"first_filled",aj 17,["row"],1,b13⟩
abbrev b14:MSs:=
 (.cons (.asg (.name 3) (.blt .list (.cons (.var 0) .nil)))
 (.cons (.for (.name 4) (.seq (.var 1)) (.cons (.asg (.name 5) (.call 11 (.cons (.var 4) (.cons (.var 3) (.cons (.var 2) .nil)))))
 (.cons (.ite (.tru (.blt .any (.cons (.var 5) .nil))) (.cons (.asg (.name 6) (.call 13 (.cons (.var 5) .nil)))
 (.cons (.drop (.meth .append (.var 3) (.tup (.cons (.var 6) (.cons (.blt .tuple (.cons (.comp [N2,(Z 5),(Z 6),(Z 2)] ["x","rest","place","p"] (.last (.seq (.var 5)) (.name 0) .nil (.bin .mod (.bin .mul (.ix (.var 1) (.var 2)) (.var 0)) (.var 3)))) .nil)) .nil)))))
 .nil)) .nil)
 .nil)))
 (.cons (.ret (.var 3))
 .nil)))
abbrev d14:FD:=⟨"grown",aj 18,["base","rows","p","made","row","rest","place"],3,b14⟩
abbrev b15:MSs:=
 (.cons (.asg (.name 2) (.int 1))
 (.cons (.for (.name 3) (.rng1 (.blt .min2 (.cons (.var 1) (.cons (.bin .sub (.var 0) (.var 1)) .nil)))) (.cons (.asg (.name 2) (.bin .fdiv (.bin .mul (.var 2) (.bin .sub (.var 0) (.var 3))) (.bin .add (.var 3) (.int 1))))
 .nil))
 (.cons (.ret (.var 2))
 .nil)))
abbrev d15:FD:=⟨"many_sets",aj 21,["many","e","count","at"],2,b15⟩
abbrev b16:MSs:=
 (.cons (.asg (.name 2) (.lst (.cons (.tup .nil) .nil)))
 (.cons (.for (.name 3) (.rng1 (.var 1)) (.cons (.asg (.name 2) (.comp [N2,N2,(Z 0),(Z 1),(Z 3)] ["chosen","x","many","e","at"] (.more (.seq (.var 2)) (.name 0) .nil (.last (.rng2 (.ite (.tru (.var 0)) (.bin .add (.ix (.var 0) (.neg (.int 1))) (.int 1)) (.int 0)) (.bin .add (.bin .add (.bin .sub (.var 2) (.var 3)) (.var 4)) (.int 1))) (.name 1) .nil (.bin .add (.var 0) (.tup (.cons (.var 1) .nil)))))))
 .nil))
 (.cons (.ret (.var 2))
 .nil)))
abbrev d16:FD:=⟨"sets_of",aj 22,["many","e","sets","at"],2,b16⟩
abbrev b17:MSs:=
 (.cons (.par 3 4 (.lst .nil) (.lst .nil))
 (.cons (.for (.tup (.cons (.name 5) (.cons (.name 6) .nil))) (.enum (.var 1)) (.cons (.ite (.and (.cons (.tru (.call 12 (.cons (.var 6) (.cons (.var 0) (.cons (.var 2) .nil))))) (.cons (.not (.tru (.call 12 (.cons (.var 6) (.cons (.var 4) (.cons (.var 2) .nil)))))) .nil))) (.cons (.drop (.meth .append (.var 3) (.var 5)))
 (.cons (.asg (.name 4) (.call 14 (.cons (.var 4) (.cons (.lst (.cons (.var 6) .nil)) (.cons (.var 2) .nil)))))
 .nil)) .nil)
 .nil))
 (.cons (.ret (.tup (.cons (.var 3) (.cons (.var 4) .nil))))
 .nil)))
abbrev d17:FD:=⟨"pairs_within",aj 23,["space","tables","p","chosen","base","at","table"],3,b17⟩
abbrev b18:MSs:=
 (.cons (.asg (.tup (.cons (.name 3) (.cons (.name 4) .nil))) (.tup (.cons (.blt .len (.cons (.var 1) .nil)) (.cons (.blt .len (.cons (.ix (.var 0) (.int 0)) .nil)) .nil))))
 (.cons (.asg (.name 5) (.comp [N2,N2,(Z 3)] ["at","table","many"] (.last (.enum (.var 1)) (.tup (.cons (.name 0) (.cons (.name 1) .nil))) .nil (.bin .add (.var 1) (.blt .tuple (.cons (.call 5 (.cons (.var 2) (.cons (.var 0) .nil))) .nil))))))
 (.cons (.asg (.name 6) (.call 14 (.cons (.lst .nil) (.cons (.var 5) (.cons (.var 2) .nil)))))
 (.cons (.ret (.comp [N2,(Z 3),(Z 6),(Z 2),(Z 4)] ["table","many","base","p","length"] (.last (.seq (.var 0)) (.name 0) .nil (.comp [N2,(Z 3)] ["x","p"] (.last (.seq (.sl (.call 11 (.cons (.bin .add (.var 0) (.bin .mul (.tup (.cons (.int 0) .nil)) (.var 1))) (.cons (.var 2) (.cons (.var 3) .nil)))) (.some (.var 4)) .none)) (.name 0) .nil (.bin .mod (.neg (.var 0)) (.var 1)))))))
 .nil))))
abbrev d18:FD:=⟨"shares",aj 24,["tables","chosen","p","many","length","marked","base"],3,b18⟩
abbrev b19:MSs:=
 (.cons (.asg (.tup (.cons (.name 3) (.cons (.name 4) (.cons (.name 5) (.cons (.name 6) .nil))))) (.var 0))
 (.cons (.asg (.name 7) (.call 18 (.cons (.call 10 (.cons (.var 0) (.cons (.var 2) .nil))) (.cons (.comp [N2,(Z 2)] ["pair","p"] (.last (.seq (.var 1)) (.name 0) .nil (.call 9 (.cons (.var 0) (.cons (.var 1) .nil))))) (.cons (.var 2) .nil)))))
 (.cons (.ret (.tup (.cons (.var 3) (.cons (.var 4) (.cons (.var 5) (.cons (.comp [N2,N2,N2,(Z 7)] ["at","l","r","outs"] (.last (.enum (.var 1)) (.tup (.cons (.name 0) (.cons (.tup (.cons (.name 1) (.cons (.name 2) .nil))) .nil))) .nil (.tup (.cons (.var 1) (.cons (.var 2) (.cons (.blt .tuple (.cons (.comp [N2,(Z 0)] ["row","at"] (.last (.seq (.var 3)) (.name 0) .nil (.ix (.var 0) (.var 1)))) .nil)) .nil)))))) .nil))))))
 .nil)))
abbrev d19:FD:=⟨"scheme_by",aj 25,["task","pairs","p","left","right","many","terms","outs"],3,b19⟩
abbrev b20:MSs:=
 (.cons (.asg (.name 2) (.call 8 (.cons (.ix (.var 0) (.int 0)) (.cons (.ix (.var 0) (.int 1)) (.cons (.var 1) .nil)))))
 (.cons (.ret (.tup (.cons (.var 2) (.cons (.comp [N2,(Z 1)] ["pair","p"] (.last (.seq (.var 2)) (.name 0) .nil (.call 9 (.cons (.var 0) (.cons (.var 1) .nil))))) (.cons (.call 14 (.cons (.lst .nil) (.cons (.call 10 (.cons (.var 0) (.cons (.var 1) .nil))) (.cons (.var 1) .nil)))) .nil)))))
 .nil))
abbrev d20:FD:=⟨"looked_at",aj 26,["task","p","pairs"],2,b20⟩
abbrev b21:MSs:=
 (.cons (.asg (.tup (.cons (.name 2) (.cons (.name 3) (.cons (.name 4) .nil)))) (.call 20 (.cons (.var 0) (.cons (.var 1) .nil))))
 (.cons (.asg (.name 5) (.int 0))
 (.cons (.while (.cmp .le (.call 15 (.cons (.blt .len (.cons (.var 2) .nil)) (.cons (.var 5) .nil))) (.glob "MOST_SETS" (.int 3000))) (.cons (.for (.name 6) (.seq (.call 16 (.cons (.blt .len (.cons (.var 2) .nil)) (.cons (.var 5) .nil)))) (.cons (.asg (.name 7) (.call 14 (.cons (.var 4) (.cons (.comp [N2,(Z 3)] ["at","tables"] (.last (.seq (.var 6)) (.name 0) .nil (.ix (.var 1) (.var 0)))) (.cons (.var 1) .nil)))))
 (.cons (.asg (.tup (.cons (.name 8) (.cons (.name 9) .nil))) (.call 17 (.cons (.var 7) (.cons (.var 3) (.cons (.var 1) .nil)))))
 (.cons (.ite (.cmp .eq (.blt .len (.cons (.var 9) .nil)) (.blt .len (.cons (.var 7) .nil))) (.cons (.ret (.tup (.cons (.str (Mf "least")) (.cons (.bin .add (.blt .len (.cons (.var 4) .nil)) (.var 5)) (.cons (.call 19 (.cons (.var 0) (.cons (.comp [N2,(Z 2)] ["at","pairs"] (.last (.seq (.var 8)) (.name 0) .nil (.ix (.var 1) (.var 0)))) (.cons (.var 1) .nil)))) .nil)))))
 .nil) .nil)
 .nil))))
 (.cons (.aug 5 .add (.int 1))
 .nil)))
 (.cons (.ret (.tup (.cons (.str (Mf "open")) (.cons (.bin .add (.blt .len (.cons (.var 4) .nil)) (.var 5)) .nil))))
 .nil))))
abbrev d21:FD:=⟨"least_over",aj 27,["task","p","pairs","tables","own","e","chosen","space","numbers","base"],2,b21⟩
abbrev d22:FD:=kE (aj 29)
abbrev d23:FD:=lu (aj 30)
abbrev d24:FD:=uE (aj 31) 22 23
abbrev d25:FD:=qe (aj 32) 23
abbrev d26:FD:=qg (aj 33) 30
abbrev d27:FD:=ju (aj 34) 25 26
abbrev d28:FD:=lL (aj 35)
abbrev d29:FD:=lM (aj 36)
abbrev b30:MSs:=
 (.cons (.ret (.ix (.lst (.cons (.int 0) (.cons (.int 0) (.cons (.int 1) (.cons (.int 1) (.cons (.int 1) (.cons (.neg (.int 1)) (.cons (.neg (.int 1)) (.cons (.int 2) (.cons (.int 0) .nil)))))))))) (.call 25 (.cons (.var 0) (.cons (.int 9) .nil)))))
 .nil)
abbrev d30:FD:=⟨"_law_number",aj 37,["_law_box_here"],1,b30⟩
abbrev b31:MSs:=
 (.cons (.asg (.name 2) (.lst (.cons (.tup .nil) .nil)))
 (.cons (.for (.name 3) (.rng1 (.var 0)) (.cons (.asg (.name 4) (.lst .nil))
 (.cons (.for (.name 5) (.seq (.var 2)) (.cons (.drop (.meth .extend (.var 4) (.comp [N2,(Z 5)] ["_law_number_here","_law_row"] (.last (.rng1 (.var 1)) (.name 0) .nil (.bin .add (.var 1) (.tup (.cons (.var 0) .nil)))))))
 .nil))
 (.cons (.asg (.name 2) (.var 4))
 .nil))))
 (.cons (.ret (.comp [N2] ["_law_row"] (.last (.seq (.var 2)) (.name 0) (.cons (.cmp .eq (.sl (.comp [N2] ["_law_number_here"] (.last (.seq (.var 0)) (.name 0) (.cons (.cmp .ne (.var 0) (.int 0)) .nil) (.var 0))) .none (.some (.int 1))) (.lst (.cons (.int 1) .nil))) .nil) (.var 0))))
 .nil)))
abbrev d31:FD:=⟨"_law_rows_over",aj 38,["_law_length","_law_p","_law_found","_law_k","_law_longer","_law_row"],2,b31⟩
abbrev b32:MSs:=
 (.cons (.asg (.name 3) (.lst .nil))
 (.cons (.for (.name 4) (.seq (.call 31 (.cons (.var 0) (.cons (.var 2) .nil)))) (.cons (.drop (.meth .extend (.var 3) (.comp [N2,(Z 4)] ["_law_r","_law_l"] (.last (.seq (.call 31 (.cons (.var 1) (.cons (.var 2) .nil)))) (.name 0) .nil (.tup (.cons (.var 1) (.cons (.var 0) .nil)))))))
 .nil))
 (.cons (.ret (.var 3))
 .nil)))
abbrev d32:FD:=⟨"_law_pairs",aj 39,["_law_left","_law_right","_law_p","_law_found","_law_l"],3,b32⟩
abbrev b33:MSs:=
 (.cons (.asg (.name 2) (.lst .nil))
 (.cons (.for (.name 3) (.seq (.ix (.var 0) (.int 0))) (.cons (.drop (.meth .extend (.var 2) (.comp [N2,(Z 3),(Z 1)] ["_law_b","_law_a","_law_p"] (.last (.seq (.ix (.var 0) (.int 1))) (.name 0) .nil (.bin .mod (.bin .mul (.var 1) (.var 0)) (.var 2))))))
 .nil))
 (.cons (.ret (.blt .tuple (.cons (.var 2) .nil)))
 .nil)))
abbrev d33:FD:=⟨"_law_table",aj 40,["_law_pair","_law_p","_law_found","_law_a"],2,b33⟩
abbrev b34:MSs:=
 (.cons (.asg (.name 2) (.comp [N2,(Z 0)] ["_law_k","_law_task_here"] (.last (.rng1 (.ix (.var 0) (.int 2))) (.name 0) .nil (.bin .mul (.lst (.cons (.int 0) .nil)) (.bin .mul (.ix (.var 1) (.int 0)) (.ix (.var 1) (.int 1)))))))
 (.cons (.for (.tup (.cons (.name 3) (.cons (.name 4) (.cons (.name 5) (.cons (.name 6) .nil))))) (.seq (.ix (.var 0) (.int 3))) (.cons (.put (.ix (.var 2) (.var 3)) (.bin .add (.bin .mul (.var 4) (.ix (.var 0) (.int 1))) (.var 5)) (.bin .mod (.var 6) (.var 1)))
 .nil))
 (.cons (.ret (.comp [N2] ["_law_table_here"] (.last (.seq (.var 2)) (.name 0) .nil (.blt .tuple (.cons (.var 0) .nil)))))
 .nil)))
abbrev d34:FD:=⟨"_law_tables",aj 41,["_law_task_here","_law_p","_law_found","_law_k","_law_i","_law_j","_law_c"],2,b34⟩
abbrev b35:MSs:=
 (.cons (.asg (.name 3) (.dnew Wi))
 (.cons (.frz 0 (.for (.name 4) (.keys (.var 0)) (.cons (.for (.name 5) (.rng1 (.var 2)) (.cons (.put (.var 3) (.blt .tuple (.cons (.comp [N2,N2,(Z 5),(Z 2)] ["_law_a","_law_b","_law_times","_law_p"] (.last (.zip (.var 4) (.var 1)) (.tup (.cons (.name 0) (.cons (.name 1) .nil))) .nil (.bin .mod (.bin .add (.var 0) (.bin .mul (.var 2) (.var 1))) (.var 3)))) .nil)) (.bl Wi))
 .nil))
 .nil)))
 (.cons (.ret (.var 3))
 .nil)))
abbrev d35:FD:=⟨"_law_with",aj 42,["_law_known","_law_table_here","_law_p","_law_found","_law_own","_law_times"],3,b35⟩
abbrev b36:MSs:=
 (.cons (.asg (.name 3) (.d1 (.bin .mul (.tup (.cons (.int 0) .nil)) (.var 1)) (.bl Wi)))
 (.cons (.for (.name 4) (.seq (.var 0)) (.cons (.ite (.cmp .ninD (.var 4) (.var 3)) (.cons (.asg (.name 3) (.call 35 (.cons (.var 3) (.cons (.var 4) (.cons (.var 2) .nil)))))
 .nil) .nil)
 .nil))
 (.cons (.ret (.var 3))
 .nil)))
abbrev d36:FD:=⟨"_law_span",aj 43,["_law_tables_here","_law_size","_law_p","_law_known","_law_table_here"],3,b36⟩
abbrev b37:MSs:=
 (.cons (.par 2 3 (.blt .lenT (.cons (.var 0) .nil)) (.int 0))
 (.cons (.while (.cmp .gt (.var 2) (.int 1)) (.cons (.par 2 3 (.bin .fdiv (.var 2) (.var 1)) (.bin .add (.var 3) (.int 1)))
 .nil))
 (.cons (.ret (.var 3))
 .nil)))
abbrev d37:FD:=⟨"_law_height",aj 44,["_law_known","_law_p","_law_many","_law_height_here"],2,b37⟩
abbrev b38:MSs:=
 (.cons (.asg (.name 4) (.bin .add (.int 1) (.call 25 (.cons (.var 0) (.cons (.var 3) .nil)))))
 (.cons (.ite (.cmp .eq (.call 25 (.cons (.var 0) (.cons (.int 2) .nil))) (.int 0)) (.cons (.asg (.name 5) (.lst .nil))
 (.cons (.for (.name 6) (.rng1 (.var 4)) (.cons (.for (.name 7) (.rng1 (.var 1)) (.cons (.drop (.meth .extend (.var 5) (.comp [N2,(Z 6),(Z 7),(Z 0)] ["_law_j","_law_k","_law_i","_law_box_here"] (.last (.rng1 (.var 2)) (.name 0) .nil (.tup (.cons (.var 1) (.cons (.var 2) (.cons (.var 0) (.cons (.bin .sub (.call 25 (.cons (.var 3) (.cons (.int 7) .nil))) (.int 3)) .nil)))))))))
 .nil))
 .nil))
 (.cons (.ret (.tup (.cons (.var 1) (.cons (.var 2) (.cons (.var 4) (.cons (.comp [N2] ["_law_term"] (.last (.seq (.var 5)) (.name 0) (.cons (.cmp .ne (.ix (.var 0) (.int 3)) (.int 0)) .nil) (.var 0))) .nil))))))
 .nil))) .nil)
 (.cons (.asg (.name 8) (.call 27 (.cons (.var 0) (.cons (.lst (.cons (.var 1) (.cons (.var 2) (.cons (.var 4) .nil)))) (.cons (.call 25 (.cons (.var 0) (.cons (.int 5) .nil))) .nil)))))
 (.cons (.ret (.tup (.cons (.var 1) (.cons (.var 2) (.cons (.var 4) (.cons (.call 29 (.cons (.call 28 (.cons (.var 8) .nil)) .nil)) .nil))))))
 .nil))))
abbrev d38:FD:=⟨"_law_task",aj 45,["_law_box_here","_law_left","_law_right","_law_most","_law_many","_law_terms_here","_law_k","_law_i","_law_scheme_here"],4,b38⟩
abbrev b39:MSs:=
 (.cons (.asg (.name 6) (.comp [N2,(Z 0)] ["_law_table_here","_law_known"] (.last (.seq (.var 1)) (.name 0) (.cons (.cmp .ninD (.var 0) (.var 1)) .nil) (.var 0))))
 (.cons (.ite (.cmp .eq (.var 6) (.lst .nil)) (.cons (.ret (.bl Wi))
 .nil) .nil)
 (.cons (.asg (.name 7) (.var 0))
 (.cons (.for (.name 8) (.seq (.var 6)) (.cons (.ite (.cmp .ninD (.var 8) (.var 7)) (.cons (.asg (.name 7) (.call 35 (.cons (.var 7) (.cons (.var 8) (.cons (.var 5) .nil)))))
 .nil) .nil)
 .nil))
 (.cons (.ite (.cmp .gt (.call 37 (.cons (.var 7) (.cons (.var 5) .nil))) (.bin .add (.call 37 (.cons (.var 0) (.cons (.var 5) .nil))) (.var 4))) (.cons (.ret (.bl Wj))
 .nil) .nil)
 (.cons (.for (.name 9) (.rng2 (.var 3) (.blt .len (.cons (.var 2) .nil))) (.cons (.ite (.cmp .ninD (.ix (.var 2) (.var 9)) (.var 0)) (.cons (.ite (.tru (.call 39 (.cons (.call 35 (.cons (.var 0) (.cons (.ix (.var 2) (.var 9)) (.cons (.var 5) .nil)))) (.cons (.var 1) (.cons (.var 2) (.cons (.bin .add (.var 9) (.int 1)) (.cons (.bin .sub (.var 4) (.int 1)) (.cons (.var 5) .nil)))))))) (.cons (.ret (.bl Wi))
 .nil) .nil)
 .nil) .nil)
 .nil))
 (.cons (.ret (.bl Wj))
 .nil)))))))
abbrev d39:FD:=⟨"_law_can",aj 46,["_law_known","_law_due","_law_tables_here","_law_first","_law_left","_law_p","_law_missing","_law_further","_law_table_here","_law_number_here"],6,b39⟩
abbrev b40:MSs:=
 (.cons (.asg (.name 2) (.bin .mul (.ix (.var 0) (.int 0)) (.ix (.var 0) (.int 1))))
 (.cons (.asg (.name 3) (.call 34 (.cons (.var 0) (.cons (.var 1) .nil))))
 (.cons (.ite (.or (.cons (.cmp .eq (.ix (.var 0) (.int 0)) (.int 1)) (.cons (.cmp .eq (.ix (.var 0) (.int 1)) (.int 1)) .nil))) (.cons (.ret (.call 37 (.cons (.call 36 (.cons (.var 3) (.cons (.var 2) (.cons (.var 1) .nil)))) (.cons (.var 1) .nil))))
 .nil) .nil)
 (.cons (.asg (.name 4) (.comp [N2,(Z 1)] ["_law_pair","_law_p"] (.last (.seq (.call 32 (.cons (.ix (.var 0) (.int 0)) (.cons (.ix (.var 0) (.int 1)) (.cons (.var 1) .nil))))) (.name 0) .nil (.call 33 (.cons (.var 0) (.cons (.var 1) .nil))))))
 (.cons (.for (.name 5) (.rng1 (.var 2)) (.cons (.ite (.tru (.call 39 (.cons (.d1 (.bin .mul (.tup (.cons (.int 0) .nil)) (.var 2)) (.bl Wi)) (.cons (.var 3) (.cons (.var 4) (.cons (.int 0) (.cons (.var 5) (.cons (.var 1) .nil)))))))) (.cons (.ret (.var 5))
 .nil) .nil)
 .nil))
 (.cons (.ret (.var 2))
 .nil))))))
abbrev d40:FD:=⟨"_law_least",aj 47,["_law_task_here","_law_p","_law_size","_law_due","_law_tables_here","_law_count"],2,b40⟩
abbrev b41:MSs:=
 (.cons (.ite (.or (.cons (.cmp .isn (.call 4 (.cons (.var 0) .nil)) (.bl Wi)) (.cons (.cmp .ne (.sl (.var 0) .none (.some (.int 3))) (.sl (.var 1) .none (.some (.int 3)))) (.cons (.cmp .ne (.blt .len (.cons (.ix (.var 0) (.int 3)) .nil)) (.var 2)) .nil)))) (.cons (.ret (.bl Wj))
 .nil) .nil)
 (.cons (.for (.name 4) (.seq (.ix (.var 0) (.int 3))) (.cons (.for (.name 5) (.seq (.var 4)) (.cons (.ite (.not (.tru (.blt .all (.cons (.comp [N2,(Z 3)] ["_law_number_here","_law_p"] (.last (.seq (.var 5)) (.name 0) .nil (.chain .le .lt (.int 0) (.var 0) (.var 1)))) .nil)))) (.cons (.ret (.bl Wj))
 .nil) .nil)
 .nil))
 .nil))
 (.cons (.asg (.name 6) (.call 28 (.cons (.var 0) .nil)))
 (.cons (.frz 6 (.asg (.name 7) (.blt .dict (.cons (.comp [N2,(Z 6),(Z 3)] ["_law_place","_law_sums_here","_law_p"] (.last (.keys (.var 6)) (.name 0) (.cons (.cmp .ne (.bin .mod (.ix (.var 1) (.var 0)) (.var 2)) (.int 0)) .nil) (.tup (.cons (.var 0) (.cons (.bin .mod (.ix (.var 1) (.var 0)) (.var 2)) .nil))))) .nil))))
 (.cons (.ret (.cmp .eqD (.var 7) (.blt .dict (.cons (.comp [N2,(Z 3)] ["_law_term","_law_p"] (.last (.seq (.ix (.var 1) (.int 3))) (.name 0) (.cons (.cmp .ne (.bin .mod (.ix (.var 0) (.int 3)) (.var 1)) (.int 0)) .nil) (.tup (.cons (.sl (.var 0) .none (.some (.int 3))) (.cons (.bin .mod (.ix (.var 0) (.int 3)) (.var 1)) .nil))))) .nil))))
 .nil)))))
abbrev d41:FD:=⟨"_law_scheme_right",aj 48,["_law_scheme_here","_law_task_here","_law_count","_law_p","_law_product","_law_part_here","_law_sums_here","_law_found"],4,b41⟩
abbrev b42:MSs:=
 (.cons (.for (.name 1) (.rng1 (.blt .max2 (.cons (.int 1) (.cons (.blt .min2 (.cons (.blt .len (.cons (.var 0) .nil)) (.cons (.int 4) .nil))) .nil)))) (.cons (.asg (.name 2) (.call 24 (.cons (.var 0) (.cons (.var 1) .nil))))
 (.cons (.asg (.name 3) (.bin .add (.int 2) (.call 25 (.cons (.var 2) (.cons (.int 2) .nil)))))
 (.cons (.asg (.name 4) (.ix (.lst (.cons (.lst (.cons (.tup (.cons (.int 2) (.cons (.int 2) .nil))) (.cons (.tup (.cons (.int 2) (.cons (.int 3) .nil))) (.cons (.tup (.cons (.int 3) (.cons (.int 2) .nil))) (.cons (.tup (.cons (.int 1) (.cons (.int 5) .nil))) (.cons (.tup (.cons (.int 6) (.cons (.int 1) .nil))) .nil)))))) (.cons (.lst (.cons (.tup (.cons (.int 2) (.cons (.int 2) .nil))) (.cons (.tup (.cons (.int 2) (.cons (.int 2) .nil))) (.cons (.tup (.cons (.int 1) (.cons (.int 3) .nil))) (.cons (.tup (.cons (.int 4) (.cons (.int 1) .nil))) (.cons (.tup (.cons (.int 2) (.cons (.int 2) .nil))) .nil)))))) .nil))) (.bin .sub (.var 3) (.int 2))))
 (.cons (.asg (.tup (.cons (.name 5) (.cons (.name 6) .nil))) (.ix (.var 4) (.call 25 (.cons (.var 2) (.cons (.int 5) .nil)))))
 (.cons (.asg (.name 7) (.call 38 (.cons (.var 2) (.cons (.var 5) (.cons (.var 6) (.cons (.ix (.lst (.cons (.int 4) (.cons (.int 2) .nil))) (.blt .int (.cons (.and (.cons (.cmp .eq (.bin .add (.var 5) (.var 6)) (.int 5)) (.cons (.cmp .eq (.bin .mul (.var 5) (.var 6)) (.int 6)) .nil))) .nil))) .nil))))))
 (.cons (.asg (.name 8) (.call 40 (.cons (.var 7) (.cons (.var 3) .nil))))
 (.cons (.asg (.name 9) (.call 21 (.cons (.var 7) (.cons (.var 3) .nil))))
 (.cons (.ite (.or (.cons (.not (.tru (.isin (.var 9) "tuple"))) (.cons (.cmp .ne (.sl (.var 9) .none (.some (.int 2))) (.tup (.cons (.str (Mf "least")) (.cons (.var 8) .nil)))) (.cons (.tru (.isin (.ix (.var 9) (.int 1)) "bool")) .nil)))) (.cons (.ret (.bl Wj))
 .nil) .nil)
 (.cons (.ite (.or (.cons (.cmp .ne (.blt .len (.cons (.var 9) .nil)) (.int 3)) (.cons (.not (.tru (.call 41 (.cons (.ix (.var 9) (.int 2)) (.cons (.var 7) (.cons (.var 8) (.cons (.var 3) .nil))))))) .nil))) (.cons (.ret (.bl Wj))
 .nil) .nil)
 (.cons (.asg (.name 10) (.bin .add (.sl (.var 9) .none (.some (.int 2))) (.tup (.cons (.bin .add (.sl (.ix (.var 9) (.int 2)) .none (.some (.int 3))) (.tup (.cons (.blt .list (.cons (.ix (.ix (.var 9) (.int 2)) (.int 3)) .nil)) .nil))) .nil))))
 (.cons (.drop (.meth0 .clear (.ix (.ix (.var 9) (.int 2)) (.int 3))))
 (.cons (.ite (.cmp .ne (.call 21 (.cons (.var 7) (.cons (.var 3) .nil))) (.var 10)) (.cons (.ret (.bl Wj))
 .nil) .nil)
 .nil)))))))))))))
 (.cons (.ret (.bl Wi))
 .nil))
abbrev d42:FD:=⟨"law",aj 49,["_law_script","_law_k","_law_box_here","_law_p","_law_some","_law_left","_law_right","_law_task_here","_law_due","_law_found","_law_kept"],1,b42⟩
abbrev tab:List FD:=[d0,d1,d2,d3,d4,d5,d6,d7,d8,d9,d10,d11,d12,d13,d14,d15,d16,d17,d18,d19,d20,d21,d22,d23,d24,d25,d26,d27,d28,d29,d30,d31,d32,d33,d34,d35,d36,d37,d38,d39,d40,d41,d42]
abbrev qG:List (Str×D):=[("LONGEST",(.int 81)),("MOST_PRODUCTS",(.int 400)),("MOST_SETS",(.int 3000))]
def FC(us:List q7)(h:us.length=5):∃a b c d e,us=[a,b,c,d,e]:=by
 cases us with
 |nil=>cases h
 |cons a us=>let⟨b,c,d,e,rfl⟩:=uD us (UM.inj h);show⟨a,b,c,d,e,rfl⟩
def FE(us:List q7)(h:us.length=6):∃z a b c d e,us=[z,a,b,c,d,e]:=by
 cases us with
 |nil=>cases h
 |cons z us=>let⟨a,b,c,d,e,rfl⟩:=FC us (UM.inj h);show⟨z,a,b,c,d,e,rfl⟩
end K42
end
section
namespace K42
def E3:∀d∈tab,uC (tab.map (·.name)) qG d=Wi:=by decide +kernel
noncomputable abbrev PA(K:Frag)(x:Str)(f:Wk):Prop:=OT K MW x=Z (Z (.ref f))
noncomputable abbrev PL(K:Frag)(f:Wk)(x:Str)(s:Stmt)(oc:q7)(od:Option Wk)(kV dc pm:q7)(an:Option Wk)(cd ct:q7)(sl:Array (Option q7)):Prop:=K.lookup f=Z ⟨oc,od,.func (Pj x x (dP s) (ck s) (aE s) .none kV dc pm an cd ct),sl⟩
noncomputable abbrev PC(K:Frag)(c:q7)(x:Str):Prop:=Rt K c x=Wi
noncomputable abbrev PK(K:Frag)(f:Wk):Prop:=PU K (.ref f)=Wi
def all_mk{l:SQ}{w:Mq}{K:Frag}{h:Heap}{mg:Str->Option q7}{fa:Wk}(X:K.In h)(G:h.Ns MW mg)(hfa:mg "law"=Z (.ref fa))(z:∀x∈bltNames,OT K MW x=Z N2)(a0:PA K "is_number" f0)(l0:PL K f0 "is_number" (aj 3) oc0 od0 kV0 dc0 pm0 an0 cd0 ct0 sl0)(c0:PC K cd0 "is_number")(k0:PK K f0)(a1:PA K "is_length" f1)(l1:PL K f1 "is_length" (aj 4) oc1 od1 kV1 dc1 pm1 an1 cd1 ct1 sl1)(c1:PC K cd1 "is_length")(k1:PK K f1)(a2:PA K "is_part" f2)(l2:PL K f2 "is_part" (aj 5) oc2 od2 kV2 dc2 pm2 an2 cd2 ct2 sl2)(c2:PC K cd2 "is_part")(k2:PK K f2)(a3:PA K "is_product" f3)(l3:PL K f3 "is_product" (aj 6) oc3 od3 kV3 dc3 pm3 an3 cd3 ct3 sl3)(c3:PC K cd3 "is_product")(k3:PK K f3)(a4:PA K "is_scheme" f4)(l4:PL K f4 "is_scheme" (aj 7) oc4 od4 kV4 dc4 pm4 an4 cd4 ct4 sl4)(c4:PC K cd4 "is_scheme")(k4:PK K f4)(a5:PA K "single_one" f5)(l5:PL K f5 "single_one" (aj 8) oc5 od5 kV5 dc5 pm5 an5 cd5 ct5 sl5)(c5:PC K cd5 "single_one")(k5:PK K f5)(a6:PA K "rows_over" f6)(l6:PL K f6 "rows_over" (aj 10) oc6 od6 kV6 dc6 pm6 an6 cd6 ct6 sl6)(c6:PC K cd6 "rows_over")(k6:PK K f6)(a7:PA K "begins_with_one" f7)(l7:PL K f7 "begins_with_one" (aj 11) oc7 od7 kV7 dc7 pm7 an7 cd7 ct7 sl7)(c7:PC K cd7 "begins_with_one")(k7:PK K f7)(a8:PA K "pairs_over" f8)(l8:PL K f8 "pairs_over" (aj 12) oc8 od8 kV8 dc8 pm8 an8 cd8 ct8 sl8)(c8:PC K cd8 "pairs_over")(k8:PK K f8)(a9:PA K "pair_table" f9)(l9:PL K f9 "pair_table" (aj 13) oc9 od9 kV9 dc9 pm9 an9 cd9 ct9 sl9)(c9:PC K cd9 "pair_table")(k9:PK K f9)(a10:PA K "tables_over" f10)(l10:PL K f10 "tables_over" (aj 14) oc10 od10 kV10 dc10 pm10 an10 cd10 ct10 sl10)(c10:PC K cd10 "tables_over")(k10:PK K f10)(a11:PA K "without" f11)(l11:PL K f11 "without" (aj 15) oc11 od11 kV11 dc11 pm11 an11 cd11 ct11 sl11)(c11:PC K cd11 "without")(k11:PK K f11)(a12:PA K "is_sum" f12)(l12:PL K f12 "is_sum" (aj 16) oc12 od12 kV12 dc12 pm12 an12 cd12 ct12 sl12)(c12:PC K cd12 "is_sum")(k12:PK K f12)(a13:PA K "first_filled" f13)(l13:PL K f13 "first_filled" (aj 17) oc13 od13 kV13 dc13 pm13 an13 cd13 ct13 sl13)(c13:PC K cd13 "first_filled")(k13:PK K f13)(a14:PA K "grown" f14)(l14:PL K f14 "grown" (aj 18) oc14 od14 kV14 dc14 pm14 an14 cd14 ct14 sl14)(c14:PC K cd14 "grown")(k14:PK K f14)(a15:PA K "many_sets" f15)(l15:PL K f15 "many_sets" (aj 21) oc15 od15 kV15 dc15 pm15 an15 cd15 ct15 sl15)(c15:PC K cd15 "many_sets")(k15:PK K f15)(a16:PA K "sets_of" f16)(l16:PL K f16 "sets_of" (aj 22) oc16 od16 kV16 dc16 pm16 an16 cd16 ct16 sl16)(c16:PC K cd16 "sets_of")(k16:PK K f16)(a17:PA K "pairs_within" f17)(l17:PL K f17 "pairs_within" (aj 23) oc17 od17 kV17 dc17 pm17 an17 cd17 ct17 sl17)(c17:PC K cd17 "pairs_within")(k17:PK K f17)(a18:PA K "shares" f18)(l18:PL K f18 "shares" (aj 24) oc18 od18 kV18 dc18 pm18 an18 cd18 ct18 sl18)(c18:PC K cd18 "shares")(k18:PK K f18)(a19:PA K "scheme_by" f19)(l19:PL K f19 "scheme_by" (aj 25) oc19 od19 kV19 dc19 pm19 an19 cd19 ct19 sl19)(c19:PC K cd19 "scheme_by")(k19:PK K f19)(a20:PA K "looked_at" f20)(l20:PL K f20 "looked_at" (aj 26) oc20 od20 kV20 dc20 pm20 an20 cd20 ct20 sl20)(c20:PC K cd20 "looked_at")(k20:PK K f20)(a21:PA K "least_over" f21)(l21:PL K f21 "least_over" (aj 27) oc21 od21 kV21 dc21 pm21 an21 cd21 ct21 sl21)(c21:PC K cd21 "least_over")(k21:PK K f21)(a22:PA K "_law_cell_at" f22)(l22:PL K f22 "_law_cell_at" (aj 29) oc22 od22 kV22 dc22 pm22 an22 cd22 ct22 sl22)(c22:PC K cd22 "_law_cell_at")(k22:PK K f22)(a23:PA K "_law_mixed" f23)(l23:PL K f23 "_law_mixed" (aj 30) oc23 od23 kV23 dc23 pm23 an23 cd23 ct23 sl23)(c23:PC K cd23 "_law_mixed")(k23:PK K f23)(a24:PA K "_law_box" f24)(l24:PL K f24 "_law_box" (aj 31) oc24 od24 kV24 dc24 pm24 an24 cd24 ct24 sl24)(c24:PC K cd24 "_law_box")(k24:PK K f24)(a25:PA K "_law_take" f25)(l25:PL K f25 "_law_take" (aj 32) oc25 od25 kV25 dc25 pm25 an25 cd25 ct25 sl25)(c25:PC K cd25 "_law_take")(k25:PK K f25)(a26:PA K "_law_part" f26)(l26:PL K f26 "_law_part" (aj 33) oc26 od26 kV26 dc26 pm26 an26 cd26 ct26 sl26)(c26:PC K cd26 "_law_part")(k26:PK K f26)(a27:PA K "_law_scheme" f27)(l27:PL K f27 "_law_scheme" (aj 34) oc27 od27 kV27 dc27 pm27 an27 cd27 ct27 sl27)(c27:PC K cd27 "_law_scheme")(k27:PK K f27)(a28:PA K "_law_sums" f28)(l28:PL K f28 "_law_sums" (aj 35) oc28 od28 kV28 dc28 pm28 an28 cd28 ct28 sl28)(c28:PC K cd28 "_law_sums")(k28:PK K f28)(a29:PA K "_law_terms" f29)(l29:PL K f29 "_law_terms" (aj 36) oc29 od29 kV29 dc29 pm29 an29 cd29 ct29 sl29)(c29:PC K cd29 "_law_terms")(k29:PK K f29)(a30:PA K "_law_number" f30)(l30:PL K f30 "_law_number" (aj 37) oc30 od30 kV30 dc30 pm30 an30 cd30 ct30 sl30)(c30:PC K cd30 "_law_number")(k30:PK K f30)(a31:PA K "_law_rows_over" f31)(l31:PL K f31 "_law_rows_over" (aj 38) oc31 od31 kV31 dc31 pm31 an31 cd31 ct31 sl31)(c31:PC K cd31 "_law_rows_over")(k31:PK K f31)(a32:PA K "_law_pairs" f32)(l32:PL K f32 "_law_pairs" (aj 39) oc32 od32 kV32 dc32 pm32 an32 cd32 ct32 sl32)(c32:PC K cd32 "_law_pairs")(k32:PK K f32)(a33:PA K "_law_table" f33)(l33:PL K f33 "_law_table" (aj 40) oc33 od33 kV33 dc33 pm33 an33 cd33 ct33 sl33)(c33:PC K cd33 "_law_table")(k33:PK K f33)(a34:PA K "_law_tables" f34)(l34:PL K f34 "_law_tables" (aj 41) oc34 od34 kV34 dc34 pm34 an34 cd34 ct34 sl34)(c34:PC K cd34 "_law_tables")(k34:PK K f34)(a35:PA K "_law_with" f35)(l35:PL K f35 "_law_with" (aj 42) oc35 od35 kV35 dc35 pm35 an35 cd35 ct35 sl35)(c35:PC K cd35 "_law_with")(k35:PK K f35)(a36:PA K "_law_span" f36)(l36:PL K f36 "_law_span" (aj 43) oc36 od36 kV36 dc36 pm36 an36 cd36 ct36 sl36)(c36:PC K cd36 "_law_span")(k36:PK K f36)(a37:PA K "_law_height" f37)(l37:PL K f37 "_law_height" (aj 44) oc37 od37 kV37 dc37 pm37 an37 cd37 ct37 sl37)(c37:PC K cd37 "_law_height")(k37:PK K f37)(a38:PA K "_law_task" f38)(l38:PL K f38 "_law_task" (aj 45) oc38 od38 kV38 dc38 pm38 an38 cd38 ct38 sl38)(c38:PC K cd38 "_law_task")(k38:PK K f38)(a39:PA K "_law_can" f39)(l39:PL K f39 "_law_can" (aj 46) oc39 od39 kV39 dc39 pm39 an39 cd39 ct39 sl39)(c39:PC K cd39 "_law_can")(k39:PK K f39)(a40:PA K "_law_least" f40)(l40:PL K f40 "_law_least" (aj 47) oc40 od40 kV40 dc40 pm40 an40 cd40 ct40 sl40)(c40:PC K cd40 "_law_least")(k40:PK K f40)(a41:PA K "_law_scheme_right" f41)(l41:PL K f41 "_law_scheme_right" (aj 48) oc41 od41 kV41 dc41 pm41 an41 cd41 ct41 sl41)(c41:PC K cd41 "_law_scheme_right")(k41:PK K f41)(a42:PA K "law" f42)(l42:PL K f42 "law" (aj 49) oc42 od42 kV42 dc42 pm42 an42 cd42 ct42 sl42)(c42:PC K cd42 "law")(k42:PK K f42)(gcst0:OT K MW "LONGEST"=Z (Z (.int 81 ut0)))(gcst1:OT K MW "MOST_PRODUCTS"=Z (Z (.int 400 ut1)))(gcst2:OT K MW "MOST_SETS"=Z (Z (.int 3000 ut2)))
 : ∃fd:PR,(∀(s:J4) (v:q7),Uv s fd ⟨[v],[]⟩ [("_law_script",v)])/\∀base:Heap,K.In base->base.Ns MW mg->eE l.prog w K mg base CX0 40 fa fd ["_law_script"] (lSp K (phi tab 40 42)):=by
 let e:=hfa.symm.trans (Ln X G a42)
 cases e
 let O:Ak K mg tab qG:=by
  refine⟨λx hx=>PySem.W.mg_none_of X G (z x hx),?_,E3,?_⟩
  ·intro i d hd
   match i,hd with
   |0,hd=>cases hd;show⟨_,_,af l0 c0 k0,Ln X G a0,a0,(af l0 c0 k0).binds λ_ _ _ _ _ _ us hl=>by let⟨u0,rfl⟩:=dh us hl;rfl⟩
   |1,hd=>cases hd;show⟨_,_,af l1 c1 k1,Ln X G a1,a1,(af l1 c1 k1).binds λ_ _ _ _ _ _ us hl=>by let⟨u0,rfl⟩:=dh us hl;rfl⟩
   |2,hd=>cases hd;show⟨_,_,af l2 c2 k2,Ln X G a2,a2,(af l2 c2 k2).binds λ_ _ _ _ _ _ us hl=>by let⟨u0,u1,rfl⟩:=bg us hl;rfl⟩
   |3,hd=>cases hd;show⟨_,_,af l3 c3 k3,Ln X G a3,a3,(af l3 c3 k3).binds λ_ _ _ _ _ _ us hl=>by let⟨u0,u1,rfl⟩:=bg us hl;rfl⟩
   |4,hd=>cases hd;show⟨_,_,af l4 c4 k4,Ln X G a4,a4,(af l4 c4 k4).binds λ_ _ _ _ _ _ us hl=>by let⟨u0,rfl⟩:=dh us hl;rfl⟩
   |5,hd=>cases hd;show⟨_,_,af l5 c5 k5,Ln X G a5,a5,(af l5 c5 k5).binds λ_ _ _ _ _ _ us hl=>by let⟨u0,u1,rfl⟩:=bg us hl;rfl⟩
   |6,hd=>cases hd;show⟨_,_,af l6 c6 k6,Ln X G a6,a6,(af l6 c6 k6).binds λ_ _ _ _ _ _ us hl=>by let⟨u0,u1,rfl⟩:=bg us hl;rfl⟩
   |7,hd=>cases hd;show⟨_,_,af l7 c7 k7,Ln X G a7,a7,(af l7 c7 k7).binds λ_ _ _ _ _ _ us hl=>by let⟨u0,rfl⟩:=dh us hl;rfl⟩
   |8,hd=>cases hd;show⟨_,_,af l8 c8 k8,Ln X G a8,a8,(af l8 c8 k8).binds λ_ _ _ _ _ _ us hl=>by let⟨u0,u1,u2,rfl⟩:=cC us hl;rfl⟩
   |9,hd=>cases hd;show⟨_,_,af l9 c9 k9,Ln X G a9,a9,(af l9 c9 k9).binds λ_ _ _ _ _ _ us hl=>by let⟨u0,u1,rfl⟩:=bg us hl;rfl⟩
   |10,hd=>cases hd;show⟨_,_,af l10 c10 k10,Ln X G a10,a10,(af l10 c10 k10).binds λ_ _ _ _ _ _ us hl=>by let⟨u0,u1,rfl⟩:=bg us hl;rfl⟩
   |11,hd=>cases hd;show⟨_,_,af l11 c11 k11,Ln X G a11,a11,(af l11 c11 k11).binds λ_ _ _ _ _ _ us hl=>by let⟨u0,u1,u2,rfl⟩:=cC us hl;rfl⟩
   |12,hd=>cases hd;show⟨_,_,af l12 c12 k12,Ln X G a12,a12,(af l12 c12 k12).binds λ_ _ _ _ _ _ us hl=>by let⟨u0,u1,u2,rfl⟩:=cC us hl;rfl⟩
   |13,hd=>cases hd;show⟨_,_,af l13 c13 k13,Ln X G a13,a13,(af l13 c13 k13).binds λ_ _ _ _ _ _ us hl=>by let⟨u0,rfl⟩:=dh us hl;rfl⟩
   |14,hd=>cases hd;show⟨_,_,af l14 c14 k14,Ln X G a14,a14,(af l14 c14 k14).binds λ_ _ _ _ _ _ us hl=>by let⟨u0,u1,u2,rfl⟩:=cC us hl;rfl⟩
   |15,hd=>cases hd;show⟨_,_,af l15 c15 k15,Ln X G a15,a15,(af l15 c15 k15).binds λ_ _ _ _ _ _ us hl=>by let⟨u0,u1,rfl⟩:=bg us hl;rfl⟩
   |16,hd=>cases hd;show⟨_,_,af l16 c16 k16,Ln X G a16,a16,(af l16 c16 k16).binds λ_ _ _ _ _ _ us hl=>by let⟨u0,u1,rfl⟩:=bg us hl;rfl⟩
   |17,hd=>cases hd;show⟨_,_,af l17 c17 k17,Ln X G a17,a17,(af l17 c17 k17).binds λ_ _ _ _ _ _ us hl=>by let⟨u0,u1,u2,rfl⟩:=cC us hl;rfl⟩
   |18,hd=>cases hd;show⟨_,_,af l18 c18 k18,Ln X G a18,a18,(af l18 c18 k18).binds λ_ _ _ _ _ _ us hl=>by let⟨u0,u1,u2,rfl⟩:=cC us hl;rfl⟩
   |19,hd=>cases hd;show⟨_,_,af l19 c19 k19,Ln X G a19,a19,(af l19 c19 k19).binds λ_ _ _ _ _ _ us hl=>by let⟨u0,u1,u2,rfl⟩:=cC us hl;rfl⟩
   |20,hd=>cases hd;show⟨_,_,af l20 c20 k20,Ln X G a20,a20,(af l20 c20 k20).binds λ_ _ _ _ _ _ us hl=>by let⟨u0,u1,rfl⟩:=bg us hl;rfl⟩
   |21,hd=>cases hd;show⟨_,_,af l21 c21 k21,Ln X G a21,a21,(af l21 c21 k21).binds λ_ _ _ _ _ _ us hl=>by let⟨u0,u1,rfl⟩:=bg us hl;rfl⟩
   |22,hd=>cases hd;show⟨_,_,af l22 c22 k22,Ln X G a22,a22,(af l22 c22 k22).binds λ_ _ _ _ _ _ us hl=>by let⟨u0,u1,rfl⟩:=bg us hl;rfl⟩
   |23,hd=>cases hd;show⟨_,_,af l23 c23 k23,Ln X G a23,a23,(af l23 c23 k23).binds λ_ _ _ _ _ _ us hl=>by let⟨u0,u1,rfl⟩:=bg us hl;rfl⟩
   |24,hd=>cases hd;show⟨_,_,af l24 c24 k24,Ln X G a24,a24,(af l24 c24 k24).binds λ_ _ _ _ _ _ us hl=>by let⟨u0,u1,rfl⟩:=bg us hl;rfl⟩
   |25,hd=>cases hd;show⟨_,_,af l25 c25 k25,Ln X G a25,a25,(af l25 c25 k25).binds λ_ _ _ _ _ _ us hl=>by let⟨u0,u1,rfl⟩:=bg us hl;rfl⟩
   |26,hd=>cases hd;show⟨_,_,af l26 c26 k26,Ln X G a26,a26,(af l26 c26 k26).binds λ_ _ _ _ _ _ us hl=>by let⟨u0,u1,rfl⟩:=bg us hl;rfl⟩
   |27,hd=>cases hd;show⟨_,_,af l27 c27 k27,Ln X G a27,a27,(af l27 c27 k27).binds λ_ _ _ _ _ _ us hl=>by let⟨u0,u1,u2,rfl⟩:=cC us hl;rfl⟩
   |28,hd=>cases hd;show⟨_,_,af l28 c28 k28,Ln X G a28,a28,(af l28 c28 k28).binds λ_ _ _ _ _ _ us hl=>by let⟨u0,rfl⟩:=dh us hl;rfl⟩
   |29,hd=>cases hd;show⟨_,_,af l29 c29 k29,Ln X G a29,a29,(af l29 c29 k29).binds λ_ _ _ _ _ _ us hl=>by let⟨u0,rfl⟩:=dh us hl;rfl⟩
   |30,hd=>cases hd;show⟨_,_,af l30 c30 k30,Ln X G a30,a30,(af l30 c30 k30).binds λ_ _ _ _ _ _ us hl=>by let⟨u0,rfl⟩:=dh us hl;rfl⟩
   |31,hd=>cases hd;show⟨_,_,af l31 c31 k31,Ln X G a31,a31,(af l31 c31 k31).binds λ_ _ _ _ _ _ us hl=>by let⟨u0,u1,rfl⟩:=bg us hl;rfl⟩
   |32,hd=>cases hd;show⟨_,_,af l32 c32 k32,Ln X G a32,a32,(af l32 c32 k32).binds λ_ _ _ _ _ _ us hl=>by let⟨u0,u1,u2,rfl⟩:=cC us hl;rfl⟩
   |33,hd=>cases hd;show⟨_,_,af l33 c33 k33,Ln X G a33,a33,(af l33 c33 k33).binds λ_ _ _ _ _ _ us hl=>by let⟨u0,u1,rfl⟩:=bg us hl;rfl⟩
   |34,hd=>cases hd;show⟨_,_,af l34 c34 k34,Ln X G a34,a34,(af l34 c34 k34).binds λ_ _ _ _ _ _ us hl=>by let⟨u0,u1,rfl⟩:=bg us hl;rfl⟩
   |35,hd=>cases hd;show⟨_,_,af l35 c35 k35,Ln X G a35,a35,(af l35 c35 k35).binds λ_ _ _ _ _ _ us hl=>by let⟨u0,u1,u2,rfl⟩:=cC us hl;rfl⟩
   |36,hd=>cases hd;show⟨_,_,af l36 c36 k36,Ln X G a36,a36,(af l36 c36 k36).binds λ_ _ _ _ _ _ us hl=>by let⟨u0,u1,u2,rfl⟩:=cC us hl;rfl⟩
   |37,hd=>cases hd;show⟨_,_,af l37 c37 k37,Ln X G a37,a37,(af l37 c37 k37).binds λ_ _ _ _ _ _ us hl=>by let⟨u0,u1,rfl⟩:=bg us hl;rfl⟩
   |38,hd=>cases hd;show⟨_,_,af l38 c38 k38,Ln X G a38,a38,(af l38 c38 k38).binds λ_ _ _ _ _ _ us hl=>by let⟨u0,u1,u2,u3,rfl⟩:=uD us hl;rfl⟩
   |39,hd=>cases hd;show⟨_,_,af l39 c39 k39,Ln X G a39,a39,(af l39 c39 k39).binds λ_ _ _ _ _ _ us hl=>by let⟨u0,u1,u2,u3,u4,u5,rfl⟩:=FE us hl;rfl⟩
   |40,hd=>cases hd;show⟨_,_,af l40 c40 k40,Ln X G a40,a40,(af l40 c40 k40).binds λ_ _ _ _ _ _ us hl=>by let⟨u0,u1,rfl⟩:=bg us hl;rfl⟩
   |41,hd=>cases hd;show⟨_,_,af l41 c41 k41,Ln X G a41,a41,(af l41 c41 k41).binds λ_ _ _ _ _ _ us hl=>by let⟨u0,u1,u2,u3,rfl⟩:=uD us hl;rfl⟩
   |42,hd=>cases hd;show⟨_,_,af l42 c42 k42,Ln X G a42,a42,(af l42 c42 k42).binds λ_ _ _ _ _ _ us hl=>by let⟨u0,rfl⟩:=dh us hl;rfl⟩
   |i+43,hd=>simp[tab]at hd
  ·intro x i hx;simp only[qG,Lm,Me,or_false,Prod.mk.injEq]at hx
   rcases hx with⟨rfl,rfl⟩|⟨rfl,rfl⟩|⟨rfl,rfl⟩
   ·show⟨_,Ln X G gcst0,GV.ints⟩
   ·show⟨_,Ln X G gcst1,GV.ints⟩
   ·show⟨_,Ln X G gcst2,GV.ints⟩
 calc⟨Pj "law" "law" (dP (aj 49)) (ck (aj 49)) (aE (aj 49)) .none kV42 dc42 pm42 an42 cd42 ct42,λs v=>.of_eq rfl,λbase _ _=>?_⟩;show wL O 40 42 d42 _ _ rfl (af l42 c42 k42)
def walk {l:SQ}{q:LN}{loose:List Str}{XP:(Str->Option q7)->Heap->Prop}{YP:Mq->Heap->Prop}{d:DefRec}{K:Params->Frag}(hn:l.most=Z 63)(hdf:d.params.defaults=[])(hlaw:∀ns:List Int,ns.length<=63->phi tab 40 42 [.con (ns.map D.int)] (fun _=>N2) fun d _=>d=.bl Wi)(hY:∀(w:Mq) (h:Heap),YP w h->(K w.params).In h)(F:∀(w:Mq) (mg:Str->Option q7) (fa:Wk) (h:Heap),(K w.params).In h->h.Ns MW mg->mg d.name=Z (.ref fa)->
   ∃fd:PR,(∀(s:J4) (u:q7),Uv s fd ⟨[u],[]⟩ [("_law_script",u)])/\∀base:Heap,(K w.params).In base->base.Ns MW mg->eE l.prog w (K w.params) mg base CX0 40 fa fd ["_law_script"] (lSp (K w.params) (phi tab 40 42))):
 PySem.W.WalkO q loose XP YP l.row.toRowW d [] (λf vs=>VH f vs):=
 L2.walk_of (n:=63) (k:=40) (x:="_law_script") (CX:=λ_=>CX0) (sp:=λw=>lSp (K w.params) (phi tab 40 42)) hn (·) hdf ⟨rfl,by decide,by decide⟩ hY F (λw H a ns hl hO hS=>DT hO hS (hlaw ns hl)) λ_ _ _ _ _ z=>z
end K42
end
section
namespace K42
open L2.Srt
def sB{n:Nat}(j:1<=n):uF tab n 23:=wR (x:="_law_number_here") (s:=aj 30) rfl j
def ci{n:Nat}(j:2<=n):wN tab n 25:=λz h1 h2 q=>BR (s:=aj 32) (fm:=23) rfl (sB ∅) j z h1 h2 q
def uL{n:Nat}(U:3<=n):qf tab n 30:=by
 intro b M Q B q;refine al ∅ rfl rfl (ρ:=[Z _]) rfl ?_
 unfold d30 L2.Mi.K42.b30;nofun;refine⟨by rw[D0];lia,λp F=>?_⟩
 let g:=Ge.new (o:=.lst ([0,0,1,1,1,-1,-1,2,0].map D.int)) F;let e:=aa (M:=M) (a:=p) (o:=.lst ([0,0,1,1,1,-1,-1,2,0].map D.int));let j:p≠b:=λz=>by let⟨_,_,_,h⟩:=B;rw[<-z,F]at h;cases h
 let x0:=Bx.of B g;change phi _ _ _ _ (ag M p (.lst ([0,0,1,1,1,-1,-1,2,0].map D.int))) _;generalize ag M p (.lst ([0,0,1,1,1,-1,-1,2,0].map D.int))=M1 at e x0⊢;refine ci ∅ x0.box (·) (·) λv M2 v0 v1 G=>?_
 let e:=G.keep p _ j e;let⟨v,rfl⟩:=Mk v0;let O:v<([0,0,1,1,1,-1,-1,2,0]:List Int).length:=by simp;lia
 let J:([0,0,1,1,1,-1,-1,2,0]:List Int)[v]?=Z ([0,0,1,1,1,-1,-1,2,0]:List Int)[v]:=z4 O;let hm:=Lh J;let L:-1000<=([0,0,1,1,1,-1,-1,2,0]:List Int)[v]/\([0,0,1,1,1,-1,-1,2,0]:List Int)[v]<=1000:=by simp only[Lm,Me,or_false]at hm;lia
 show aI e (bJ (by rw[Lp,J];rfl)) (q _ _ L.1 L.2 (x0.trans G))
def zK{n:Nat}(B:4<=n):wP tab n 26:=λj z q=>BS (s:=aj 33) (fn:=30) rfl (uL ∅) ∅ j z q
variable{M M':Mem}
def aS{p:Wk}(g:Ge M M')(h:M' p=N2):M p=N2:=by
 cases hz:M p with
 |none=>rfl
 |some o=>rw[g _ _ hz]at h;cases h
noncomputable abbrev rD(v:List Int):D:=.tup (v.map .int)
abbrev rwN(P:Nat)(rows:List (List Int)):List (List Int):=rows.flatMap λr=>(Lc P).map λx=>r++[((x:Nat):Int)]
abbrev rws(P:Nat):Nat->List (List Int)
 |0=>[[]]
 |k+1=>rwN P (rws P k)
def fP{P:Nat}:∀{rows:List (List Int)},(rwN P rows).length=rows.length*P
 |[]=>by simp[rwN]
 |r::rows=>by let ih:=fP (P:=P) (rows:=rows);unfold rwN at ih⊢;rw[MD,hH,ih,LB,Mp];simp;lia
def cW{P:Nat}(j:P<=3):∀k,k<=6->(rws P k).length<=3^k
 |0,_=>by simp[rws]
 |k+1,h=>by change(rwN P (rws P k)).length<=_;rw[fP,SM];show LY (cW j k ∅) j
def iX{k:Nat}(h:k<=6):3^k<=729:=Ml (QZ (·) h) (·)
def cX{P:Nat}:∀k,∀r∈rws P k,r.length=k
 |0,r,h=>by simp[rws]at h;simp[h]
 |k+1,r,h=>by let⟨u,j,h⟩:=Mn.mp h;let⟨x,_,rfl⟩:=L7.mp h;rw[hH,cX k u j];rfl
abbrev nzl(v:List Int):List Int:=v.filter λx=>!(x==0)
abbrev fo(v:List Int):Bool:=decide (0<(nzl v).length)&&decide (gz (nzl v) 0=1)
variable{v:List Int}{Q:QD}
def nv{k:Nat}(L:1<=k)(O:v.length<=1000)(q:∀M',Ge M M'->Q (.bl (fo v)) M'):phi tab k 7 [rD v] M Q:=by
 refine al ∅ rfl rfl (ρ:=[Z _,N2]) rfl ?_
 unfold d7 L2.Mi.K42.b7;nofun;refine ak (f:=D.int) (ys:=v) (I:=λl ρ M' acc=>(∃o0,ρ=[o0])/\M'=M/\acc=(nzl l).map .int) rfl ⟨⟨_,rfl⟩,rfl,rfl⟩ (λ_ _ _ _ _=>by first|rfl|trivial) ?_ ?_
 ·rintro l x r ρ z acc e ⟨⟨o0,rfl⟩,rfl,rfl⟩;calc⟨_,rfl,λN B=>?_⟩;let F:=ah e;let G:=LF (λx:Int=>!(x==0)) l;ac_nf
  by_cases hx:x=0
  ·subst hx;simp;show B _ _ _ ⟨⟨_,rfl⟩,rfl,by simp[nzl]⟩
  ·rw[if_pos (by simpa using hx)]
   show⟨by rw[h7,D0];unfold nzl;lia,B _ _ _ ⟨⟨_,rfl⟩,rfl,by simp[nzl,hx]⟩⟩
 ·rintro ρ z acc ⟨⟨o0,rfl⟩,rfl,rfl⟩ p hp;let g1:=Ge.new (o:=.lst ((nzl v).map .int)) hp;let j:=aa (M:=z) (a:=p) (o:=.lst ((nzl v).map .int));generalize ag z p (.lst ((nzl v).map .int))=M2 at g1 j⊢;nofun;calc⟨_,_,rfl,bv (ab j),?_⟩;ac_nf;rw[h7]
  cases hz:nzl v with
  |nil=>
   rw[if_neg (_)]
   let:=q _ g1;unfold fo at this;rw[hz]at this;simpa using this
  |cons x r=>
   rw[if_pos (_)]
   rw[hz]at j;calc aI j (d:=.int x) (bJ (k:=0) rfl) ?_;ac_nf;let:=q _ g1;unfold fo at this;rw[hz]at this;let J:(x==1)=decide (x=1):=rfl;rw[J];simpa[gz]using this
def E4:∀{A B:List Int},MU (A.map .int) (B.map .int)=decide (A=B)
 |[],[]=>by simp[MU]
 |[],_::_=>by simp[MU]
 |_::_,[]=>by simp[MU]
 |a::A,b::B=>by
  rw[Lj,Lj,MU,E4]
  by_cases h:a=b<;>simp[Mr,h]
variable{a b:Wk}
def C4{A B:List Int}(j:M a=Z (.lst (A.map .int)))(z:M b=Z (.lst (B.map .int)))(q:Q (.bl (decide (A=B))) M):wEq (.ref a) (.ref b) M Q:=by
 refine⟨.list (A.map .int),.list (B.map .int),by rw[fI j,dZ];rfl,by rw[fI z,dZ];rfl,?_⟩
 rw[Mr,E4];show q
def C5:decide ((nzl v).take 1=[1])=fo v:=by
 unfold fo
 cases nzl v with
 |nil=>simp
 |cons x r=>simp[gz]
variable{P L:Nat}
def sC{k:Nat}(hk:1<=k)(hP:P<=3)(hL:L<=6)(q:∀p M',Ge M M'->M p=N2->M' p=Z (.lst ((rws P L).map rD))->Q (.ref p) M'):phi tab k 6 [.int L,.int P] M Q:=by
 refine al ∅ rfl rfl (ρ:=[Z _,Z _,N2,N2]) rfl ?_
 unfold d6 L2.Mi.K42.b6;nofun;refine⟨by rw[D0];lia,by rw[D0];lia,λJ z=>?_⟩
 let g0:=Ge.new (o:=.lst [rD []]) z;let e0:=aa (M:=M) (a:=J) (o:=.lst [rD []]);change wSs _ _ _ _ (ag M J (.lst [rD []]));generalize ag M J (.lst [rD []])=M0 at g0 e0⊢;nofun;refine⟨∅,∅,?_⟩
 rw[Li];refine au (f:=λi=>D.int (i:Nat)) (ys:=Lc L) (I:=λl ρ M'=>∃pr O,ρ=[Z (.int L),Z (.int P),Z (.ref pr),O]/\Ge M M'/\M pr=N2/\M' pr=Z (.lst ((rws P l.length).map rD))) aC ⟨J,_,rfl,g0,z,e0⟩ (λ_ _ _ _=>trivial) ?_ ?_
 ·rintro l i r ρ M1 e ⟨pr,O,rfl,g1,n1,B⟩;calc⟨_,rfl,λF hF=>?_⟩;let U:=ah e;rw[Lq]at U;let IM:=Ml (cW hP l.length ∅) (iX (show l.length<=6 by lia))
  nofun;calc⟨_,ab B,?_⟩;refine ak (f:=rD) (ys:=rws P l.length) (I:=λl2 ρ M' acc=>(∃o0 j,ρ=[o0,j,Z (.int P)])/\M'=M1/\acc=(rwN P l2).map rD) rfl ⟨⟨_,_,rfl⟩,rfl,rfl⟩ (λ_ _ _ _ h=>by rw[h.2.1];show ab B) ?_ ?_
  ·rintro l2 w r2 ρ M2 acc e2 ⟨⟨o0,j,rfl⟩,rfl,rfl⟩;calc⟨_,rfl,λN hN=>?_⟩;let IK:=ah e2;let IN:=cX l.length w (by rw[e2];simp)
   ac_nf;refine⟨∅,∅,?_⟩
   rw[Li];refine ak (f:=λi=>D.int (i:Nat)) (ys:=Lc P) (I:=λl3 ρ M' acc=>(∃j,ρ=[Z (rD w),j,Z (.int P)])/\M'=M2/\acc=(rwN P l2++l3.map λx=>w++[((x:Nat):Int)]).map rD) aC ⟨⟨_,rfl⟩,rfl,by simp⟩ (λ_ _ _ _ _=>trivial) ?_ ?_
   ·rintro l3 x r3 ρ M3 acc e3 ⟨⟨j,rfl⟩,rfl,rfl⟩;calc⟨_,rfl,λN2 Y=>?_⟩;let fv:=ah e3;rw[Lq]at fv;let hm:l2.length*P<=729*3:=LY ∅ hP
    ac_nf;refine⟨by rw[D0];lia,.inr trivial,by rw[h7,D0];lia,by rw[h7,hH,fP,h7,D0];lia,Y _ _ _ ⟨⟨_,rfl⟩,rfl,by simp⟩⟩
   ·rintro ρ M3 acc ⟨⟨j,rfl⟩,rfl,rfl⟩;show hN _ _ _ ⟨⟨_,_,rfl⟩,rfl,by simp[rwN,Mo]⟩
  ·rintro ρ M2 acc ⟨⟨o0,j,rfl⟩,rfl,rfl⟩ pn G;calc hF _ _ ⟨pn,_,rfl,g1.trans (Ge.new G),aS g1 G,?_⟩;rw[aa,hH];rfl
 ·rintro ρ M1 ⟨pr,O,rfl,g1,n1,B⟩;dsimp only;nofun;rw[Lq]at B;show q pr M1 g1 n1 B
def qH{k:Nat}(hk:1<=k)(hP:P<=3)(hL:L<=6)(q:∀p M',Ge M M'->M p=N2->M' p=Z (.lst (((rws P L).filter fo).map rD))->Q (.ref p) M'):phi tab k 31 [.int L,.int P] M Q:=by
 refine al ∅ rfl rfl (ρ:=[Z _,Z _,N2,N2,N2,N2]) rfl ?_
 unfold d31 L2.Mi.K42.b31;nofun;refine⟨by rw[D0];lia,by rw[D0];lia,λp0 IO=>?_⟩
 let g0:=Ge.new (o:=.lst [rD []]) IO;let e0:=aa (M:=M) (a:=p0) (o:=.lst [rD []]);change wSs _ _ _ _ (ag M p0 (.lst [rD []]));generalize ag M p0 (.lst [rD []])=M0 at g0 e0⊢;nofun;refine⟨∅,∅,?_⟩
 rw[Li];refine au (f:=λi=>D.int (i:Nat)) (ys:=Lc L) (I:=λl ρ M'=>∃pr o3 o4 O,ρ=[Z (.int L),Z (.int P),Z (.ref pr),o3,o4,O]/\Ge M M'/\M' pr=Z (.lst ((rws P l.length).map rD))) aC ⟨p0,_,_,_,rfl,g0,e0⟩ (λ_ _ _ _=>trivial) ?_ ?_
 ·rintro l i r ρ fv e ⟨pr,o3,o4,O,rfl,g1,J⟩;calc⟨_,rfl,λF hF=>?_⟩;let IP:=ah e;rw[Lq]at IP;let IQ:=Ml (cW hP l.length ∅) (iX (show l.length<=6 by lia))
  nofun;refine⟨by rw[D0];lia,λpl j=>?_⟩
  let g2:=Ge.new (o:=.lst []) j;let e2:=aa (M:=fv) (a:=pl) (o:=.lst []);generalize ag fv pl (.lst [])=M2 at g2 e2⊢;let IV:=aS g1 j;let IX:pr≠pl:=λz=>by rw[z,j]at J;cases J
  nofun;calc⟨_,ab (g2 _ _ J),?_⟩;refine au (f:=rD) (ys:=rws P l.length) (I:=λl2 ρ M'=>(∃O,ρ=[Z (.int L),Z (.int P),Z (.ref pr),Z (.int (i:Nat)),Z (.ref pl),O])/\Ge fv M'/\M' pl=Z (.lst ((rwN P l2).map rD))) rfl ⟨⟨_,rfl⟩,g2,e2⟩ (λ_ _ _ h=>ab (h.2.1 _ _ J)) ?_ ?_
  ·rintro l2 w r2 ρ U e' ⟨⟨O,rfl⟩,g3,G⟩;calc⟨_,rfl,λF2 IR=>?_⟩;let IK:=ah e';let IS:=cX l.length w (by rw[e'];simp)
   nofun;refine⟨⟨_,G⟩,∅,∅,?_⟩
   rw[Li];refine ak (f:=λi=>D.int (i:Nat)) (ys:=Lc P) (I:=λY ρ M' acc=>(∃o0,ρ=[o0,Z (rD w)])/\M'=U/\acc=(Y.map λx=>w++[((x:Nat):Int)]).map rD) aC ⟨⟨_,rfl⟩,rfl,rfl⟩ (λ_ _ _ _ _=>trivial) ?_ ?_
   ·rintro Y x r3 ρ M4 acc e3' ⟨⟨o0,rfl⟩,rfl,rfl⟩;calc⟨_,rfl,λN hN=>?_⟩;let IM:=ah e3';rw[Lq]at IM;ac_nf;show⟨by rw[D0];lia,.inr trivial,by rw[h7,D0];lia,by rw[h7,h7,D0];lia,hN _ _ _ ⟨⟨_,rfl⟩,rfl,by simp⟩⟩
   ·rintro ρ M4 acc ⟨⟨o0,rfl⟩,rfl,rfl⟩ pe hpe;let gp:=Ge.new (o:=.lst (((Lc P).map λx=>w++[((x:Nat):Int)]).map rD)) hpe;let hm:l2.length*P<=729*3:=LY ∅ hP
    refine⟨pl,pe,_,_,rfl,rfl,gp _ _ G,aa,by rw[h7,h7,h7,Lq,fP,D0];lia,?_⟩
    calc IR _ _ ⟨⟨_,rfl⟩,(g3.trans gp).upd j,?_⟩;rw[aa];simp[rwN,Mo]
  ·rintro ρ U ⟨⟨O,rfl⟩,g3,G⟩;dsimp only;nofun;calc hF _ _ ⟨pl,_,_,_,rfl,g1.trans g3,?_⟩;rw[G,hH];rfl
 ·rintro ρ fv ⟨pr,o3,o4,O,rfl,g1,J⟩;dsimp only;rw[Lq]at J;let IQ:=Ml (cW hP L hL) (iX hL);nofun;calc⟨_,ab J,?_⟩;refine ak (f:=rD) (ys:=rws P L) (I:=λl2 ρ M' acc=>(∃o0,ρ=[o0])/\Ge fv M'/\acc=(l2.filter fo).map rD) rfl ⟨⟨_,rfl⟩,Ge.refl,rfl⟩ (λ_ _ _ _ h=>ab (h.2.1 _ _ J)) ?_ ?_
  ·rintro l2 w r2 ρ M2 acc e2 ⟨⟨o0,rfl⟩,g2,rfl⟩;calc⟨_,rfl,λN hN=>?_⟩;let IK:=ah e2;let IS:=cX L w (by rw[e2];simp)
   let IY:=LF fo l2;calc⟨_,rfl,_,rfl,?_⟩;refine ak (f:=D.int) (ys:=w) (I:=λY ρ M' acc=>(∃o0,ρ=[o0])/\M'=M2/\acc=(nzl Y).map .int) rfl ⟨⟨_,rfl⟩,rfl,rfl⟩ (λ_ _ _ _ _=>by first|rfl|trivial) ?_ ?_
   ·rintro Y x r3 ρ U acc G ⟨⟨o0,rfl⟩,rfl,rfl⟩;calc⟨_,rfl,λN2 IN=>?_⟩;let IM:=ah G;let IW:=LF (λx:Int=>!(x==0)) Y;calc⟨_,rfl,?_⟩;ac_nf
    by_cases hx:x=0
    ·subst hx;simp;show IN _ _ _ ⟨⟨_,rfl⟩,rfl,by simp[nzl]⟩
    ·rw[if_pos (by simpa using hx)]
     show⟨by rw[h7,D0];unfold nzl;lia,IN _ _ _ ⟨⟨_,rfl⟩,rfl,by simp[nzl,hx]⟩⟩
   ·rintro ρ U acc ⟨⟨o0,rfl⟩,rfl,rfl⟩ p3 hp3;let g3:=Ge.new (o:=.lst ((nzl w).map .int)) hp3;let G:=aa (M:=U) (a:=p3) (o:=.lst ((nzl w).map .int));generalize ag U p3 _=M4 at g3 G⊢;calc⟨_,G,fun p4 IT=>?_⟩;let ec:eK ((nzl w).map D.int) N2 (Z 1)=((nzl w).take 1).map .int:=by
     unfold eK;simp only[HT.sIx];rw[if_neg ∅,U8]
     cases nzl w with
     |nil=>simp
     |cons x r=>simp
    rw[ec];let g4:=Ge.new (o:=.lst (((nzl w).take 1).map .int)) IT;let e4:=aa (M:=M4) (a:=p4) (o:=.lst (((nzl w).take 1).map .int));generalize ag M4 p4 _=M5 at g4 e4⊢;refine⟨by rw[D0];lia,λp5 IU=>?_⟩
    let g5:=Ge.new (o:=.lst ([1].map D.int)) IU;let gA:=g2.trans (g3.trans (g4.trans g5));calc C4 (B:=[1]) (g5 _ _ e4) aa ?_;rw[C5];refine⟨_,rfl,?_⟩
    cases ho:fo w with
    |true=>
     rw[if_pos rfl];refine⟨_,rfl,by rw[h7,D0];lia,hN _ _ _ ⟨⟨_,rfl⟩,gA,?_⟩⟩
     rw[LU,LL ho];simp
    |false=>
     rw[if_neg (_)]
     calc hN _ _ _ ⟨⟨_,rfl⟩,gA,?_⟩;rw[LU,LW (by rw[ho];simp)];simp
  ·rintro ρ M2 acc ⟨⟨o0,rfl⟩,g2,rfl⟩ pn hpn;show q pn _ (g1.trans (g2.trans (Ge.new hpn))) (aS (g1.trans g2) hpn) aa
noncomputable abbrev p2D(x:List Int×List Int):D:=.tup [rD x.1,rD x.2]
abbrev prs(P L R:Nat):List (List Int×List Int):=((rws P L).filter fo).flatMap λl=>((rws P R).filter fo).map λr=>(l,r)
abbrev prL(P R:Nat)(ls:List (List Int)):List (List Int×List Int):=ls.flatMap λl=>((rws P R).filter fo).map λr=>(l,r)
def iY{P R:Nat}:∀{ls:List (List Int)},(prL P R ls).length=ls.length*((rws P R).filter fo).length
 |[]=>by simp[prL]
 |l::ls=>by let ih:=iY (P:=P) (R:=R) (ls:=ls);unfold prL at ih⊢;rw[MD,hH,ih,LB,Mp];simp;lia
variable{R:Nat}
def ic(q:P<=3)(j:R<=6):((rws P R).filter fo).length<=729:=Ml (LF _ _) (Ml (cW q R j) (iX j))
def zL{k:Nat}(hk:2<=k)(B:P<=3)(Y:L<=6)(U:R<=6)(q:∀p M',Ge M M'->M p=N2->M' p=Z (.lst ((prs P L R).map p2D))->Q (.ref p) M'):phi tab k 8 [.int L,.int R,.int P] M Q:=by
 refine al ∅ rfl rfl (ρ:=[Z _,Z _,Z _,N2]) rfl ?_
 unfold d8 L2.Mi.K42.b8;nofun;refine sC ∅ B U λp0 M0 g0 n0 fv=>⟨_,ab fv,?_⟩
 let IQ:=Ml (cW B R U) (iX U);let IR:=Ml (cW B L Y) (iX Y);refine ak (f:=rD) (ys:=rws P R) (I:=λl ρ M' acc=>(∃o0,ρ=[o0])/\Ge M0 M'/\acc=(l.filter fo).map rD) rfl ⟨⟨_,rfl⟩,Ge.refl,rfl⟩ (λ_ _ _ _ h=>ab (h.2.1 _ _ fv)) ?_ ?_
 ·rintro l w r ρ M1 acc e ⟨⟨o0,rfl⟩,g1,rfl⟩;calc⟨_,rfl,λN F=>?_⟩;let IK:=ah e;let IM:=cX R w (by rw[e];simp)
  let IN:=LF fo l;ac_nf;refine nv ∅ ∅ λM2 g2=>⟨_,rfl,?_⟩
  cases ho:fo w with
  |true=>
   rw[if_pos rfl];refine⟨by rw[h7,D0];lia,F _ _ _ ⟨⟨_,rfl⟩,g1.trans g2,?_⟩⟩
   rw[LU,LL ho];simp
  |false=>
   rw[if_neg (_)]
   calc F _ _ _ ⟨⟨_,rfl⟩,g1.trans g2,?_⟩;rw[LU,LW (by rw[ho];simp)];simp
 ·rintro ρ M1 acc ⟨⟨o0,rfl⟩,g1,rfl⟩ pr hpr;let gr:=g0.trans (g1.trans (Ge.new (o:=.lst (((rws P R).filter fo).map rD)) hpr));let er:=aa (M:=M1) (a:=pr) (o:=.lst (((rws P R).filter fo).map rD));generalize ag M1 pr _=M2 at gr er⊢;clear g0 n0 fv g1 hpr;nofun;refine sC ∅ B Y λp3 M3 g3 n3 e3=>⟨_,ab e3,?_⟩
  let er:=g3 _ _ er;refine ak (f:=rD) (ys:=rws P L) (I:=λl ρ M' acc=>(∃o0 j,ρ=[o0,j,Z (.ref pr)])/\Ge M3 M'/\acc=(prL P R (l.filter fo)).map p2D) rfl ⟨⟨_,_,rfl⟩,Ge.refl,rfl⟩ (λ_ _ _ _ h=>ab (h.2.1 _ _ e3)) ?_ ?_
  ·rintro l w r ρ M4 acc e ⟨⟨o0,j,rfl⟩,G,rfl⟩;calc⟨_,rfl,λN F=>?_⟩;let IK:=ah e;let IM:=cX L w (by rw[e];simp)
   let IN:=LF fo l;let IO:=ic B U;ac_nf;refine nv ∅ ∅ λM5 z=>⟨_,rfl,?_⟩
   cases ho:fo w with
   |true=>
    rw[if_pos rfl];let J:=(G.trans z) _ _ er;calc⟨_,ab J,?_⟩;refine ak (f:=rD) (ys:=(rws P R).filter fo) (I:=λl2 ρ M' acc=>(∃j,ρ=[Z (rD w),j,Z (.ref pr)])/\M'=M5/\acc=(prL P R (l.filter fo)++l2.map λr=>(w,r)).map p2D) rfl ⟨⟨_,rfl⟩,rfl,by simp⟩ (λ_ _ _ _ h=>by rw[h.2.1];show ab J) ?_ ?_
    ·rintro l2 x r2 ρ M6 acc e2 ⟨⟨j,rfl⟩,rfl,rfl⟩;calc⟨_,rfl,λN2 IP=>?_⟩;let IS:=ah e2;let hm:(l.filter fo).length*((rws P R).filter fo).length<=729*729:=LY ∅ IO
     ac_nf;refine⟨by rw[D0];lia,by rw[h7,hH,iY,h7,D0];lia,IP _ _ _ ⟨⟨_,rfl⟩,rfl,by simp⟩⟩
    ·rintro ρ M6 acc ⟨⟨j,rfl⟩,rfl,rfl⟩;calc F _ _ _ ⟨⟨_,_,rfl⟩,G.trans z,?_⟩;rw[LU,LL ho];simp[prL,Mo]
   |false=>
    rw[if_neg (_)]
    calc F _ _ _ ⟨⟨_,_,rfl⟩,G.trans z,?_⟩;rw[LU,LW (by rw[ho];simp)];simp
  ·rintro ρ M4 acc ⟨⟨o0,j,rfl⟩,G,rfl⟩ pn O;let z:=gr.trans (g3.trans G);show q pn _ (z.trans (Ge.new O)) (aS z O) aa
def xo{k:Nat}(hk:2<=k)(B:P<=3)(hL:L<=6)(hR:R<=6)(q:∀p M',Ge M M'->M p=N2->M' p=Z (.lst ((prs P L R).map p2D))->Q (.ref p) M'):phi tab k 32 [.int L,.int R,.int P] M Q:=by
 refine al ∅ rfl rfl (ρ:=[Z _,Z _,Z _,N2,N2]) rfl ?_
 unfold d32 L2.Mi.K42.b32;nofun;refine⟨by rw[D0];lia,λpf j=>?_⟩
 let g1:=Ge.new (o:=.lst []) j;let G:=aa (M:=M) (a:=pf) (o:=.lst []);generalize ag M pf (.lst [])=M1 at g1 G⊢;nofun;refine qH ∅ B hL λp3 M3 g3 n3 e3=>⟨_,ab e3,?_⟩
 let IM:=ic B hL;let J:=ic B hR;let O:p3≠pf:=λz=>by rw[z,G]at n3;cases n3
 refine au (f:=rD) (ys:=(rws P L).filter fo) (I:=λl ρ M'=>(∃U,ρ=[Z (.int L),Z (.int R),Z (.int P),Z (.ref pf),U])/\Ge M M'/\M' p3=Z (.lst (((rws P L).filter fo).map rD))/\M' pf=Z (.lst ((prL P R l).map p2D))) rfl ⟨⟨_,rfl⟩,g1.trans g3,e3,g3 _ _ G⟩ (λ_ _ _ h=>ab h.2.2.1) ?_ ?_
 ·rintro l w r ρ M4 e ⟨⟨U,rfl⟩,Y,e4,f4⟩;calc⟨_,rfl,λF hF=>?_⟩;let IN:=ah e;nofun;calc⟨⟨_,f4⟩,?_⟩;refine qH ∅ B hR λp5 M5 fv n5 e5=>⟨_,ab e5,?_⟩
  refine ak (f:=rD) (ys:=(rws P R).filter fo) (I:=λl2 ρ M' acc=>(∃o0,ρ=[o0,Z (rD w)])/\M'=M5/\acc=(l2.map λr=>(w,r)).map p2D) rfl ⟨⟨_,rfl⟩,rfl,rfl⟩ (λ_ _ _ _ h=>by rw[h.2.1];show ab e5) ?_ ?_
  ·rintro l2 x r2 ρ M6 acc e2 ⟨⟨o1,rfl⟩,rfl,rfl⟩;calc⟨_,rfl,λN2 IK=>?_⟩;let IO:=ah e2;ac_nf;refine⟨by rw[D0];lia,by rw[h7,h7,D0];lia,IK _ _ _ ⟨⟨_,rfl⟩,rfl,by simp⟩⟩
  ·rintro ρ M6 acc ⟨⟨o1,rfl⟩,rfl,rfl⟩ pe hpe;let gp:=Ge.new (o:=.lst ((((rws P R).filter fo).map λr=>(w,r)).map p2D)) hpe;let hm:l.length*((rws P R).filter fo).length<=729*729:=LY ∅ J
   refine⟨pf,pe,_,_,rfl,rfl,gp _ _ (fv _ _ f4),aa,by rw[h7,h7,h7,iY,D0];lia,?_⟩
   refine hF _ _ ⟨⟨_,rfl⟩,(Y.trans (fv.trans gp)).upd j,by rw[av O];show gp _ _ (fv _ _ e4),?_⟩
   rw[aa];simp[prL,Mo]
 ·rintro ρ M4 ⟨⟨U,rfl⟩,Y,e4,f4⟩;dsimp only;nofun;show q pf M4 Y j f4
abbrev tst(P R:Nat)(tabs:List (List Int))(t:Tm):List (List Int):=tabs.set t.1.1.toNat (((tabs[t.1.1.toNat]?).getD []).set (t.1.2.1*R+t.1.2.2).toNat (t.2%P))
abbrev tbs(P n R many:Nat)(ts:List Tm):List (List Int):=ts.foldl (tst P R) (I7 many (I7 n 0))
variable{many:Nat}{ts:List Tm}
def jA{n:Nat}{t:Tm}:tbs P n R many (ts++[t])=tst P R (tbs P n R many ts) t:=by unfold tbs;rw[Ov];rfl
structure TI'(L R many:Nat)(t:Tm):Prop where
 k:0<=t.1.1/\t.1.1<many
 i:0<=t.1.2.1/\t.1.2.1<L
 j:0<=t.1.2.2/\t.1.2.2<R
variable{tabs:List (List Int)}
def E5(F:0<P){t:Tm}(z:TI' L R many t)(B:tabs.length=many)(j:∀v∈tabs,Vr P (L*R) v):(tst P R tabs t).length=many/\∀v∈tst P R tabs t,Vr P (L*R) v:=by
 refine⟨by unfold tst;rw[Pq];show B,λv hm=>?_⟩
 unfold tst at hm
 rcases RN hm with h|h
 ·show j v h
 ·let q:t.1.1.toNat<tabs.length:=by let:=z.k;lia
  rw[z4 q,Pa]at h;let h0:=j _ (Nm q);rw[h];refine⟨by rw[Pq];show h0.len,λx hx=>?_⟩
  rcases RN hx with hx|hx
  ·show h0.inn x hx
  ·rw[hx];show⟨Nb _ ∅,Mv _ ∅⟩
def cj(q:0<P)(j:∀t∈ts,TI' L R many t):(tbs P (L*R) R many ts).length=many/\∀v∈tbs P (L*R) R many ts,Vr P (L*R) v:=by
 let:∀(ts:List Tm) (tabs:List (List Int)),(∀t∈ts,TI' L R many t)->tabs.length=many->(∀v∈tabs,Vr P (L*R) v)->(ts.foldl (tst P R) tabs).length=many/\∀v∈ts.foldl (tst P R) tabs,Vr P (L*R) v:=by
  intro ts
  induction ts with
  |nil=>intro tabs _ h1 h2;show⟨h1,h2⟩
  |cons t ts ih=>intro tabs j h1 h2;let⟨a,b⟩:=E5 q (j t Ld) h1 h2;show ih _ (λx hx=>j x (L4 _ hx)) a b
 show this ts _ j (_) λv z=>by rw[My z];show iQ q
variable{i:Nat}
def An(h:i<L):ixN L (i:Nat)=Z i:=by unfold ixN;rw[if_pos ∅,if_pos ∅,Li]
variable{j:Nat}
def E6{l:List Wk}(h:l.Nodup)(hi:i<l.length)(q:j<l.length)(e:l[i]=l[j]):i=j:=by
 let z:=RI.mp (LS.mp h)
 rcases UO i j with k|k|k
 ·show absurd e (z i j hi q k)
 ·show k
 ·show absurd e.symm (z j i q hi k)
structure TS(qs:List Wk)(tabs:List (List Int))(M:Mem):Prop where
 len:qs.length=tabs.length
 nd:qs.Nodup
 at':∀(k:Nat) q v,qs[k]?=Z q->tabs[k]?=Z v->M q=Z (.lst (v.map .int))
variable{qs:List Wk}{w:List Int}
def TS.put(h:TS qs tabs M){k:Nat}{q:Wk}(G:qs[k]?=Z q)(J:tabs[k]?=Z v):TS qs (tabs.set k w) (ag M q (.lst (w.map .int))) where
 len:=by rw[Pq];show h.len
 nd:=h.nd
 at':=λk' q' v' j B=>by
  by_cases e:k'=k
  ·subst e;rw[G]at j;cases j;rw[Nx ((L5.mp J).1)]at B
   cases B
   show aa
  ·rw[Oe (fun z=>e z.symm)]at B;let F:q'≠q:=fun z=>by
    subst z;let⟨h1,L⟩:=L5.mp G;let⟨h2,O⟩:=L5.mp j;show e (E6 h.nd h2 h1 (O.trans L.symm))
   rw[av F];show h.at' k' q' v' j B
variable{N:NC}
def sF(L:tabs.length<=1000)(G:∀v∈tabs,v.length<=1000)(h:TS qs tabs M){chk:Mem->Prop}(J:chk M){o0:Option D}(q:∀ρ,N ρ M (tabs.map rD)):
 be (bb 0) (bN (wAr gU (aP (aY 0) bx))) chk N (qs.map .ref) [o0] M []:=by
 refine ak (f:=D.ref) (ys:=qs) (I:=λl ρ M' acc=>(∃o0,ρ=[o0])/\M'=M/\acc=(tabs.take l.length).map rD) rfl ⟨⟨_,rfl⟩,rfl,rfl⟩ (λ_ _ _ _ h=>by rw[h.2.1];show J) ?_ ?_
 ·rintro l x r ρ M1 acc e ⟨⟨o0,rfl⟩,rfl,rfl⟩;calc⟨_,rfl,λN' z=>?_⟩;let B:=ah e;let hx:qs[l.length]?=Z x:=by rw[e];simp
  let j:l.length<tabs.length:=by rw[<-h.len];show B
  let F:tabs[l.length]?=Z tabs[l.length]:=z4 j;let ex:=h.at' _ _ _ hx F;let O:=h.len;ac_nf;refine⟨_,_,rfl,ab ex,by rw[h7,LK,D0];lia,z _ _ _ ⟨⟨_,rfl⟩,rfl,?_⟩⟩
  rw[hH,LC,NF,F,Ll];rfl
 ·rintro ρ M1 acc ⟨⟨o0,rfl⟩,rfl,rfl⟩;rw[Nk (by rw[h.len];show L9 _)]
  show q _
def C6{i j:Int}(hi:0<=i/\i<L)(q:0<=j/\j<R):0<=i*R+j/\i*R+j<((L*R:Nat):Int):=by
 let h1:=Int.mul_nonneg hi.1 (show(0:Int)<=R by lia)
 let h2:=Int.mul_le_mul_of_nonneg_right (show i<=L-1 by lia) (show(0:Int)<=R by lia)
 rw[Int.sub_mul]at h2
 push_cast
 lia
def E7{t:Tm}(ht:TI' L R many t)(h1:tabs.length=many)(h2:∀v∈tabs,Vr P (L*R) v)(U:TS qs tabs M):
 ∃(q:Wk) (v:List Int) (z:Nat),atI (qs.map D.ref) t.1.1=Z (.ref q)/\q∈qs/\M q=Z (.lst (v.map .int))/\ixN (v.map D.int).length (t.1.2.1*R+t.1.2.2)=Z z/\TS qs (tst P R tabs t) (ag M q (.lst ((v.map D.int).set z (.int (t.2%P))))):=by
 let⟨Y,fv,IK⟩:=ht;let hlen:=U.len;let⟨k,F⟩:=Mk Y.1;let G:k<qs.length:=∅
 let J:k<tabs.length:=∅
 let j:=z4 G;let B:=z4 J;let ea:=U.at' k _ _ j B;let IM:=(h2 _ (Nm J)).len;let O:=C6 fv IK;let⟨z,hz⟩:=Mk O.1;let IN:z<(tabs[k]).length:=by rw[IM];lia
 refine⟨qs[k],tabs[k],z,by rw[F];show bJ (by rw[Lp,j];rfl),Nm G,ea,?_,?_⟩
 ·rw[hz];show An (by rw[h7];show IN)
 ·let:=U.put (w:=(tabs[k]).set z (t.2%P)) j B;unfold tst;rw[F,hz,Li,Li,B,Pa,<-show((tabs[k]).set z (t.2%P)).map D.int=_ from List.map_set];show this
def ny{k:Nat}(Y:1<=k)(hP:0<P/\P<=3)(hL:L<=6)(hR:R<=6)(hm:many<=10)(ht:∀t∈ts,TI' L R many t){p:Wk}(hp:M p=Z (.lst (ts.map tmD)))(q:∀pt M',Ge M M'->M pt=N2->M' pt=Z (.lst ((tbs P (L*R) R many ts).map rD))->Q (.ref pt) M'):phi tab k 10 [.tup [.int L,.int R,.int many,.ref p],.int P] M Q:=by
 let hn:L*R<=6*6:=LY hL hR;refine al ∅ rfl rfl (ρ:=[Z _,Z _,N2,N2,N2,N2,N2,N2,N2,N2,N2]) rfl ?_
 unfold d10 L2.Mi.K42.b10;nofun;nofun;refine⟨∅,∅,?_⟩
 rw[Li];refine ak (f:=λi=>D.int (i:Nat)) (ys:=Lc many) (I:=λl ρ M' acc=>(∃o0,ρ=[o0,Z (.int L),Z (.int R)])/\Ge M M'/\∃qs:List Wk,acc=qs.map .ref/\TS qs (I7 l.length (I7 (L*R) 0)) M'/\∀q∈qs,M q=N2) aC ⟨⟨_,rfl⟩,Ge.refl,[],rfl,⟨rfl,by simp,λk q v h=>by simp at h⟩,by simp⟩ (λ_ _ _ _ _=>trivial) ?_ ?_
 ·rintro l x r ρ fv acc e ⟨⟨o0,rfl⟩,g1,qs,rfl,j,hq⟩;calc⟨_,rfl,λN hN=>?_⟩;let IP:=ah e;rw[Lq]at IP;let IK:=j.len;rw[N5]at IK;ac_nf;refine⟨by rw[D0];lia,λp0 IQ=>⟨dA ∅,?_⟩⟩
  rw[<-Px];refine⟨_,aa,∅,∅,by rw[D0];simp;lia,λp1 IM=>?_⟩
  rw[Li,gE];let IN:=Ge.new (o:=.lst [.int 0]) IQ;let g2:=IN.trans (Ge.new (o:=.lst ((I7 (L*R) (0:Int)).map D.int)) IM);let e2:=aa (M:=ag fv p0 (.lst [.int 0])) (a:=p1) (o:=.lst ((I7 (L*R) (0:Int)).map D.int));generalize ag (ag fv p0 (.lst [.int 0])) p1 _=M2 at g2 e2⊢;let n1:=aS IN IM;refine⟨by rw[h7,D0];lia,hN _ _ _ ⟨⟨_,rfl⟩,g1.trans g2,qs++[p1],by simp,⟨by simp[IK],?_,?_⟩,?_⟩⟩
  ·rw[OW];refine⟨j.nd,by simp,λa G b hb=>?_⟩
   rw[LD.mp hb];intro z;let⟨k,Y⟩:=Nv G;let J:k<l.length:=by let:=(L5.mp Y).1;lia
   let:=j.at' k a (I7 (L*R) 0) Y (by rw[Mb,if_pos J])
   rw[z,n1]at this;cases this
  ·intro k q v h1 h2;rw[Mb]at h2
   split at h2
   ·cases h2
    by_cases hkl:k<qs.length
    ·rw[L8 hkl]at h1;show g2 _ _ (j.at' k q _ h1 (by rw[Mb,if_pos ∅]))
    ·rw[L3 ∅]at h1
     let:k-qs.length=0:=by let:=(L5.mp h1).1;simp at this;lia
     rw[this]at h1;cases h1;show e2
   ·cases h2
  ·intro a G
   rcases Lb.mp G with G|G
   ·show hq a G
   ·rw[LD.mp G];show aS g1 n1
 ·rintro ρ fv acc ⟨⟨o0,rfl⟩,g1,qs,rfl,j,hq⟩ pt hpt;rw[Lq]at j;let IR:pt∉qs:=fun h=>by
   let⟨k,Y⟩:=Nv h;let J:k<(I7 many (I7 (L*R) (0:Int))).length:=by rw[<-j.len];show(L5.mp Y).1
   let:=j.at' k pt _ Y (z4 J);rw[hpt]at this;cases this
  let gt:=Ge.new (o:=.lst (qs.map D.ref)) hpt;let et:=aa (M:=fv) (a:=pt) (o:=.lst (qs.map D.ref));let j:TS qs (tbs P (L*R) R many []) (ag fv pt (.lst (qs.map D.ref))):=⟨j.len,j.nd,λk q v h1 h2=>gt _ _ (j.at' k q v h1 h2)⟩;let g2:=g1.trans gt;let IW:=aS g1 hpt;generalize ag fv pt _=M2 at g2 et j⊢;nofun;calc⟨_,ab (g2 _ _ hp),?_⟩;refine au (f:=tmD) (ys:=ts) (I:=λl ρ M'=>(∃o7 o8 o9 O,ρ=[Z _,Z (.int P),Z (.int L),Z (.int R),Z (.int many),Z (.ref p),Z (.ref pt),o7,o8,o9,O])/\Ge M M'/\M' pt=Z (.lst (qs.map .ref))/\TS qs (tbs P (L*R) R many l) M') rfl ⟨⟨_,_,_,_,rfl⟩,g2,et,j⟩ (λ_ _ _ h=>ab (h.2.1 _ _ hp)) ?_ ?_
  ·rintro l t r ρ M3 e ⟨⟨o7,o8,o9,O,rfl⟩,g3,B,U⟩;calc⟨_,rfl,λF hF=>?_⟩;let⟨IS,IT,IU⟩:=ht t (by rw[e];simp)
   nofun;let⟨h1,h2⟩:=cj hP.1 (ts:=l) (λt IV=>ht t (by rw[e];simp[IV]))
   let⟨a,v,z,c1,c2,c3,c4,c5⟩:=E7 (P:=P) ⟨IS,IT,IU⟩ h1 h2 U;refine⟨∅,aI B c1 ⟨dA ∅,bH c3 c4 (hF _ _ ⟨⟨_,_,_,_,rfl⟩,g3.upd (hq a c2),?_,by rw[jA];show c5⟩)⟩⟩
   rw[av λz=>IR (by rw[z];show c2)];show B
  ·rintro ρ M3 ⟨⟨o7,o8,o9,O,rfl⟩,g3,B,U⟩;dsimp only;nofun;let hb:=cj hP.1 ht;calc⟨_,ab B,sF ∅ (λv hv=>by rw[(hb.2 v hv).len];lia) U (ab B) λρ pn IO=>q pn _ (g3.trans (Ge.new IO)) (aS g3 IO) aa⟩
def uM{k:Nat}(Y:1<=k)(hP:0<P/\P<=3)(hL:L<=6)(hR:R<=6)(hm:many<=10)(ht:∀t∈ts,TI' L R many t){p:Wk}(hp:M p=Z (.lst (ts.map tmD)))(q:∀pt M',Ge M M'->M pt=N2->M' pt=Z (.lst ((tbs P (L*R) R many ts).map rD))->Q (.ref pt) M'):phi tab k 34 [.tup [.int L,.int R,.int many,.ref p],.int P] M Q:=by
 let hn:L*R<=6*6:=LY hL hR;refine al ∅ rfl rfl (ρ:=[Z _,Z _,N2,N2,N2,N2,N2]) rfl ?_
 unfold d34 L2.Mi.K42.b34;nofun;refine⟨_,rfl,_,rfl,∅,∅,?_⟩
 rw[Li];refine ak (f:=λi=>D.int (i:Nat)) (ys:=Lc many) (I:=λl ρ M' acc=>(∃o0,ρ=[o0,Z (.tup [.int L,.int R,.int many,.ref p])])/\Ge M M'/\∃qs:List Wk,acc=qs.map .ref/\TS qs (I7 l.length (I7 (L*R) 0)) M'/\∀q∈qs,M q=N2) aC ⟨⟨_,rfl⟩,Ge.refl,[],rfl,⟨rfl,by simp,λk q v h=>by simp at h⟩,by simp⟩ (λ_ _ _ _ _=>trivial) ?_ ?_
 ·rintro l x r ρ fv acc e ⟨⟨o0,rfl⟩,g1,qs,rfl,j,hq⟩;calc⟨_,rfl,λN hN=>?_⟩;let IP:=ah e;rw[Lq]at IP;let IK:=j.len;rw[N5]at IK;ac_nf;refine⟨by rw[D0];lia,λp0 IQ=>⟨_,rfl,_,rfl,?_⟩⟩
  ac_nf;refine⟨dA ∅,?_⟩
  rw[<-Px];refine⟨_,aa,∅,∅,by rw[D0];simp;lia,λp1 IM=>?_⟩
  rw[Li,gE];let IN:=Ge.new (o:=.lst [.int 0]) IQ;let g2:=IN.trans (Ge.new (o:=.lst ((I7 (L*R) (0:Int)).map D.int)) IM);let e2:=aa (M:=ag fv p0 (.lst [.int 0])) (a:=p1) (o:=.lst ((I7 (L*R) (0:Int)).map D.int));generalize ag (ag fv p0 (.lst [.int 0])) p1 _=M2 at g2 e2⊢;let n1:=aS IN IM;refine⟨by rw[h7,D0];lia,hN _ _ _ ⟨⟨_,rfl⟩,g1.trans g2,qs++[p1],by simp,⟨by simp[IK],?_,?_⟩,?_⟩⟩
  ·rw[OW];refine⟨j.nd,by simp,λa G b hb=>?_⟩
   rw[LD.mp hb];intro z;let⟨k,Y⟩:=Nv G;let J:k<l.length:=by let:=(L5.mp Y).1;lia
   let:=j.at' k a (I7 (L*R) 0) Y (by rw[Mb,if_pos J])
   rw[z,n1]at this;cases this
  ·intro k q v h1 h2;rw[Mb]at h2
   split at h2
   ·cases h2
    by_cases hkl:k<qs.length
    ·rw[L8 hkl]at h1;show g2 _ _ (j.at' k q _ h1 (by rw[Mb,if_pos ∅]))
    ·rw[L3 ∅]at h1
     let:k-qs.length=0:=by let:=(L5.mp h1).1;simp at this;lia
     rw[this]at h1;cases h1;show e2
   ·cases h2
  ·intro a G
   rcases Lb.mp G with G|G
   ·show hq a G
   ·rw[LD.mp G];show aS g1 n1
 ·rintro ρ fv acc ⟨⟨o0,rfl⟩,g1,qs,rfl,j,hq⟩ pt hpt;rw[Lq]at j;let IR:pt∉qs:=fun h=>by
   let⟨k,Y⟩:=Nv h;let J:k<(I7 many (I7 (L*R) (0:Int))).length:=by rw[<-j.len];show(L5.mp Y).1
   let:=j.at' k pt _ Y (z4 J);rw[hpt]at this;cases this
  let gt:=Ge.new (o:=.lst (qs.map D.ref)) hpt;let et:=aa (M:=fv) (a:=pt) (o:=.lst (qs.map D.ref));let j:TS qs (tbs P (L*R) R many []) (ag fv pt (.lst (qs.map D.ref))):=⟨j.len,j.nd,λk q v h1 h2=>gt _ _ (j.at' k q v h1 h2)⟩;let g2:=g1.trans gt;let IW:=aS g1 hpt;generalize ag fv pt _=M2 at g2 et j⊢;nofun;calc⟨_,rfl,_,ab (g2 _ _ hp),?_⟩;refine au (f:=tmD) (ys:=ts) (I:=λl ρ M'=>(∃o7 o8 o9 O,ρ=[Z (.tup [.int L,.int R,.int many,.ref p]),Z (.int P),Z (.ref pt),o7,o8,o9,O])/\Ge M M'/\M' pt=Z (.lst (qs.map .ref))/\TS qs (tbs P (L*R) R many l) M') rfl ⟨⟨_,_,_,_,rfl⟩,g2,et,j⟩ (λ_ _ _ h=>ab (h.2.1 _ _ hp)) ?_ ?_
  ·rintro l t r ρ M3 e ⟨⟨o7,o8,o9,O,rfl⟩,g3,B,U⟩;calc⟨_,rfl,λF hF=>?_⟩;let⟨IS,IT,IU⟩:=ht t (by rw[e];simp)
   nofun;let⟨h1,h2⟩:=cj hP.1 (ts:=l) (λt IV=>ht t (by rw[e];simp[IV]))
   let⟨a,v,z,c1,c2,c3,c4,c5⟩:=E7 (P:=P) ⟨IS,IT,IU⟩ h1 h2 U;refine⟨∅,aI B c1 ⟨_,rfl,?_⟩⟩
   ac_nf;refine⟨dA ∅,bH c3 c4 (hF _ _ ⟨⟨_,_,_,_,rfl⟩,g3.upd (hq a c2),?_,by rw[jA];show c5⟩)⟩
   rw[av λz=>IR (by rw[z];show c2)];show B
  ·rintro ρ M3 ⟨⟨o7,o8,o9,O,rfl⟩,g3,B,U⟩;dsimp only;nofun;let hb:=cj hP.1 ht;calc⟨_,ab B,sF ∅ (λv hv=>by rw[(hb.2 v hv).len];lia) U (ab B) λρ pn IO=>q pn _ (g3.trans (Ge.new IO)) (aS g3 IO) aa⟩
def nA(a b:List Int):Pm gd (a.map .int) (b.map .int)=(a.zip b).map λxy=>.tup [.int xy.1,.int xy.2]:=by rw[List.zipWith_map,TU,Vb];rfl
variable{u:List Int}
def xp{p t:Int}:cb p t u v=(u.zip v).map λxy=>(xy.1+t*xy.2)%p:=by unfold cb;rw[TU,Vb]
def qI{P:Nat}{e:Nat×List Int}:∀{bs:List (Nat×List Int)} {r:List Int},wo P (bs++[e]) r=cb P (-(gf (wo P bs r) e.1)) (wo P bs r) e.2
 |[],r=>rfl
 |b::bs,r=>qI (bs:=bs)
def GE{n:Nat}(z:0<P)(j:Vr P n u)(q:Vr P n v):cb P 0 u v=u:=by
 refine(dN ∅ j.len q.len).ext j λx hx=>?_
 let:=dr (p:=P) (t:=0) j.len q.len hx;rw[<-Qm]at this
 rwa[show -(gf u x+0*gf v x-gf (cb P 0 u v) x)=gf (cb P 0 u v) x-gf u x by lia]at this
noncomputable abbrev eD(e:Nat×List Int):D:=.tup [.int e.1,rD e.2]
variable{c:Int}
def E8(L:0<P)(O:u.length<=1000){chk:Mem->Prop}(F:chk M)(G:∀x∈v,0<=x/\x<3)(q:∀ρ,N ρ M ((cb P (-c) u v).map .int)):
 be (pj (bM (bb 0) (bM (bb 1) fZ))) (bN (wOp gT (wOp kW (aY 0) (wOp fw (aY 2) (aY 1))) (aY 3))) chk N (Pm gd (u.map .int) (v.map .int)) [N2,N2,Z (.int c),Z (.int P)] M []:=by
 refine ak (I:=λl' ρ M' acc=>(∃z B,ρ=[z,B,Z (.int c),Z (.int P)])/\M'=M/\acc=(l'.map λxy=>(xy.1 + -c*xy.2)%P).map .int) (ys:=u.zip v) (f:=λxy=>.tup [.int xy.1,.int xy.2]) (nA _ _) ⟨⟨_,_,rfl⟩,rfl,rfl⟩ (λ_ _ _ _ h=>by rw[h.2.1];show F) ?_ ?_
 ·rintro l' xy r' ρ M5 acc e' ⟨⟨z,B,rfl⟩,rfl,rfl⟩;calc⟨_,rfl,fun N J=>?_⟩;ac_nf;let j:=ah e';rw[Vy]at j;let hs:xy.2∈v:=by
   let:xy∈u.zip v:=by rw[e'];simp
   show(Qa this).2
  let hs:=G _ hs;refine⟨gD ∅,∅,by simp[D0];lia,J _ _ _ ⟨⟨_,_,rfl⟩,rfl,?_⟩⟩
  rw[Ll,Ll];simp only[Lj,Np];rw[show xy.1 + -c*xy.2=xy.1-c*xy.2 by rw[Int.neg_mul];lia]
 ·rintro ρ M5 acc ⟨_,rfl,rfl⟩;let:=q ρ
  rwa[xp]at this
def E9(L:0<P)(O:u.length<=1000){chk:Mem->Prop}(F:chk M)(G:∀x∈v,0<=x/\x<3)(q:∀ρ,N ρ M ((cb P c u v).map .int)):
 be (pj (bM (bb 0) (bM (bb 1) fZ))) (bN (wOp gT (wOp fu (aY 0) (wOp fw (aY 2) (aY 1))) (aY 3))) chk N (Pm gd (u.map .int) (v.map .int)) [N2,N2,Z (.int c),Z (.int P)] M []:=by
 refine ak (I:=λl' ρ M' acc=>(∃z B,ρ=[z,B,Z (.int c),Z (.int P)])/\M'=M/\acc=(l'.map λxy=>(xy.1+c*xy.2)%P).map .int) (ys:=u.zip v) (f:=λxy=>.tup [.int xy.1,.int xy.2]) (nA _ _) ⟨⟨_,_,rfl⟩,rfl,rfl⟩ (λ_ _ _ _ h=>by rw[h.2.1];show F) ?_ ?_
 ·rintro l' xy r' ρ M5 acc e' ⟨⟨z,B,rfl⟩,rfl,rfl⟩;calc⟨_,rfl,fun N J=>?_⟩;ac_nf;let j:=ah e';rw[Vy]at j;let hs:xy.2∈v:=by
   let:xy∈u.zip v:=by rw[e'];simp
   show(Qa this).2
  let hs:=G _ hs;show⟨gD ∅,∅,by simp[D0];lia,J _ _ _ ⟨⟨_,_,rfl⟩,rfl,by simp⟩⟩
 ·rintro ρ M5 acc ⟨_,rfl,rfl⟩;let:=q ρ
  rwa[xp]at this
variable{base:List (Nat×List Int)}
def gJ{k:Nat}(hk:1<=k){n:Nat}(U:0<P/\P<=3)(hn:n<=100)(Y:∀e∈base,Vr P n e.2)(hp:∀e∈base,e.1<n)(hv:Vr P n v)(ea:M a=Z (.lst (base.map eD)))(q:∀M',Ge M M'->Q (rD (wo P base v)) M'):phi tab k 11 [rD v,.ref a,.int P] M Q:=by
 refine al ∅ rfl rfl (ρ:=[Z _,Z _,Z _,N2,N2,N2]) rfl ?_
 unfold d11 L2.Mi.K42.b11;nofun;calc⟨_,ab ea,?_⟩;refine au (f:=eD) (ys:=base) (I:=λl ρ M'=>(∃B G J,ρ=[Z (rD (wo P l v)),Z (.ref a),Z (.int P),B,G,J])/\Ge M M') rfl ⟨⟨_,_,_,rfl⟩,Ge.refl⟩ (λ_ _ _ h=>ab (h.2 _ _ ea)) ?_ ?_
 ·rintro l e r ρ M1 es ⟨⟨B,G,J,rfl⟩,g1⟩;calc⟨_,rfl,λF fv=>?_⟩;let z:Vr P n (wo P l v):=dO U.1 (λx hx=>Y x (by rw[es];simp[hx])) hv
  let he:=Y e (by rw[es];simp)
  let j:=hp e (by rw[es];simp)
  let IK:=z.at j;nofun;refine⟨_,bJ (by rw[Lp,az (by rw[z.len];show j)];rfl),?_⟩
  nofun
  by_cases L:gf (wo P l v) e.1=0
  ·rw[L];simp;calc fv _ _ ⟨?_,g1⟩;rw[qI,L,Int.neg_zero,GE U.1 z he];show⟨_,_,_,rfl⟩
  ·rw[if_pos (by simpa using L)]
   nofun;refine E8 ∅ (by let:=z.len;lia) trivial (c:=gf (wo P l v) e.1) (λx hx=>by let:=he.inn x hx;lia) λρ p O=>⟨_,_,rfl,ab aa,fv _ _ ⟨?_,g1.trans (Ge.new O)⟩⟩
   rw[qI];show⟨_,_,_,rfl⟩
 ·rintro ρ M1 ⟨⟨B,G,J,rfl⟩,g1⟩;dsimp only;nofun;show q _ g1
def zM(ns:List Int):cK (ns.map .int)=ns.zipIdx.map λp=>.tup [.int (p.2:Nat),.int p.1]:=by
 unfold cK;apply NV;intro i;rw[OU,Lp,Lp,NQ]
 cases ns[i]?<;>simp
def jB:∀ns:List Int,ax lj (ns.map .int)=Z (ns.map λx=>x != 0)
 |[]=>rfl
 |x::r=>by rw[Lj,ax,jB r];rfl
def qJ{n:Nat}(j:Vr P n v):(v.map λx=>x != 0).any id=Wj↔v=I7 n 0:=by
 constructor
 ·intro h;rw[Ur]at h;rw[QH];calc⟨j.len,λx hx=>?_⟩;let:=h (x != 0) (LJ hx);simpa using this
 ·rintro rfl;simp
def Ea{n pl:Nat}(L:0<P)(O:w.length<=100)(j:pl<n)(hw:Vr P n w)(B:P<=3){chk:Mem->Prop}(F:chk M)(q:∀ρ,N ρ M ((w.map λx=>(gf w pl*x)%P).map .int)):
 be (bb 0) (bN (wOp gT (wOp fw (wOp wIx (aY 1) (aY 2)) (aY 0)) (aY 3))) chk N (w.map .int) [N2,Z (rD w),Z (.int pl),Z (.int P)] M []:=by
 refine ak (f:=D.int) (ys:=w) (I:=λl ρ M' acc=>(∃o0,ρ=[o0,Z (rD w),Z (.int pl),Z (.int P)])/\M'=M/\acc=(l.map λx=>(gf w pl*x)%P).map .int) rfl ⟨⟨_,rfl⟩,rfl,rfl⟩ (λ_ _ _ _ h=>by rw[h.2.1];show F) ?_ ?_
 ·rintro l x r ρ M1 acc e ⟨⟨o0,rfl⟩,rfl,rfl⟩;calc⟨_,rfl,λN' z=>?_⟩;let G:=ah e;let J:=hw.at j;ac_nf;refine⟨_,bJ (by rw[Lp,az (by rw[hw.len];show j)];rfl),?_⟩
  ac_nf;refine⟨dA ∅,∅,by simp[D0];lia,z _ _ _ ⟨⟨_,rfl⟩,rfl,by simp⟩⟩
 ·rintro ρ M1 acc ⟨⟨o0,rfl⟩,rfl,rfl⟩;show q _
def xq(h:rD u=rD v):u=v:=by let h:=D.tup.inj h;show(List.map_inj_right λa b e=>D.int.inj e).mp h
abbrev kv(u:List Int):D×D:=(rD u,.bl Wi)
def eU:∀{v:List Int},v≠[]->bO (rD v)=Wi
 |[],h=>absurd rfl h
 |[_],_=>rfl
 |[_,_],_=>rfl
 |[_,_,_],_=>rfl
 |a::b::c::d::r,_=>by
  let:∀r:List Int,(r.map D.int).all dE=Wi:=λr=>by rw[List.all_map,OG];intro x _;rfl
  change((D.int a::D.int b::D.int c::D.int d::r.map D.int).all dE&&Wi)=Wi;rw[Bool.and_true];show this (a::b::c::d::r)
def kJ{ks:List (List Int)}:(dget (ks.map kv) (rD v)).isSome=decide (v∈ks):=by
 unfold dget;rw[RV];rw[Bool.eq_iff_iff,List.find?_isSome,decide_eq_true_iff];constructor
 ·rintro⟨p,j,e⟩;let⟨u,q,rfl⟩:=L7.mp j;rw[<-xq (of_decide_eq_true e)];show q
 ·intro h;show⟨kv v,LJ h,decide_eq_true rfl⟩
def Eb{ks:List (List Int)}(h:v∉ks):ca (ks.map kv) (rD v) (.bl Wi)=(ks++[v]).map kv:=by unfold ca;rw[if_neg,Ll];rfl;intro z;let⟨p,j,e⟩:=P9.mp z;let⟨u,q,rfl⟩:=L7.mp j;show h (by rw[<-xq (of_decide_eq_true e)];show q)
def zN{t:List Int}{l r:List (List Int)}{l2 j:List Nat}{s:Nat}(h:(nx P t (l++u::r)).Nodup)(e:Lc P=l2++s::j):cb P (s:Nat) u t∉nx P t l++nxR P t u l2:=by
 let q:nx P t (l++u::r)=(nx P t l++nxR P t u l2)++cb P (s:Nat) u t::(nxR P t u j++nx P t r):=by simp[nx,Mo,nxR,e]
 rw[q,OW]at h;showλz=>h.2.2 _ z _ Ld rfl
def nB{l:List Int}(h:fg l):Big l:=λx hx=>by let:=h x hx;lia
def C7(j:P<=3)(q:L<=6)(z:R<=6):(prs P L R).length<=729*729:=by change(prL P R ((rws P L).filter fo)).length<=_;rw[iY];show LY (ic j q) (ic j z)
def zO{k:Nat}(hk:1<=k){n:Nat}(hn:n<=100)(F:Vr P n v)(J:v≠I7 n 0)(q:∀(pl:Nat) M',pl<n->gf v pl≠0->(∀x,x<pl->gf v x=0)->Ge M M'->Q (.int pl) M'):phi tab k 13 [rD v] M Q:=by
 refine al ∅ rfl rfl (ρ:=[Z _]) rfl ?_
 unfold d13 L2.Mi.K42.b13;nofun;rw[zM];refine ak (I:=λl ρ M' acc=>(∃L O,ρ=[L,O])/\M'=M/\acc=(l.filter λp=>p.1 != 0).map λx=>.int (x.2:Nat)) (ys:=v.zipIdx) (f:=λp=>.tup [.int (p.2:Nat),.int p.1]) rfl ⟨⟨_,_,rfl⟩,rfl,rfl⟩ (λ_ _ _ _ _=>trivial) ?_ ?_
 ·rintro l x r ρ M1 acc e ⟨⟨L,O,rfl⟩,rfl,rfl⟩;let G:=ah e;rw[Oa,F.len]at G;calc⟨_,rfl,λN U=>?_⟩;ac_nf;let fv:=LF (λp:Int×Nat=>p.1 != 0) l
  split
  ·next hx=>show⟨by rw[h7,D0];lia,U _ _ _ ⟨⟨_,_,rfl⟩,rfl,by rw[LU,Ll,LL (p:=λp:Int×Nat=>p.1 != 0) (a:=x) hx];rfl⟩⟩
  ·next hx=>show U _ _ _ ⟨⟨_,_,rfl⟩,rfl,by rw[LU,LW (p:=λp:Int×Nat=>p.1 != 0) (a:=x) hx];simp⟩
 ·rintro ρ M1 acc ⟨_,rfl,rfl⟩ p hp
  cases hf:v.zipIdx.filter (λp=>p.1 != 0)with
  |nil=>
   exfalso
   apply J;rw[QH];calc⟨F.len,λx hx=>?_⟩;let⟨i,hi⟩:=Nv hx;let hm:(x,i)∈v.zipIdx:=Pz.mpr hi;let:=Pp.mp hf _ hm;simpa using this
  |cons x r=>
   let hm:x∈v.zipIdx.filter (λp=>p.1 != 0):=by rw[hf];show Ld
   let⟨hm,hx⟩:=LM.mp hm;let hi:=Pz.mp hm;let Y:x.2<v.length:=(L5.mp hi).1;let j:=az Y;rw[hi]at j;let j:=LG.inj j;let hb:∀y,y<x.2->gf v y=0:=by
    intro y hy;let⟨l₁,l₂,e,h1,_⟩:=List.filter_eq_cons_iff.mp hf;let B:v.zipIdx[l₁.length]?=Z x:=by rw[e];simp
    rw[NQ]at B;let⟨z,J,B⟩:=OB.mp B;let IK:x.2=l₁.length:=by rw[<-B];simp
    let ey:v.zipIdx[y]?=Z (gf v y,y):=by rw[NQ,az ∅];simp
    rw[e,L8 ∅]at ey
    let:=h1 _ (Lh ey);simpa using this
   calc aI aa (d:=.int x.2) (bJ (k:=0) rfl) (q _ _ (by rw[<-F.len];show Y) (by rw[<-j];simpa using hx) hb (Ge.new hp))
abbrev fi(w:List Int):Nat:=w.findIdx λx=>x != 0
def FF{n pl:Nat}(F:w.length=n)(h:pl<n)(q:gf w pl≠0)(z:∀x,x<pl->gf w x=0):fi w=pl:=by
 unfold fi;rw[List.findIdx_eq ∅]
 let e:=az (v:=w) (x:=pl) ∅
 rw[z4 ∅]at e
 refine⟨by rw[LG.inj e];simpa using q,λj B=>?_⟩
 let e:=az (v:=w) (x:=j) ∅
 rw[z4 ∅]at e
 rw[LG.inj e,z j B];rfl
abbrev gst(P:Nat)(base:List (Nat×List Int))(t:List Int):List (Nat×List Int):=if((wo P base t).map λx=>x != 0).any id=Wi then base++[(fi (wo P base t),(wo P base t).map λx=>(gf (wo P base t) (fi (wo P base t))*x)%P)]else base
abbrev Fs(base:List (Nat×List Int)):Prop:=∀e∈base,∀x,x<e.1->gf e.2 x=0
variable{A:List (Nat->Int)}
def gK{k:Nat}(hk:2<=k){n:Nat}(hP:P=2∨P=3)(hn:n<=100){j:List (Nat×List Int)}(IK:Bs P n A j)(IM:Fs j)(IO:j.length<=100){ts:List (List Int)}(hl:ts.length<=100)(ht:∀t∈ts,Vr P n t)(ea:M a=Z (.lst (j.map eD)))(eb:M b=Z (.lst (ts.map rD)))(q:∀c (base:List (Nat×List Int)) M',Bs P n (chF P n A ts) base->base=ts.foldl (gst P) j->Fs base->M c=N2->M' c=Z (.lst (base.map eD))->Ge M M'->Q (.ref c) M'):phi tab k 14 [.ref a,.ref b,.int P] M Q:=by
 let z:0<P:=∅
 refine al ∅ rfl rfl (ρ:=[Z _,Z _,Z _,N2,N2,N2,N2]) rfl ?_
 unfold d14 L2.Mi.K42.b14;nofun;calc⟨_,_,rfl,ab ea,λc hc=>?_⟩;let g1:=Ge.new (o:=.lst (j.map eD)) hc;let e1:=aa (M:=M) (a:=c) (o:=.lst (j.map eD));generalize ag M c (.lst (j.map eD))=M1 at g1 e1⊢;nofun;calc⟨_,ab (g1 _ _ eb),?_⟩;refine au (f:=rD) (ys:=ts) (I:=λl ρ M'=>(∃o4 o5 o6,ρ=[Z (.ref a),Z (.ref b),Z (.int P),Z (.ref c),o4,o5,o6])/\Ge M M'/\∃base:List (Nat×List Int),M' c=Z (.lst (base.map eD))/\Bs P n (chF P n A l) base/\base=l.foldl (gst P) j/\Fs base/\base.length<=j.length+l.length) rfl ⟨⟨_,_,_,rfl⟩,g1,j,e1,IK,rfl,IM,by simp⟩ (λ_ _ _ h=>ab (h.2.1 _ _ eb)) ?_ ?_
 ·rintro l t r ρ M2 es ⟨⟨o4,o5,o6,rfl⟩,g2,base,O,G,hg,hf,IN⟩;calc⟨_,rfl,λF hF=>?_⟩;let B:=ht t (by rw[es];simp)
  let IP:=ah es;nofun;refine gJ ∅ ⟨z,∅⟩ hn G.vr (λe he=>(G.pl e he).1) B O λM3 g3=>?_
  let hw:=dO z G.vr B;nofun;refine⟨_,_,_,rfl,rfl,jB _,⟨_,rfl,?_⟩⟩
  cases hz:((wo P base t).map λx=>x != 0).any id with
  |false=>
   rw[if_neg (_)]
   let L:=(G.out z B).mp ((qJ hw).mp hz);refine hF _ _ ⟨⟨_,_,_,rfl⟩,g2.trans g3,base,g3 _ _ O,?_,by rw[Ov,<-hg];change base=gst P base t;unfold gst;rw[hz,if_neg (_)],hf,by rw[hH];lia⟩
   rw[i7 L];show G
  |true=>
   rw[if_pos rfl];let U:wo P base t≠I7 n 0:=λh=>by rw[(qJ hw).mpr h]at hz;cases hz
   let L:¬Sp P n (chF P n A l) (gf t):=λh=>U ((G.out z B).mpr h);nofun;refine zO ∅ hn hw U λpl M4 J Y fv g4=>?_
   let IQ:=hw.at J;nofun;refine⟨⟨_,g4 _ _ (g3 _ _ O)⟩,Ea z (by let:=hw.len;lia) J hw ∅ trivial λρ pn hpn=>⟨_,_,rfl,ab aa,?_⟩⟩
   let g5:=g4.trans (Ge.new (o:=.lst (((wo P base t).map λx=>(gf (wo P base t) pl*x)%P).map .int)) hpn);refine⟨by rw[D0];lia,c,_,_,rfl,rfl,g5 _ _ (g3 _ _ O),by rw[h7,D0];lia,?_⟩
   refine hF _ _ ⟨⟨_,_,_,rfl⟩,(g2.trans (g3.trans g5)).upd hc,base++[(pl,(wo P base t).map λx=>(gf (wo P base t) pl*x)%P)],?_,?_,by rw[Ov,<-hg];change _=gst P base t;unfold gst;rw[hz,if_pos rfl,FF hw.len J Y fv],?_,?_⟩
   ·rw[aa,Ll];rfl
   ·rw[cU L];show G.step hP B J Y
   ·intro e he x hx
    rcases Lb.mp he with he|he
    ·show hf e he x hx
    ·rw[LD.mp he]at hx⊢;dsimp only at hx⊢;rw[kI (F:=λx=>(gf (wo P base t) pl*x)%P) (by rw[hw.len];lia),fv x hx];simp
   ·rw[hH,hH];simp;lia
 ·rintro ρ M2 ⟨⟨o4,o5,o6,rfl⟩,g2,base,O,G,hg,hf,IN⟩;dsimp only;nofun;show q _ _ _ G hg hf hc O g2
def qK{k:Nat}(G:2<=k){n:Nat}(J:P=2∨P=3)(F:n<=100)(z:Bs P n A base)(B:Vr P n v)(ea:M a=Z (.lst (base.map eD)))(q:∀c M',(c=Wi↔Sp P n A (gf v))->Ge M M'->Q (.bl c) M'):phi tab k 12 [rD v,.ref a,.int P] M Q:=by
 let j:0<P:=∅
 refine al ∅ rfl rfl (ρ:=[Z _,Z _,Z _]) rfl ?_
 unfold d12 L2.Mi.K42.b12;nofun;refine gJ ∅ ⟨j,∅⟩ F z.vr (λe he=>(z.pl e he).1) B ea λL g3=>?_
 let hw:=dO j z.vr B;calc⟨_,_,_,rfl,rfl,jB _,?_⟩;calc⟨_,rfl,q _ _ ?_ g3⟩;rw[MZ,qJ hw,z.out j B]
structure Kd(d:Wk)(kvs:List (D×D))(M M':Mem):Prop where
 kp:∀a o,a≠d->M a=Z o->M' a=Z o
 df:DF M' d Wi kvs
variable{d:Wk}{kvs:List (D×D)}
def Kd.refl(h:DF M d Wi kvs):Kd d kvs M M:=⟨λ_ _ _ e=>e,h⟩
def DF.ge{t:Bool}(h:DF M d t kvs)(g:Ge M M'):DF M' d t kvs:=h.imp (g _ _) λz=>⟨z.1,g _ _ z.2⟩
def Kd.ge{M'':Mem}(h:Kd d kvs M M')(g:Ge M' M''):Kd d kvs M M'':=⟨λa o n e=>g _ _ (h.kp a o n e),DF.ge h.df g⟩
def Kd.trans{M'':Mem}(h:Kd d kvs M M')(g:Kd d kvs M' M''):Kd d kvs M M'':=⟨λa o n e=>g.kp a o n (h.kp a o n e),g.df⟩
def DF.ne{t:Bool}(h:DF M d t kvs)(e:M a=N2):a≠d:=λz=>by
 rw[z]at e
 rcases h with h|h
 ·rw[e]at h;cases h
 ·rw[e]at h;cases h.2
def Kd.none(h:Kd d kvs M M')(e:M' a=N2):M a=N2:=by
 cases q:M a with
 |none=>rfl
 |some o=>rw[h.kp a o (DF.ne h.df e) q]at e;cases e
def Ec{t:TSd}{A:bh}{ρ:ar}(e:ρ[i]?=Z (Z (.ref a)))(m:DF M a Wi kvs)(h:∀M',(∀b o,b≠a->M b=Z o->M' b=Z o)->M' a=Z (.fdc kvs)->t A ρ M'):jl i t A ρ M:=by
 rcases m with m|⟨_,m⟩
 ·show lr e m (h _ (λb o n q=>by rw[av n];show q) aa)
 ·show BP e m (h _ (λb o n q=>q) m)
def lU{k:Nat}(hk:1<=k){n:Nat}(hP:P=2∨P=3)(hn:1<=n/\n<=100){keys:List (List Int)}{t:List Int}(hl:keys.length<=100000)(hv:∀u∈keys,u.length=n)(ht:Vr P n t)(L:(nx P t keys).Nodup)(ed:DF M d Wi (keys.map kv))(q:∀f M',Kd d (keys.map kv) M M'->M f=N2->M' f=Z (.dct Wi ((nx P t keys).map kv))->Q (.ref f) M'):phi tab k 35 [.ref d,rD t,.int P] M Q:=by
 let IK:0<P:=∅
 refine al ∅ rfl rfl (ρ:=[Z _,Z _,Z _,N2,N2,N2]) rfl ?_
 unfold d35 L2.Mi.K42.b35;nofun;intro f hf;let fv:=Ge.new (o:=.dct Wi []) hf;let e0:=aa (M:=M) (a:=f) (o:=.dct Wi []);let O:f≠d:=DF.ne ed hf;let j:=DF.ge ed fv;generalize ag M f (.dct Wi [])=M0 at fv e0 j⊢;nofun;calc Ec rfl j λM1 k1 fd=>?_;let e1:=k1 _ _ O e0;let k1:∀a o,a≠d->M a=Z o->M1 a=Z o:=λa o n e=>k1 _ _ n (fv _ _ e);clear fv e0 j;ac_nf;calc⟨_,fd,?_⟩;refine au (f:=rD) (ys:=keys) (I:=λl ρ M'=>(∃o4 B,ρ=[Z (.ref d),Z (rD t),Z (.int P),Z (.ref f),o4,B])/\(∀a o,a≠d->M a=Z o->M' a=Z o)/\M' d=Z (.fdc (keys.map kv))/\M' f=Z (.dct Wi ((nx P t l).map kv))) (by rw[N1];rfl) ⟨⟨_,_,rfl⟩,k1,fd,e1⟩ (λ_ _ _ _=>by first|rfl|trivial) ?_ ?_
 ·rintro l u r ρ M2 es ⟨⟨o4,B,rfl⟩,k2,G,e2⟩;calc⟨_,rfl,λF hF=>?_⟩;let IO:=ah es;let hu:=hv u (by rw[es];simp)
  nofun;refine⟨∅,∅,?_⟩
  rw[Li];refine au (f:=λi=>D.int (i:Nat)) (ys:=Lc P) (I:=λl2 ρ M'=>(∃B,ρ=[Z (.ref d),Z (rD t),Z (.int P),Z (.ref f),Z (rD u),B])/\(∀a o,a≠d->M a=Z o->M' a=Z o)/\M' d=Z (.fdc (keys.map kv))/\M' f=Z (.dct Wi ((nx P t l++nxR P t u l2).map kv))) aC ⟨⟨_,rfl⟩,k2,G,by simpa[nxR]using e2⟩ (λ_ _ _ _=>by first|rfl|trivial) ?_ ?_
  ·rintro l2 s r2 ρ M3 es2 ⟨⟨B,rfl⟩,k3,J,e3⟩;calc⟨_,rfl,λF2 IM=>?_⟩;let IN:=ah es2;rw[Lq]at IN;rw[es]at L;let U:=zN L es2;nofun;refine E9 IK ∅ (by trivial) (λx hx=>by let:=ht.inn x hx;lia) λρ pn hpn=>⟨_,_,rfl,ab aa,?_⟩
   let gn:=Ge.new (o:=.lst ((cb P (s:Nat) u t).map .int)) hpn;let Y:=(dN (p:=P) (t:=(s:Nat)) ∅ hu ht.len).len
   refine qc (gn _ _ e3) (eU (λz=>by rw[z]at Y;simp at Y;lia)) (by rw[h7,hH,qt,D0];unfold nxR;rw[h7];rcases hP with rfl|rfl<;>lia) ?_
   rw[Eb U];refine IM _ _ ⟨⟨_,rfl⟩,λa o n e=>?_,?_,?_⟩
   ·rw[av (λz=>by rw[z,hf]at e;cases e)];show gn _ _ (k3 a o n e)
   ·rw[av O.symm];show gn _ _ J
   ·rw[aa];simp[nxR]
  ·rintro ρ M3 ⟨⟨B,rfl⟩,k3,J,e3⟩;calc hF _ _ ⟨⟨_,_,rfl⟩,k3,J,?_⟩;rw[e3];simp[nx,Mo]
 ·rintro ρ M2 ⟨⟨o4,B,rfl⟩,k2,G,e2⟩;dsimp only;nofun;show q _ _ ⟨k2,.inr ⟨rfl,G⟩⟩ hf e2
abbrev Bd(P n:Nat):Prop:=(P=2/\n<=12)∨(P=3/\n<=9)
def Bd.pw{n k:Nat}(h:Bd P n)(j:k<=n):P^k<=19683:=by
 rcases h with⟨rfl,h⟩|⟨rfl,h⟩
 ·show Ml (QZ (·) (show k<=12 by lia)) (·)
 ·show Ml (QZ (·) (show k<=9 by lia)) (·)
def Bd.p{n:Nat}(h:Bd P n):P=2∨P=3:=by rcases h with⟨h,_⟩|⟨h,_⟩<;>simp[h]
def Bd.n{n:Nat}(h:Bd P n):n<=12:=by rcases h with⟨_,h⟩|⟨_,h⟩<;>lia
def In.n{n:Nat}(z:P=2∨P=3)(h:In P n A):A.length<=n:=by
 let⟨keys,h⟩:=h;let B:∀v,Vr P n v->v∈rws P n:=by
  intro v j;let:∀(k:Nat),k<=n->v.take k∈rws P k:=by
   intro k
   induction k with
   |zero=>intro _;simp[rws]
   |succ k ih=>
    intro F;let q:k<v.length:=by rw[j.len];lia
    let hx:=j.inn _ (Nm q);change _∈rwN P (rws P k);refine Mn.mpr ⟨_,ih ∅,L7.mpr ⟨(v[k]).toNat,LP.mpr ∅,?_⟩⟩
    rw[NF,z4 q,Q4 hx.1];rfl
  let:=this n (L9 _)
  rwa[Nk (by rw[j.len];show L9 _)]at this
 let q:∀k,(rws P k).length=P^k:=by
  intro k
  induction k with
  |zero=>rfl
  |succ k ih=>change(rwN P (rws P k)).length=_;rw[fP,ih,SM]
 let:=iT h.nd λv j=>B v ((h.mem v).mp j).1;rw[h.len,q]at this;show Am z this
def ou{n:Nat}(q:1<=n){t:List Int}(j:Vr P n t):t≠[]:=λz=>by let:=j.len;rw[z]at this;simp at this;lia
def zP{k:Nat}(hk:2<=k){n:Nat}(O:Bd P n)(hn:1<=n){ts:List (List Int)}(ht:∀t∈ts,Vr P n t)(eb:M b=Z (.lst (ts.map rD)))(q:∀d keys M',Kn P n (chF P n [] ts) keys->M' d=Z (.dct Wi (keys.map kv))->M d=N2->Ge M M'->Q (.ref d) M'):phi tab k 36 [.ref b,.int n,.int P] M Q:=by
 let U:=O.p;let IM:=O.n;let Y:0<P:=∅
 refine al ∅ rfl rfl (ρ:=[Z _,Z _,Z _,N2,N2]) rfl ?_
 unfold d36 L2.Mi.K42.b36;nofun;intro p hp;rw[Li,gE,nr];refine⟨by rw[D0];lia,∅,∅,by rw[D0];lia,eU (λz=>by let:=congrArg Pb z;simp at this;lia),aa,?_⟩
 let g1:=Ge.new (o:=.dct Wi ([I7 n (0:Int)].map kv)) hp;let e1:=aa (M:=M) (a:=p) (o:=.dct Wi ([I7 n (0:Int)].map kv));change wSs _ _ _ _ (ag M p (.dct Wi ([I7 n (0:Int)].map kv)));generalize ag M p (.dct Wi ([I7 n (0:Int)].map kv))=M1 at g1 e1⊢;nofun;calc⟨_,ab (g1 _ _ eb),?_⟩;refine au (f:=rD) (ys:=ts) (I:=λl ρ M'=>Ge M M'/\∃d keys,(∃fv,ρ=[Z (.ref b),Z (.int n),Z (.int P),Z (.ref d),fv])/\M d=N2/\M' d=Z (.dct Wi (keys.map kv))/\Kn P n (chF P n [] l) keys) rfl ⟨g1,p,[I7 n 0],⟨_,rfl⟩,hp,e1,Kn.init Y⟩ (λ_ _ _ h=>ab (h.1 _ _ eb)) ?_ ?_
 ·rintro l t r ρ M2 es ⟨g2,d,keys,⟨fv,rfl⟩,nd,G,j⟩;calc⟨_,rfl,λF hF=>?_⟩;let B:=ht t (by rw[es];simp)
  let IK:=O.pw (In.n U ⟨_,j⟩);rw[<-j.len]at IK;nofun;calc⟨_,_,_,rfl,.inl G,eU (ou hn B),⟨_,rfl,?_⟩⟩;rw[kJ]
  by_cases hm:t∈keys
  ·rw[if_neg (by simp[hm])]
   calc hF _ _ ⟨g2,d,keys,⟨_,rfl⟩,nd,G,?_⟩;rw[i7 ((j.mem t).mp hm).2];show j
  ·rw[if_pos (by simp[hm])]
   let J:¬Sp P n (chF P n [] l) (gf t):=λh=>hm ((j.mem t).mpr ⟨B,h⟩);let L:=j.step U B J;nofun;refine lU ∅ U ⟨hn,∅⟩ ∅ (λu hu=>((j.mem u).mp hu).1.len) B L.nd (.inl G) λf M3 k3 nf e3=>?_
   refine hF _ _ ⟨λa o e=>k3.kp a o (λz=>by rw[z,nd]at e;cases e) (g2 _ _ e),f,nx P t keys,⟨_,rfl⟩,aS g2 nf,e3,?_⟩
   rw[cU J];show L
 ·rintro ρ M2 ⟨g2,d,keys,⟨fv,rfl⟩,nd,G,j⟩;dsimp only;nofun;show q _ _ _ j G nd g2
noncomputable abbrev ixD(ix:List Nat):D:=.tup (ix.map λi:Nat=>D.int ((i:Nat):Int))
abbrev tat(T:List (List Int))(i:Nat):List Int:=T.getD i []
variable{T:List (List Int)}
def cz(h:i<T.length):T[i]?=Z (tat T i):=by unfold tat;rw[Lw,z4 h];rfl
def cA{n:Nat}(j:∀t∈T,Vr P n t)(h:i<T.length):Vr P n (tat T i):=j _ (Lh (cz h))
def FG{a b:List (D×D)}(h:DF M d Wi a)(g:DF M d Wi b):a=b:=by
 rcases h with h|h<;>rcases g with g|g
 ·rw[h]at g;cases g;rfl
 ·rw[h]at g;cases g.2
 ·rw[h.2]at g;cases g
 ·rw[h.2]at g;cases g.2;rfl
abbrev chS(P n:Nat)(S:List (Nat->Int))(ts:List (List Int)):List (Nat->Int):=ts.foldl (λA t=>@ite _ (Sp P n S (gf t)/\¬Sp P n A (gf t)) (Nf _) (A++[gf t]) A) []
variable{S:List (Nat->Int)}
def ie{n:Nat}{ts:List (List Int)}{t:List Int}(h:¬(Sp P n S (gf t)/\¬Sp P n (chS P n S ts) (gf t))):chS P n S (ts++[t])=chS P n S ts:=by unfold chS at h⊢;rw[Ov,Nl,TB,if_neg h]
def lV{n:Nat}{ts:List (List Int)}{t:List Int}(h:Sp P n S (gf t))(h2:¬Sp P n (chS P n S ts) (gf t)):chS P n S (ts++[t])=chS P n S ts++[gf t]:=by unfold chS at h2⊢;rw[Ov,Nl,TB,if_pos ⟨h,h2⟩]
def fQ{n:Nat}(j:Vr P n v):v∈rws P n:=by
 let:∀(k:Nat),k<=n->v.take k∈rws P k:=by
  intro k
  induction k with
  |zero=>intro _;simp[rws]
  |succ k ih=>
   intro z;let q:k<v.length:=by rw[j.len];lia
   let hx:=j.inn _ (Nm q);change _∈rwN P (rws P k);refine Mn.mpr ⟨_,ih ∅,L7.mpr ⟨(v[k]).toNat,LP.mpr ∅,?_⟩⟩
   rw[NF,z4 q,Q4 hx.1];rfl
 let:=this n (L9 _)
 rwa[Nk (by rw[j.len];show L9 _)]at this
def qL{P:Nat}:∀{k:Nat} {v:List Int},v∈rws P k->Vr P k v
 |0,v,h=>by
  let:v=[]:=by simpa[rws]using h
  subst this;show⟨rfl,by simp⟩
 |k+1,v,h=>by
  let⟨u,q,h⟩:=Mn.mp (show v∈rwN P (rws P k)from h);let⟨x,hx,rfl⟩:=L7.mp h;let ih:=qL q;refine⟨by rw[hH,ih.len];rfl,λy j=>?_⟩
  rcases Lb.mp j with j|j
  ·show ih.inn y j
  ·rw[LD.mp j];let:=LP.mp hx;lia
abbrev tbl(P:Nat)(x:List Int×List Int):List Int:=x.1.flatMap λa=>x.2.map λb=>a*b%P
def ig{x:List Int×List Int}(h:x∈prs P L R):Vr P L x.1/\Vr P R x.2:=by let⟨l,j,h⟩:=Mn.mp h;let⟨r,q,rfl⟩:=L7.mp h;show⟨qL (LM.mp j).1,qL (LM.mp q).1⟩
def xr{P:Nat}{r:List Int}:∀{l:List Int} {i j:Nat},i<l.length->j<r.length->(tbl P (l,r))[i*r.length+j]?=Z (gf l i*gf r j%P)
 |a::l,0,j,_,q=>by
  unfold tbl;rw[MD,Nat.zero_mul,OV,L8 (by rw[h7];show q),Lp,az q]
  rfl
 |a::l,i+1,j,hi,q=>by
  let ih:=xr (P:=P) (r:=r) (l:=l) (i:=i) (j:=j) (by rw[LB]at hi;lia) q
  unfold tbl at ih⊢;rw[MD,L3 (by rw[h7,Mp];lia),h7,show(i+1)*r.length+j-r.length=i*r.length+j by rw[Mp];lia,ih]
  rfl
def iZ{P:Nat}{r:List Int}:∀{l:List Int},(tbl P (l,r)).length=l.length*r.length
 |[]=>by simp[tbl]
 |a::l=>by let ih:=iZ (P:=P) (r:=r) (l:=l);unfold tbl at ih⊢;rw[MD,hH,ih,LB,Mp,h7,Uz]
def qM(q:0<P){x:List Int×List Int}(h1:x.1.length=L)(h2:x.2.length=R):Vr P (L*R) (tbl P x):=by
 refine⟨by rw[<-h1,<-h2];show iZ,λy j=>?_⟩
 let⟨a,_,j⟩:=Mn.mp j;let⟨b,_,rfl⟩:=L7.mp j;show⟨Nb _ ∅,Mv _ ∅⟩
def kK{x:List Int×List Int}(h1:x.1.length=L)(h2:x.2.length=R)(hi:i<L)(z:j<R):gf (tbl P x) (i*R+j)=gf x.1 i*gf x.2 j%P:=by
 let e:=xr (P:=P) (l:=x.1) (r:=x.2) (i:=i) (j:=j) ∅ ∅
 let q:=(L5.mp e).1;rw[az q,h2]at e;show LG.inj e
abbrev ul(L i:Nat):List Int:=I7 i 0++1::I7 (L-i-1) 0
def du(h:i<L):(ul L i).length=L:=by unfold ul;simp;lia
def kL(j:P=2∨P=3)(h:i<L):Vr P L (ul L i):=by
 calc⟨du h,λx hx=>?_⟩;unfold ul at hx
 rcases Lb.mp hx with hx|hx
 ·rw[My hx];lia
 ·rcases Lm.mp hx with rfl|hx
  ·lia
  ·rw[My hx];lia
def ow:fo (ul L i)=Wi:=by
 let e:nzl (ul L i)=[1]:=by
  unfold nzl ul;rw[LU,LL (·),Pp.mpr,Pp.mpr]
  ·rfl
  ·intro a j;rw[My j];decide
  ·intro a j;rw[My j];decide
 unfold fo;rw[e];decide
variable{x:Nat}
def kM(h:i<L)(hx:x<L):gf (ul L i) x=if x=i then 1 else 0:=by
 let e:=az (v:=ul L i) (x:=x) (by rw[du h];show hx)
 unfold ul at e⊢
 by_cases h1:x<i
 ·rw[L8 (by simpa using h1),Mb,if_pos h1]at e
  rw[if_neg ∅];show(LG.inj e).symm
 ·rw[L3 (by simpa using h1),N5]at e
  by_cases h2:x=i
  ·rw[h2,Q2]at e;rw[if_pos h2,h2];show(LG.inj e).symm
  ·rw[show x-i=(x-i-1)+1 by lia,Ou,Mb,if_pos ∅]at e
   rw[if_neg h2];show(LG.inj e).symm
abbrev aq(P L R:Nat):List (List Int):=(prs P L R).map (tbl P)
def cY(j:0<P):∀t∈aq P L R,Vr P (L*R) t:=by intro t q;let⟨x,hx,rfl⟩:=L7.mp q;let⟨h1,h2⟩:=ig hx;show qM j h1.len h2.len
def qN(B:P=2∨P=3)(J:1<=R)(f:Nat->Int):Sp P (L*R) (chF P (L*R) A (aq P L R)) f:=by
 calc Sp.units (λk F=>?_) f;let hi:k / R<L:=(O6 ∅).mpr F
 let z:k%R<R:=RE _ ∅
 let hm:tbl P (ul L (k / R),ul R (k%R))∈aq P L R:=by refine L7.mpr ⟨_,Mn.mpr ⟨ul L (k / R),LM.mpr ⟨fQ (kL B hi),ow⟩,L7.mpr ⟨ul R (k%R),LM.mpr ⟨fQ (kL B z),ow⟩,rfl⟩⟩,rfl⟩
 calc(bP hm).congr λx hx=>?_;let j:x / R<L:=(O6 ∅).mpr hx
 let q:x%R<R:=RE _ ∅
 let ex:x=x / R*R+x%R:=by rw[Q0];show(SV x R).symm
 let e:=kK (P:=P) (x:=(ul L (k / R),ul R (k%R))) (du hi) (du z) j q;rw[<-ex,kM hi j,kM z q]at e;rw[e];unfold dlk;let h1:(1:Int)%P=1:=RY (·) ∅
 by_cases hxk:x=k
 ·subst hxk;rw[if_pos rfl,if_pos rfl,if_pos rfl,Int.one_mul,h1];simp
 ·rw[if_neg hxk]
  by_cases h2:x / R=k / R
  ·rw[if_neg (show ¬x%R=k%R fromλG=>hxk (by rw[ex,h2,G,Q0];show SV k R))];simp
  ·rw[if_neg h2];simp
def nC{k:Nat}(Y:1<=k)(fv:P=2∨P=3)(hL:L<=6)(hR:R<=6){x:List Int×List Int}(h1:Vr P L x.1)(h2:Vr P R x.2)(q:∀M',Ge M M'->Q (rD (tbl P x)) M'):phi tab k 9 [p2D x,.int P] M Q:=by
 let F:=h1.len;let G:=h2.len;refine al ∅ rfl rfl (ρ:=[Z _,Z _,N2,N2]) rfl ?_
 unfold d9 L2.Mi.K42.b9;nofun;nofun;refine ak (f:=D.int) (ys:=x.1) (I:=λl ρ M' acc=>(∃o0 j,ρ=[o0,j,Z (.int P),Z (rD x.2)])/\M'=M/\acc=(tbl P (l,x.2)).map .int) rfl ⟨⟨_,_,rfl⟩,rfl,rfl⟩ (λ_ _ _ _ _=>by first|rfl|trivial) ?_ ?_
 ·rintro l a r ρ M1 acc e ⟨⟨o0,j,rfl⟩,rfl,rfl⟩;calc⟨_,rfl,λN J=>?_⟩;let O:=ah e;let ha:=h1.inn a (by rw[e];simp)
  let hm:l.length*x.2.length<=6*6:=LY ∅ ∅
  ac_nf;refine ak (f:=D.int) (ys:=x.2) (I:=λl2 ρ M' acc=>(∃j,ρ=[Z (.int a),j,Z (.int P),Z (rD x.2)])/\M'=M1/\acc=(tbl P (l,x.2)++l2.map λb=>a*b%P).map .int) rfl ⟨⟨_,rfl⟩,rfl,by simp⟩ (λ_ _ _ _ _=>by first|rfl|trivial) ?_ ?_
  ·rintro l2 b r2 ρ M2 acc e2 ⟨⟨j,rfl⟩,rfl,rfl⟩;calc⟨_,rfl,λN2 z=>?_⟩;let B:=ah e2;ac_nf;refine⟨dA ∅,∅,by rw[h7,hH,iZ,h7,D0];lia,z _ _ _ ⟨⟨_,rfl⟩,rfl,by simp⟩⟩
  ·rintro ρ M2 acc ⟨⟨j,rfl⟩,rfl,rfl⟩;show J _ _ _ ⟨⟨_,_,rfl⟩,rfl,by simp[tbl,Mo]⟩
 ·rintro ρ M1 acc ⟨⟨o0,j,rfl⟩,rfl,rfl⟩ p U;show⟨_,_,rfl,ab aa,q _ (Ge.new U)⟩
def xt{k:Nat}(hk:1<=k)(hP:P=2∨P=3)(hL:L<=6)(hR:R<=6){x:List Int×List Int}(h1:Vr P L x.1)(h2:Vr P R x.2)(q:∀M',Ge M M'->Q (rD (tbl P x)) M'):phi tab k 33 [p2D x,.int P] M Q:=by
 let U:=h1.len;let Y:=h2.len;refine al ∅ rfl rfl (ρ:=[Z _,Z _,N2,N2]) rfl ?_
 unfold d33 L2.Mi.K42.b33;nofun;refine⟨by rw[D0];lia,λpf j=>?_⟩
 let g1:=Ge.new (o:=.lst []) j;let J:=aa (M:=M) (a:=pf) (o:=.lst []);generalize ag M pf (.lst [])=M1 at g1 J⊢;nofun;calc⟨_,rfl,_,rfl,?_⟩;refine au (f:=D.int) (ys:=x.1) (I:=λl ρ M'=>(∃B,ρ=[Z (p2D x),Z (.int P),Z (.ref pf),B])/\Ge M M'/\M' pf=Z (.lst ((tbl P (l,x.2)).map .int))) rfl ⟨⟨_,rfl⟩,g1,J⟩ (λ_ _ _ _=>by first|rfl|trivial) ?_ ?_
 ·rintro l a r ρ M2 e ⟨⟨B,rfl⟩,g2,z⟩;calc⟨_,rfl,λF fv=>?_⟩;let IK:=ah e;let ha:=h1.inn a (by rw[e];simp)
  let hm:l.length*x.2.length<=6*6:=LY ∅ ∅
  nofun;calc⟨⟨_,z⟩,_,rfl,_,rfl,?_⟩;refine ak (f:=D.int) (ys:=x.2) (I:=λl2 ρ M' acc=>(∃o0,ρ=[o0,Z (.int a),Z (.int P)])/\M'=M2/\acc=(l2.map λb=>a*b%P).map .int) rfl ⟨⟨_,rfl⟩,rfl,rfl⟩ (λ_ _ _ _ _=>by first|rfl|trivial) ?_ ?_
  ·rintro l2 b r2 ρ M3 acc e3 ⟨⟨o0,rfl⟩,rfl,rfl⟩;calc⟨_,rfl,λN2 G=>?_⟩;let O:=ah e3;ac_nf;refine⟨dA ∅,∅,by rw[h7,h7,D0];lia,G _ _ _ ⟨⟨_,rfl⟩,rfl,by simp⟩⟩
  ·rintro ρ M3 acc ⟨⟨o0,rfl⟩,rfl,rfl⟩ pe hpe;let gp:=Ge.new (o:=.lst ((x.2.map λb=>a*b%P).map .int)) hpe;refine⟨pf,pe,_,_,rfl,rfl,gp _ _ z,aa,by rw[h7,h7,h7,iZ,D0];lia,?_⟩
   calc fv _ _ ⟨⟨_,rfl⟩,(g2.trans gp).upd j,?_⟩;rw[aa];simp[tbl,Mo]
 ·rintro ρ M2 ⟨⟨B,rfl⟩,g2,z⟩;dsimp only;nofun;show⟨_,_,rfl,ab z,q _ g2⟩
variable{m e:Nat}
def C8{k:Nat}(J:1<=k)(he:e<=m)(hm:m<=1000000)(q:Q (.int (bn m e:Nat)) M):phi tab k 15 [.int m,.int e] M Q:=by
 refine al ∅ rfl rfl (ρ:=[Z _,Z _,N2,N2]) rfl ?_
 unfold d15 L2.Mi.K42.b15;nofun;nofun;let ex:(if(m:Int)-e<e then(m:Int)-e else(e:Int))=((min e (m-e):Nat):Int):=by split<;>lia
 rw[ex];refine⟨∅,∅,?_⟩
 rw[Li];refine au (f:=λi=>D.int (i:Nat)) (ys:=Lc (min e (m-e))) (I:=λl ρ M'=>M'=M/\∃z,ρ=[Z (.int m),Z (.int e),Z (.int (cnt m l.length:Nat)),z]) aC ⟨rfl,_,rfl⟩ (λ_ _ _ _=>by first|rfl|trivial) ?_ ?_
 ·rintro l i r ρ M1 es ⟨rfl,z,rfl⟩;calc⟨_,rfl,fun F G=>?_⟩;let j:=ah es;rw[Lq]at j;let hi:i=l.length:=by
   let B:(Lc (min e (m-e)))[l.length]?=Z i:=by rw[es];simp
   rw[NY j]at B;show(LG.inj B).symm
  nofun;refine⟨gD ∅,∅,by let B:(1000001:Int)<2^256:=(·);lia,G _ _ ⟨rfl,Z (.int (i:Nat)),?_⟩⟩
  rw[hH,LC];change _=[_,_,Z (D.int ((cnt m l.length*(m-l.length) / (l.length+1):Nat):Int)),_];rw[Int.natCast_ediv,Px,Int.natCast_sub ∅,hi]
  rfl
 ·rintro ρ M1 ⟨rfl,z,rfl⟩;dsimp only;nofun;rw[Lq,C1 he];show q
def lW{k:Nat}{a b:List (List Nat)}:stp m e k (a++b)=stp m e k a++stp m e k b:=Mo
def sH{k:Nat}{c:List Nat}:stp m e k [c]=exs m e k c:=by simp[stp]
def C9{k:Nat}(hk:1<=k)(he:e<=m)(hm:m<=1000000)(IO:e<=100)(hb:bn m e<=3000)(q:∀p M',Ge M M'->M p=N2->M' p=Z (.lst ((sts m e e).map ixD))->Q (.ref p) M'):phi tab k 16 [.int m,.int e] M Q:=by
 refine al ∅ rfl rfl (ρ:=[Z _,Z _,N2,N2]) rfl ?_
 unfold d16 L2.Mi.K42.b16;nofun;refine⟨by rw[D0];lia,by rw[D0];lia,λU B=>?_⟩
 let g0:=Ge.new (o:=.lst [ixD []]) B;let e0:=aa (M:=M) (a:=U) (o:=.lst [ixD []]);change wSs _ _ _ _ (ag M U (.lst [ixD []]));generalize ag M U (.lst [ixD []])=M0 at g0 e0⊢;nofun;refine⟨∅,∅,?_⟩
 rw[Li];refine au (f:=λi=>D.int (i:Nat)) (ys:=Lc e) (I:=λl ρ M'=>∃pr Y,ρ=[Z (.int m),Z (.int e),Z (.ref pr),Y]/\Ge M M'/\M pr=N2/\M' pr=Z (.lst ((sts m e l.length).map ixD))) aC ⟨U,_,rfl,g0,B,e0⟩ (λ_ _ _ _=>trivial) ?_ ?_
 ·rintro l i r ρ M1 es ⟨pr,Y,rfl,g1,n1,G⟩;calc⟨_,rfl,fun F hF=>?_⟩;let J:=ah es;rw[Lq]at J;let hi:i=l.length:=by
   let L:(Lc e)[l.length]?=Z i:=by rw[es];simp
   rw[NY J]at L;show(LG.inj L).symm
  subst hi;let fv:=Ml (C2 he (k:=l.length+1) ∅) hb
  nofun;calc⟨_,ab G,?_⟩;refine ak (f:=ixD) (ys:=sts m e l.length) (I:=λl2 ρ M' acc=>(∃o0 z,ρ=[o0,z,Z (.int m),Z (.int e),Z (.int (l.length:Nat))])/\M'=M1/\acc=(stp m e l.length l2).map ixD) rfl ⟨⟨_,_,rfl⟩,rfl,rfl⟩ (λ_ _ _ _ h=>by rw[h.2.1];show ab G) ?_ ?_
  ·rintro l2 c r2 ρ M2 acc e2 ⟨⟨o0,z,rfl⟩,rfl,rfl⟩;calc⟨_,rfl,λN hN=>?_⟩;let hc:=(eA c).mp (show c∈sts m e l.length by rw[e2];simp)
   let hsz:(stp m e l.length l2).length+(exs m e l.length c).length<=3000:=by
    let L:sts m e (l.length+1)=stp m e l.length l2++(exs m e l.length c++stp m e l.length r2):=by change stp m e l.length (sts m e l.length)=_;rw[e2,lW,show c::r2=[c]++r2 from rfl,lW,sH]
    rw[L,hH,hH]at fv;lia
   let fin:∀(j:Int),j=(m:Int)-e+(l.length:Nat)+1->be (bb 1) (bN (wOp fu (aY 0) (wAr oP (aP (aY 1) bx)))) (λx=>True) N (ce (fsx c:Nat) (j-(fsx c:Nat)).toNat) [Z (ixD c),z,Z (D.int m),Z (D.int e),Z (D.int (l.length:Nat))] M2 (NX ixD (stp m e l.length l2)):=by
    intro j hj;let hj:(j-(fsx c:Nat)).toNat=m-e+l.length+1-fsx c:=∅
    rw[hj];refine ak (f:=λi:Nat=>D.int ((fsx c:Nat)+(i:Nat))) (ys:=Lc (m-e+l.length+1-fsx c)) (I:=λl3 ρ M' acc=>(∃z,ρ=[Z (ixD c),z,Z (.int m),Z (.int e),Z (.int (l.length:Nat))])/\M'=M2/\acc=(stp m e l.length l2++l3.map λi=>c++[fsx c+i]).map ixD) rfl ⟨⟨_,rfl⟩,rfl,by simp⟩ (λ_ _ _ _ _=>trivial) ?_ ?_
    ·rintro l3 i r3 ρ M3 acc e3 ⟨⟨z,rfl⟩,rfl,rfl⟩;calc⟨_,rfl,λN2 IK=>?_⟩;let IM:=ah e3;rw[Lq]at IM;let IP:(exs m e l.length c).length=m-e+l.length+1-fsx c:=by unfold exs;simp
     let IQ:=hc.1;ac_nf;refine⟨by rw[D0];lia,.inr trivial,by rw[h7,D0];lia,by rw[h7,hH,h7,D0];lia,IK _ _ _ ⟨⟨_,rfl⟩,rfl,?_⟩⟩
     simp
    ·rintro ρ M3 acc ⟨⟨z,rfl⟩,rfl,rfl⟩;calc hN _ _ _ ⟨⟨_,_,rfl⟩,rfl,?_⟩;rw[lW,sH];rfl
   let IN:fsx c<=m:=by
    rcases NH c with rfl|⟨u,x,rfl⟩
    ·show N6 _
    ·rw[NI]at *
     rw[cV];let:=hc.2.2 u.length x (_)
     let L:u.length+1=l.length:=by simpa using hc.1
     lia
   ac_nf
   rcases NH c with rfl|⟨u,x,rfl⟩
   ·calc⟨Wj,rfl,?_⟩;rw[if_neg (·)]
    show⟨0,_,⟨rfl,rfl⟩,∅,fin _ rfl⟩
   ·rw[NI]at *
    refine⟨Wi,by simp[tL],?_⟩
    rw[if_pos rfl];refine⟨.int x,by rw[Ll];show xZ _ _,?_⟩
    ac_nf;rw[cV]at fin IN;show⟨_,_,⟨rfl,rfl⟩,∅,fin _ rfl⟩
  ·rintro ρ M2 acc ⟨⟨o0,z,rfl⟩,rfl,rfl⟩ pn O;calc hF _ _ ⟨pn,_,rfl,g1.trans (Ge.new O),aS g1 O,?_⟩;rw[aa,hH];rfl
 ·rintro ρ M1 ⟨pr,Y,rfl,g1,n1,G⟩;dsimp only;nofun;rw[Lq]at G;show q pr M1 g1 n1 G
def nD(T:List (List Int)):cK (T.map rD)=T.zipIdx.map λp=>.tup [.int (p.2:Nat),rD p.1]:=by
 unfold cK;apply NV;intro i;rw[OU,Lp,Lp,NQ]
 cases T[i]?<;>simp
def sJ{P n:Nat}{S:List (Nat->Int)}{l r:List (List Int×Nat)}{x:List Int×Nat}(e:T.zipIdx=l++x::r):x.2=l.length/\T[l.length]?=Z x.1/\l.map (·.1)++[x.1]=(l++[x]).map (·.1):=by
 let j:T.zipIdx[l.length]?=Z x:=by rw[e];simp
 rw[NQ]at j;let⟨z,q,j⟩:=OB.mp j;calc⟨by rw[<-j];simp,by rw[q,<-j],by simp⟩
abbrev Ip(P n:Nat)(T:List (List Int))(ix:List Nat):Prop:=∀(k i:Nat),ix[k]?=Z i->¬Sp P n ((ix.take k).map λi=>gf (tat T i)) (gf (tat T i))
variable{ix:List Nat}
def Ip.snoc{n:Nat}(h:Ip P n T ix)(q:¬Sp P n (ix.map λi=>gf (tat T i)) (gf (tat T i))):Ip P n T (ix++[i]):=by
 intro k j e
 by_cases z:k<ix.length
 ·rw[L8 z]at e;rw[QW ∅]
  show h k j e
 ·rw[L3 ∅]at e
  let B:k-ix.length=0:=by let:=(L5.mp e).1;simp at this;lia
  rw[B]at e;let:i=j:=by simpa using e
  subst this;rw[show k=ix.length by lia,To]
  show q
abbrev wix(P n:Nat)(S:List (Nat->Int))(T:List (List Int)):Nat->List Nat
 |0=>[]
 |k+1=>@ite _ (Sp P n S (gf (tat T k))/\¬Sp P n (chS P n S (T.take k)) (gf (tat T k))) (Nf _) (wix P n S T k++[k]) (wix P n S T k)
def j3{n k:Nat}(h:¬(Sp P n S (gf (tat T k))/\¬Sp P n (chS P n S (T.take k)) (gf (tat T k)))):wix P n S T (k+1)=wix P n S T k:=by rw[wix,if_neg h]
def lZ{n k:Nat}(h:Sp P n S (gf (tat T k))/\¬Sp P n (chS P n S (T.take k)) (gf (tat T k))):wix P n S T (k+1)=wix P n S T k++[k]:=by rw[wix,if_pos h]
def uN{k:Nat}(hk:3<=k){n:Nat}(hB:Bd P n){space:List (Nat×List Int)}(hS:Bs P n S space)(hT:∀t∈T,Vr P n t)(J1:T.length<=1000000){ps pt:Wk}(es:M ps=Z (.lst (space.map eD)))(et:M pt=Z (.lst (T.map rD)))(q:∀pc pb (ix:List Nat) (base:List (Nat×List Int)) M',chS P n S T=ix.map (λi=>gf (tat T i))->(∀i∈ix,i<T.length)->ix=wix P n S T T.length->Ip P n T ix->Bs P n (chS P n S T) base->M' pc=Z (.lst (ix.map λi:Nat=>D.int ((i:Nat):Int)))->M' pb=Z (.lst (base.map eD))->Ge M M'->Q (.tup [.ref pc,.ref pb]) M'):phi tab k 17 [.ref ps,.ref pt,.int P] M Q:=by
 let hP:=hB.p;let J2:=hB.n;let J3:0<P:=∅
 refine al ∅ rfl rfl (ρ:=[Z _,Z _,Z _,N2,N2,N2,N2]) rfl ?_
 unfold d17 L2.Mi.K42.b17;nofun;refine⟨by rw[D0];lia,λpc IQ=>⟨by rw[D0];lia,λpb Y=>?_⟩⟩
 let g1:=Ge.new (o:=.lst []) IQ;let e1:=aa (M:=M) (a:=pc) (o:=.lst []);generalize ag M pc (.lst [])=M1 at g1 e1 Y⊢;let U:pb≠pc:=λz=>by rw[z,e1]at Y;cases Y
 let g2:=Ge.new (o:=.lst []) Y;let f1:=aa (M:=M1) (a:=pb) (o:=.lst []);let e1:=g2 _ _ e1;let J0:=aS g1 Y;generalize ag M1 pb (.lst [])=M2 at g2 e1 f1⊢;let g2:=g1.trans g2;nofun;calc⟨_,ab (g2 _ _ et),?_⟩;rw[nD];refine au (f:=λp:List Int×Nat=>.tup [.int (p.2:Nat),rD p.1]) (ys:=T.zipIdx) (I:=λl ρ M'=>Ge M M'/\∃(pb:Wk) (ix:List Nat) (base:List (Nat×List Int)),(∃o5 o6,ρ=[Z (.ref ps),Z (.ref pt),Z (.int P),Z (.ref pc),Z (.ref pb),o5,o6])/\pb≠pc/\M' pc=Z (.lst (ix.map λi:Nat=>D.int ((i:Nat):Int)))/\M' pb=Z (.lst (base.map eD))/\chS P n S (l.map (·.1))=ix.map (λi=>gf (tat T i))/\(∀i∈ix,i<T.length)/\ix=wix P n S T l.length/\Ip P n T ix/\Bs P n (chS P n S (l.map (·.1))) base/\Fs base/\ix.length<=l.length) rfl ⟨g2,pb,[],[],⟨_,_,rfl⟩,U,e1,f1,rfl,by simp,rfl,(λk i h=>by simp at h),Bs.init,(λe he=>by cases he),L9 _⟩ (λ_ _ _ h=>ab (h.1 _ _ et)) ?_ ?_
 ·rintro l x r ρ M3 IN ⟨g3,pb,ix,base,⟨o5,o6,rfl⟩,U,e3,f3,L,fv,IK,IM,hb,hf,IU⟩;calc⟨_,rfl,fun F hF=>?_⟩;let IV:=ah IN;rw[Oa]at IV;let⟨IO,IR,B⟩:=sJ (P:=P) (n:=n) (S:=S) IN;let IS:T.take l.length=l.map (·.1):=by
   let h9:T=T.zipIdx.map (·.1):=by simp
   rw[h9,IN,Ll,List.take_left' (_)]
  let IP:=hT _ (Lh IR);let G:tat T l.length=x.1:=by unfold tat;rw[Lw,IR];rfl
  let J6:base.length<=12:=by let:=hb.le;rw[hb.len];lia
  nofun;refine qK ∅ hP ∅ hS IP (g3 _ _ es) λc1 M4 J g4=>?_
  refine⟨_,rfl,?_⟩
  cases c1 with
  |false=>
   rw[if_neg (·)]
   refine hF _ _ ⟨g3.trans g4,pb,ix,base,⟨_,_,rfl⟩,U,g4 _ _ e3,g4 _ _ f3,?_,fv,by rw[hH,LC,IK,j3 (λz=>by let:=J.mpr (by rw[<-G];show z.1);cases this)],IM,?_,hf,by rw[hH];lia⟩
   ·rw[<-B,ie (λh=>by let:=J.mpr h.1;cases this)];show L
   ·rw[<-B,ie (λh=>by let:=J.mpr h.1;cases this)];show hb
  |true=>
   let J:=J.mp rfl;rw[if_pos rfl];refine qK ∅ hP ∅ hb IP (g4 _ _ f3) λc2 M5 j g5=>?_
   let O:=g4.trans g5;refine⟨_,rfl,?_⟩
   cases c2 with
   |true=>
    let j:=j.mp rfl;rw[if_neg (·)]
    refine hF _ _ ⟨g3.trans O,pb,ix,base,⟨_,_,rfl⟩,U,O _ _ e3,O _ _ f3,?_,fv,by rw[hH,LC,IK,j3 (λz=>z.2 (by rw[IS,G];show j))],IM,?_,hf,by rw[hH];lia⟩
    ·rw[<-B,ie (λh=>h.2 j)];show L
    ·rw[<-B,ie (λh=>h.2 j)];show hb
   |false=>
    let j:¬Sp P n (chS P n S (l.map (·.1))) (gf x.1):=λh=>by let:=j.mpr h;cases this
    rw[if_pos (·)]
    nofun;refine⟨⟨_,O _ _ e3⟩,pc,_,_,rfl,rfl,O _ _ e3,by rw[h7,D0];lia,?_⟩
    let g6:=(g3.trans O).upd (o:=.lst ((ix.map λi:Nat=>D.int ((i:Nat):Int))++[.int (x.2:Nat)])) IQ;let e6:=aa (M:=M5) (a:=pc) (o:=.lst ((ix.map λi:Nat=>D.int ((i:Nat):Int))++[.int (x.2:Nat)]));let f6:=(av (M:=M5) (o:=.lst ((ix.map λi:Nat=>D.int ((i:Nat):Int))++[.int (x.2:Nat)])) U).trans (O _ _ f3);generalize ag M5 pc (.lst ((ix.map λi:Nat=>D.int ((i:Nat):Int))++[.int (x.2:Nat)]))=M6 at g6 e6 f6⊢;nofun;refine⟨by rw[D0];lia,λp7 IW=>?_⟩
    let g7:=Ge.new (o:=.lst [rD x.1]) IW;let e7:=aa (M:=M6) (a:=p7) (o:=.lst [rD x.1]);generalize ag M6 p7 (.lst [rD x.1])=M7 at g7 e7⊢;refine gK ∅ hP ∅ hb hf ∅ (ts:=[x.1]) (_) (by simpa using IP) (g7 _ _ f6) e7 λc base' M8 IT _ IX nc e8 g8=>?_
    let IY:c≠pc:=λz=>by rw[z,g7 _ _ e6]at nc;cases nc
    let e6:=g8 _ _ (g7 _ _ e6);let IZ:chF P n (chS P n S (l.map (·.1))) [x.1]=chS P n S ((l++[x]).map (·.1)):=by rw[aH j,fM,<-B,lV J j]
    rw[IZ]at IT;refine hF _ _ ⟨g6.trans (g7.trans g8),c,ix++[x.2],base',⟨_,_,rfl⟩,IY,by rw[e6,Ll];rfl,e8,?_,?_,by rw[hH,LC,IK,IO,lZ ⟨by rw[G];show J,by rw[IS,G];show j⟩],IM.snoc (by rw[<-L,IO,G];show j),IT,IX,by rw[hH,hH];simp;lia⟩
    ·rw[<-B,lV J j,L,Ll,Lj,Np,IO,G]
    ·intro i hi
     rcases Lb.mp hi with hi|hi
     ·show fv i hi
     ·rw[LD.mp hi];lia
 ·rintro ρ M3 ⟨g3,pb,ix,base,⟨o5,o6,rfl⟩,U,e3,f3,L,fv,IK,IM,hb,hf,IU⟩;dsimp only;nofun;let hm:T.zipIdx.map (·.1)=T:=by simp
  rw[hm]at L hb;show⟨by rw[D0];lia,q _ _ _ _ _ L fv (by rw[IK,Oa]) IM hb e3 f3 g3⟩
def Ed(h:i<L):(I7 L (0:Int)).set i 1=ul L i:=by
 unfold ul;rw[List.set_eq_take_append_cons_drop,if_pos (by simpa using h)]
 simp;lia
def xu{n:Nat}(Y:1<=n)(fv:L<=100)(hi:i<L)(q:∀p M',Ge M M'->M p=N2->M' p=Z (.lst ((ul L i).map .int))->Q (.ref p) M'):phi tab n 5 [.int L,.int i] M Q:=by
 refine al ∅ rfl rfl (ρ:=[Z _,Z _,N2]) rfl ?_
 unfold d5 L2.Mi.K42.b5;nofun;refine⟨by rw[D0];lia,λG B=>?_⟩
 refine⟨_,aa,∅,∅,by rw[D0];simp;lia,λF z=>?_⟩
 rw[Li,gE];let J:=Ge.new (o:=.lst [.int 0]) B;let g1:=J.trans (Ge.new (o:=.lst ((I7 L (0:Int)).map D.int)) z);let O:=aa (M:=ag M G (.lst [.int 0])) (a:=F) (o:=.lst ((I7 L (0:Int)).map D.int));let U:=aS J z;generalize ag (ag M G (.lst [.int 0])) F _=M1 at g1 O⊢;nofun;refine bH O (j:=i) (by rw[h7,N5];show An hi) ?_
 nofun;calc q F _ (g1.upd U) U ?_;rw[aa,<-Ed hi,List.map_set]
abbrev mkd(cs:List (List Int))(m i:Nat):List Int:=tat cs i++ul m i
variable{cs:List (List Int)}
def Ee{n:Nat}(j:P=2∨P=3)(q:∀t∈cs,Vr P n t)(hi:i<cs.length)(hm:i<m):Vr P (n+m) (mkd cs m i):=by
 let h1:=cA q hi;let h2:=kL (P:=P) j hm;refine⟨by unfold mkd;rw[hH,h1.len,h2.len],λx hx=>?_⟩
 rcases Lb.mp hx with hx|hx
 ·show h1.inn x hx
 ·show h2.inn x hx
def sK{a b:List Int}(h:x<a.length):gf (a++b) x=gf a x:=by
 let e:=az (v:=a++b) (x:=x) (by rw[hH];lia)
 rw[L8 h,az h]at e;show(LG.inj e).symm
def sL{a b:List Int}(h:x<b.length):gf (a++b) (a.length+x)=gf b x:=by
 let e:=az (v:=a++b) (x:=a.length+x) (by rw[hH];lia)
 rw[L3 ∅,show a.length+x-a.length=x by lia,az h]at e
 show(LG.inj e).symm
def Ca{a:List Int}{n:Nat}(h:n+x<a.length):gf (a.drop n) x=gf a (n+x):=by
 let e:=az (v:=a.drop n) (x:=x) (by rw[Ny];lia)
 rw[OK,az h]at e;show(LG.inj e).symm
structure RS(qs:List Wk)(rows:List (List Int))(M:Mem):Prop where
 len:qs.length=rows.length
 at':∀(k:Nat) q v,qs[k]?=Z q->rows[k]?=Z v->M q=Z (.lst (v.map .int))
variable{rows:List (List Int)}
def RS.ge(h:RS qs rows M)(g:Ge M M'):RS qs rows M':=⟨h.len,λk q v a b=>g _ _ (h.at' k q v a b)⟩
def RS.snoc(h:RS qs rows M){q:Wk}(e:M q=Z (.lst (v.map .int))):RS (qs++[q]) (rows++[v]) M:=by
 refine⟨by rw[hH,hH,h.len];rfl,λk q' v' a b=>?_⟩
 by_cases hk:k<qs.length
 ·rw[L8 hk]at a;rw[L8 (by rw[<-h.len];show hk)]at b
  show h.at' k q' v' a b
 ·rw[L3 ∅]at a
  rw[L3 (by rw[<-h.len];lia)]at b
  let j:k-qs.length=0:=by let:=(L5.mp a).1;simp at this;lia
  rw[j]at a;rw[<-h.len,j]at b
  cases a;cases b;show e
def zQ{ds:List D}{n:Nat}(h:n<=ds.length)(q:Q (.tup (ds.drop n)) M):cJ (.tup ds) (Z (n:Int)) N2 M Q:=by
 change Q (.tup (eK ds _ _)) M;unfold eK;rw[HT.sIx_none,HT.sIx_nat,OQ h,Nk (_)]
 show q
abbrev shr(P n:Nat)(base:List (Nat×List Int))(m:Nat)(t:List Int):List Int:=((wo P base (t++I7 m 0)).drop n).map λx=>-x%P
def xv{k:Nat}(hk:3<=k){n:Nat}(hB:Bd P n){Ts:List (List Int)}(hT:∀t∈Ts,Vr P n t)(IU:1<=Ts.length/\Ts.length<=10)(hc:∀t∈cs,Vr P n t)(IV:cs.length<=12){pt pc:Wk}(et:M pt=Z (.lst (Ts.map rD)))(ec:M pc=Z (.lst (cs.map rD)))(q:∀po qs base M',Bs P (n+cs.length) (chF P (n+cs.length) [] ((Lc cs.length).map (mkd cs cs.length))) base->base=((Lc cs.length).map (mkd cs cs.length)).foldl (gst P) []->Fs base->RS qs (Ts.map (shr P n base cs.length)) M'->M' po=Z (.lst (qs.map .ref))->Ge M M'->Q (.ref po) M'):phi tab k 18 [.ref pt,.ref pc,.int P] M Q:=by
 let hP:=hB.p;let IW:=hB.n;let z:0<P:=∅
 refine al ∅ rfl rfl (ρ:=[Z _,Z _,Z _,N2,N2,N2,N2]) rfl ?_
 unfold d18 L2.Mi.K42.b18;nofun;calc⟨_,_,rfl,bv (ab ec),?_⟩;refine aI et (d:=rD (tat Ts 0)) (bJ (k:=0) (by rw[Lp,cz ∅];rfl)) ?_
 let fv:=(cA hT (show 0<Ts.length by lia)).len
 calc⟨_,_,rfl,bv rfl,?_⟩;rw[h7,h7,fv];refine⟨by rw[D0];lia,?_⟩
 nofun;calc⟨_,ab ec,?_⟩;rw[nD];refine ak (f:=λp:List Int×Nat=>.tup [.int (p.2:Nat),rD p.1]) (ys:=cs.zipIdx) (I:=λl ρ M' acc=>(∃o0 o1,ρ=[o0,o1,Z (.int cs.length)])/\Ge M M'/\acc=((Lc l.length).map (mkd cs cs.length)).map rD) rfl ⟨⟨_,_,rfl⟩,Ge.refl,rfl⟩ (λ_ _ _ _ h=>ab (h.2.1 _ _ ec)) ?_ ?_
 ·rintro l x r ρ M1 acc e ⟨⟨o0,o1,rfl⟩,g1,rfl⟩;calc⟨_,rfl,λN hN=>?_⟩;let j:=ah e;rw[Oa]at j;let⟨IK,B,_⟩:=sJ (P:=P) (n:=n) (S:=[]) e;let IM:=(hc _ (Lh B)).len;let F:tat cs l.length=x.1:=by unfold tat;rw[Lw,B];rfl
  ac_nf;rw[IK];refine xu ∅ ∅ j λp2 M2 g2 n2 L=>⟨_,_,rfl,ab L,?_⟩
  ac_nf;refine⟨.inr trivial,by rw[h7,h7,IM,du j,D0];lia,by rw[h7,h7,Lq,D0];lia,hN _ _ _ ⟨⟨_,_,rfl⟩,g1.trans g2,?_⟩⟩
  rw[hH,LC,PD,Ll,Ll];change _=_++[rD (mkd cs cs.length l.length)];unfold mkd;rw[F,<-Ll]
 ·rintro ρ M1 acc ⟨⟨o0,o1,rfl⟩,g1,rfl⟩ pm hpm;rw[Oa];let g2:=g1.trans (Ge.new (o:=.lst (((Lc cs.length).map (mkd cs cs.length)).map rD)) hpm);let L:=aa (M:=M1) (a:=pm) (o:=.lst (((Lc cs.length).map (mkd cs cs.length)).map rD));generalize ag M1 pm _=M2 at g2 L⊢;nofun;refine⟨by rw[D0];lia,λp3 IN=>?_⟩
  let g3:=Ge.new (o:=.lst []) IN;let e3:=aa (M:=M2) (a:=p3) (o:=.lst []);generalize ag M2 p3 (.lst [])=M3 at g3 e3⊢;refine gK ∅ hP (n:=n+cs.length) ∅ Bs.init (λe he=>by cases he) (_) (ts:=(Lc cs.length).map (mkd cs cs.length)) (by simp;lia) (λt ht=>?_) e3 (g3 _ _ L) λpb base M4 O IO hf nb e4 g4=>?_
  ·let⟨i,hi,rfl⟩:=L7.mp ht;let hi:=LP.mp hi;show Ee hP hc hi hi
  let gA:=g2.trans (g3.trans g4);let G:=gA _ _ et;nofun;calc⟨_,ab G,?_⟩;refine ak (f:=rD) (ys:=Ts) (I:=λl ρ M' acc=>(∃o0,ρ=[o0,Z (.int cs.length),Z (.ref pb),Z (.int P),Z (.int n)])/\Ge M4 M'/\∃qs,acc=qs.map .ref/\RS qs (l.map (shr P n base cs.length)) M') rfl ⟨⟨_,rfl⟩,Ge.refl,[],rfl,rfl,λk q v h=>by simp at h⟩ (λ_ _ _ _ h=>ab (h.2.1 _ _ G)) ?_ ?_
  ·rintro l t r ρ M5 acc e5 ⟨⟨o0,rfl⟩,U,qs,rfl,Y⟩;calc⟨_,rfl,λN hN=>?_⟩;let j:=ah e5;let J:=hT t (by rw[e5];simp)
   let IP:=J.len;let h0:Vr P (n+cs.length) (t++I7 cs.length 0):=⟨by simp[IP],λx hx=>by
    rcases Lb.mp hx with hx|hx
    ·show J.inn x hx
    ·rw[My hx];lia⟩
   let hw:=dO z O.vr h0;let IQ:=Y.len;rw[h7]at IQ;ac_nf;refine⟨by rw[D0];lia,∅,∅,by rw[D0];simp;lia,.inr trivial,?_⟩
   rw[Li,gE,<-Ll];refine⟨by rw[h7,h7,N5,D0];lia,?_⟩
   refine gJ ∅ ⟨z,∅⟩ (n:=n+cs.length) ∅ O.vr (λe he=>(O.pl e he).1) h0 (U _ _ e4) λM6 g6=>?_
   let IR:=hw.len;refine zQ (by rw[h7,IR];lia) ?_
   rw[<-List.map_drop];calc⟨_,rfl,?_⟩;refine ak (f:=D.int) (ys:=(wo P base (t++I7 cs.length 0)).drop n) (I:=λl2 ρ M' acc=>(∃o0,ρ=[o0,Z (.int P)])/\M'=M6/\acc=(l2.map λx:Int=>-x%(P:Int)).map .int) rfl ⟨⟨_,rfl⟩,rfl,rfl⟩ (λ_ _ _ _ _=>by first|rfl|trivial) ?_ ?_
   ·rintro l2 x r2 ρ M7 acc e7 ⟨⟨o0,rfl⟩,rfl,rfl⟩;calc⟨_,rfl,λN2 IS=>?_⟩;let IT:=ah e7;rw[Ny]at IT;ac_nf;refine⟨∅,by rw[h7,h7,D0];lia,IS _ _ _ ⟨⟨_,rfl⟩,rfl,by simp⟩⟩
   ·rintro ρ M7 acc ⟨⟨o0,rfl⟩,rfl,rfl⟩ p8 hp8;let g8:=Ge.new (o:=.lst ((((wo P base (t++I7 cs.length 0)).drop n).map λx:Int=>-x%(P:Int)).map .int)) hp8;refine⟨by rw[h7,D0];lia,hN _ _ _ ⟨⟨_,rfl⟩,U.trans (g6.trans g8),qs++[p8],by simp,?_⟩⟩
    rw[Ll,Lj,Np];show(Y.ge (g6.trans g8)).snoc aa
  ·rintro ρ M5 acc ⟨⟨o0,rfl⟩,U,qs,rfl,Y⟩ po hpo;show q po qs base _ O IO hf (Y.ge (Ge.new hpo)) aa (gA.trans (U.trans (Ge.new hpo)))
def ii{cs:List (List Int)}:∀{k:Nat},k<=cs.length->(Lc k).map (λi=>gf (tat cs i))=(cs.take k).map gf
 |0,_=>by simp
 |k+1,h=>by rw[PD,Ll,ii ∅,NF,cz ∅,Ll];rfl
def Ef{n:Nat}(hP:P=2∨P=3)(hc:∀t∈cs,Vr P n t)(hi:∀k,k<cs.length->¬Sp P n ((cs.take k).map gf) (gf (tat cs k)))(L:Bs P (n+cs.length) (chF P (n+cs.length) [] ((Lc cs.length).map (mkd cs cs.length))) base)(hf:Fs base){t:List Int}(G:Vr P n t)(hs:Sp P n (cs.map gf) (gf t)):
 (shr P n base cs.length t).length=cs.length/\(∀x∈shr P n base cs.length t,0<=x/\x<P)/\∀x,x<n->(P:Int) ∣ gf t x-cm (λi=>gf (tat cs i)) (λi=>gf (shr P n base cs.length t) i) cs.length x:=by
 let O:0<P:=∅
 let h0:Vr P (n+cs.length) (t++I7 cs.length 0):=⟨by simp[G.len],λx hx=>by
  rcases Lb.mp hx with hx|hx
  ·show G.inn x hx
  ·rw[My hx];lia⟩
 let hw:=(dO O L.vr h0).len;let hl:(shr P n base cs.length t).length=cs.length:=by unfold shr;rw[h7,Ny,hw];lia
 refine⟨hl,λx hx=>?_,?_⟩
 ·let⟨y,_,rfl⟩:=L7.mp hx;show⟨Nb _ ∅,Mv _ ∅⟩
 let h1:∀i x,i<cs.length->x<n->gf (mkd cs cs.length i) x=gf (tat cs i) x:=λi x hi hx=>sK (by rw[(cA hc hi).len];show hx)
 let h2:∀i j,i<cs.length->j<cs.length->gf (mkd cs cs.length i) (n+j)=if j=i then 1 else 0:=λi j hi J=>by
  let e:=sL (a:=tat cs i) (b:=ul cs.length i) (x:=j) (by rw[du hi];show J)
  rw[(cA hc hi).len]at e;rw[<-kM hi J];show e
 let q:∀k,k<cs.length->¬Sp P n ((Lc k).map λi=>gf (tat cs i)) (gf (tat cs k)):=λk hk=>by rw[ii ∅];show hi k hk
 let B:∀k,k<=cs.length->chF P (n+cs.length) [] ((Lc k).map (mkd cs cs.length))=(Lc k).map λi=>gf (mkd cs cs.length i):=by
  intro k
  induction k with
  |zero=>intro _;rfl
  |succ k ih=>
   intro hk;rw[PD,Ll,Lj,Np,cU,ih ∅,Ll]
   ·rfl
   ·rw[ih ∅]
    intro z;apply q k ∅
    let⟨c,U⟩:=sp_cm.mp (z.less (show n<=n+cs.length by lia))
    calc sp_cm.mpr ⟨c,λx hx=>?_⟩;let:=U x hx
    rwa[h1 k x ∅ hx,eT (g':=λi=>gf (tat cs i)) (c':=c) λi Y=>by rw[h1 i x ∅ hx]]at this
 rw[B cs.length (L9 _)]at L;let fv:Sp P n ((Lc cs.length).map λi=>gf (tat cs i)) (gf t):=by rw[ii (L9 _),P7];show hs
 intro x hx;let:=FB (g:=λi=>gf (tat cs i)) (mk:=λi=>gf (mkd cs cs.length i)) hP q h1 h2 L hf (t:=t) h0 (λx hx=>sK (by rw[G.len];show hx)) (λj J=>by
  let e:=sL (a:=t) (b:=I7 cs.length 0) (x:=j) (by simpa using J)
  rw[G.len,cF]at e;show e) fv x hx
 rwa[eT (g':=λi=>gf (tat cs i)) (c':=λi=>gf (shr P n base cs.length t) i) λi Y=>by congr 1;unfold shr;rw[kI (F:=λx=>-x%(P:Int)) (by rw[Ny,hw];lia),Ca (by rw[hw];lia)]]at this
variable{xs:List (List Int×List Int)}
def m8{k f:Nat}(hx:∀x∈xs,Vr P L x.1/\Vr P R x.2)(F:xs.length<=1000000)(hf:∀(x:List Int×List Int) (M:Mem) (Q:QD),Vr P L x.1->Vr P R x.2->(∀M',Ge M M'->Q (rD (tbl P x)) M')->phi tab k f [p2D x,.int P] M Q){chk:Mem->Prop}(z:∀M',Ge M M'->chk M')(q:∀ρ M',Ge M M'->N ρ M' ((xs.map (tbl P)).map rD)):
 be (bb 0) (bN (wAr (phi tab k f) (aP (aY 0) (aP (aY 1) bx)))) chk N (xs.map p2D) [N2,Z (.int P)] M []:=by
 refine ak (f:=p2D) (ys:=xs) (I:=λl ρ M' acc=>(∃o0,ρ=[o0,Z (.int P)])/\Ge M M'/\acc=(l.map (tbl P)).map rD) rfl ⟨⟨_,rfl⟩,Ge.refl,rfl⟩ (λ_ _ _ _ h=>z _ h.2.1) ?_ ?_
 ·rintro l x r ρ M1 acc e ⟨⟨o0,rfl⟩,g1,rfl⟩;calc⟨_,rfl,λN' j=>?_⟩;let B:=ah e;let⟨h1,h2⟩:=hx x (by rw[e];simp)
  ac_nf;refine hf x _ _ h1 h2 λM2 g2=>⟨by rw[h7,h7,D0];lia,j _ _ _ ⟨⟨_,rfl⟩,g1.trans g2,by simp⟩⟩
 ·rintro ρ M1 acc ⟨⟨o0,rfl⟩,g1,rfl⟩;show q _ _ g1
def kN(z:P=2∨P=3)(j:L<=6)(q:R<=6):(prs P L R).length<=1000000:=Ml (C7 ∅ j q) (·)
def xw{k:Nat}(hk:4<=k)(Y:Bd P (L*R))(z:L<=6)(B:R<=6)(hm:many<=10)(fv:∀t∈ts,TI' L R many t){p:Wk}(hp:M p=Z (.lst (ts.map tmD)))(q:∀pp pt po own M',Bs P (L*R) (chF P (L*R) [] (tbs P (L*R) R many ts)) own->Fs own->M' pp=Z (.lst ((prs P L R).map p2D))->M' pt=Z (.lst ((aq P L R).map rD))->M' po=Z (.lst (own.map eD))->Ge M M'->Q (.tup [.ref pp,.ref pt,.ref po]) M'):phi tab k 20 [.tup [.int L,.int R,.int many,.ref p],.int P] M Q:=by
 let F:=Y.p;let IK:=Y.n;refine al ∅ rfl rfl (ρ:=[Z _,Z _,N2]) rfl ?_
 unfold d20 L2.Mi.K42.b20;nofun;calc⟨_,rfl,_,rfl,?_⟩;refine zL ∅ ∅ z B λpp M1 g1 n1 G=>?_
 nofun;calc⟨_,ab G,?_⟩;refine m8 (L:=L) (R:=R) (λx hx=>ig hx) (kN F z B) (λx M Q h1 h2 q=>nC ∅ F z B h1 h2 q) (λM' g=>ab (g _ _ G)) λρ M2 g2 pt hpt=>?_
 let g3:=g2.trans (Ge.new (o:=.lst (((prs P L R).map (tbl P)).map rD)) hpt);let e3:=aa (M:=M2) (a:=pt) (o:=.lst (((prs P L R).map (tbl P)).map rD));let hb:=cj (P:=P) ∅ fv
 generalize ag M2 pt (.lst (((prs P L R).map (tbl P)).map rD))=M3 at g3 e3⊢;let J:=g3 _ _ G;let g3:=g1.trans g3;refine⟨by rw[D0];lia,λpe O=>?_⟩
 let U:=Ge.new (o:=.lst []) O;let e4:=aa (M:=M3) (a:=pe) (o:=.lst []);generalize ag M3 pe (.lst [])=M4 at U e4⊢;refine ny ∅ ⟨∅,∅⟩ z B hm fv (U _ _ (g3 _ _ hp)) λp5 M5 g5 n5 e5=>?_
 refine gK ∅ F ∅ Bs.init (λe he=>by cases he) (_) (by rw[hb.1];lia) hb.2 (g5 _ _ e4) e5 λpo own M6 ho _ hf no e6 g6=>?_
 let j:=U.trans (g5.trans g6);show⟨by rw[D0];lia,q _ _ _ _ _ ho hf (j _ _ J) (j _ _ e3) e6 (g3.trans j)⟩
def sM{n:Nat}(q:0<P)(z:∀e∈base,Vr P (n+m) e.2){t:List Int}(j:Vr P n t):(shr P n base m t).length=m:=by
 let h0:Vr P (n+m) (t++I7 m 0):=⟨by simp[j.len],λx hx=>by
  rcases Lb.mp hx with hx|hx
  ·show j.inn x hx
  ·rw[My hx];lia⟩
 unfold shr;rw[h7,Ny,(dO q z h0).len];lia
def Cb(hm:i<m)(B:∀v∈rows,v.length=m)(O:rows.length<=1000)(h:RS qs rows M){chk:Mem->Prop}(L:chk M)(q:∀ρ,N ρ M ((rows.map λrow=>gf row i).map .int)):
 be (bb 0) (bN (wOp wIx (aY 0) (aY 1))) chk N (qs.map .ref) [N2,Z (.int (i:Nat))] M []:=by
 refine ak (f:=D.ref) (ys:=qs) (I:=λl ρ M' acc=>(∃o0,ρ=[o0,Z (.int (i:Nat))])/\M'=M/\acc=((rows.take l.length).map λrow=>gf row i).map .int) rfl ⟨⟨_,rfl⟩,rfl,rfl⟩ (λ_ _ _ _ h=>by rw[h.2.1];show L) ?_ ?_
 ·rintro l x r ρ M1 acc e ⟨⟨o0,rfl⟩,rfl,rfl⟩;calc⟨_,rfl,λN' F=>?_⟩;let G:=ah e;let hx:qs[l.length]?=Z x:=by rw[e];simp
  let j:l.length<rows.length:=by rw[<-h.len];show G
  let J:rows[l.length]?=Z rows[l.length]:=z4 j;let ex:=h.at' _ _ _ hx J;let z:=B _ (Nm j);ac_nf;refine aI ex (d:=.int (gf rows[l.length] i)) (bJ (by rw[Lp,az (by rw[z];show hm)];rfl)) ⟨by rw[h7,h7,LK,D0];lia,F _ _ _ ⟨⟨_,rfl⟩,rfl,?_⟩⟩
  rw[hH,LC,NF,J,Ll,Ll];rfl
 ·rintro ρ M1 acc ⟨⟨o0,rfl⟩,rfl,rfl⟩;rw[Nk (by rw[h.len];show L9 _)]
  show q _
abbrev pat(xs:List (List Int×List Int))(i:Nat):List Int×List Int:=xs.getD i ([],[])
def cN(h:i<xs.length):xs[i]?=Z (pat xs i):=by unfold pat;rw[Lw,z4 h];rfl
abbrev mkP(xs:List (List Int×List Int))(rows:List (List Int))(i:Nat):Pr:=((pat xs i).1,(pat xs i).2,rows.map λrow=>gf row i)
abbrev gL(xs:List (List Int×List Int))(rows:List (List Int)):List Pr:=(Lc xs.length).map (mkP xs rows)
def zR(xs:List (List Int×List Int)):cK (xs.map p2D)=xs.zipIdx.map λp=>.tup [.int (p.2:Nat),p2D p.1]:=by
 unfold cK;apply NV;intro i;rw[OU,Lp,Lp,NQ]
 cases xs[i]?<;>simp
def qO{k:Nat}(hk:5<=k)(hB:Bd P (L*R))(hL:L<=6)(hR:R<=6)(hm:1<=many/\many<=10)(ht:∀t∈ts,TI' L R many t)(hx:∀x∈xs,Vr P L x.1/\Vr P R x.2)(IN:xs.length<=12){p pp:Wk}(hp:M p=Z (.lst (ts.map tmD)))(U:M pp=Z (.lst (xs.map p2D)))(q:∀pr base M',Bs P (L*R+xs.length) (chF P (L*R+xs.length) [] ((Lc xs.length).map (mkd (xs.map (tbl P)) xs.length))) base->base=((Lc xs.length).map (mkd (xs.map (tbl P)) xs.length)).foldl (gst P) []->Fs base->M pr=N2->M' pr=Z (.lst ((gL xs ((tbs P (L*R) R many ts).map (shr P (L*R) base xs.length))).map prD))->Ge M M'->Q (.tup [.int L,.int R,.int many,.ref pr]) M'):phi tab k 19 [.tup [.int L,.int R,.int many,.ref p],.ref pp,.int P] M Q:=by
 let hP:=hB.p;let IT:=hB.n;let B:0<P:=∅
 refine al ∅ rfl rfl (ρ:=[Z _,Z _,Z _,N2,N2,N2,N2,N2]) rfl ?_
 unfold d19 L2.Mi.K42.b19;nofun;nofun;refine ny ∅ ⟨∅,∅⟩ hL hR hm.2 ht hp λp1 M1 g1 n1 e1=>?_
 let j:=g1 _ _ U;calc⟨_,ab j,?_⟩;refine m8 (L:=L) (R:=R) hx ∅ (λx M Q h1 h2 q=>nC ∅ hP hL hR h1 h2 q) (λM' g=>ab (g _ _ j)) λρ M2 g2 pt hpt=>?_
 let g3:=g2.trans (Ge.new (o:=.lst ((xs.map (tbl P)).map rD)) hpt);let e3:=aa (M:=M2) (a:=pt) (o:=.lst ((xs.map (tbl P)).map rD));generalize ag M2 pt (.lst ((xs.map (tbl P)).map rD))=M3 at g3 e3⊢;let Y:=cj (P:=P) B ht;let fv:(xs.map (tbl P)).length=xs.length:=by simp
 refine xv ∅ hB Y.2 (by rw[Y.1];show hm) (λt h=>?_) (by rw[fv];show IN) (g3 _ _ e1) e3 λpo qs base M4 F IK IO G e4 g4=>?_
 ·let⟨x,h',rfl⟩:=L7.mp h;show qM B (hx x h').1.len (hx x h').2.len
 rw[fv]at F G IK;let gA:=g1.trans (g3.trans g4);let IP:=G.len;rw[h7,Y.1]at IP;let z:=gA _ _ U;nofun;calc⟨_,ab z,?_⟩;rw[zR];refine ak (f:=λp:(List Int×List Int)×Nat=>.tup [.int (p.2:Nat),p2D p.1]) (ys:=xs.zipIdx) (I:=λl ρ M' acc=>(∃o0 o1 o2,ρ=[o0,o1,o2,Z (.ref po)])/\Ge M4 M'/\acc=((Lc l.length).map (mkP xs ((tbs P (L*R) R many ts).map (shr P (L*R) base xs.length)))).map prD) rfl ⟨⟨_,_,_,rfl⟩,Ge.refl,rfl⟩ (λ_ _ _ _ h=>ab (h.2.1 _ _ z)) ?_ ?_
 ·rintro l x r ρ M5 acc e5 ⟨⟨o0,o1,o2,rfl⟩,J,rfl⟩;calc⟨_,rfl,λN hN=>?_⟩;let O:=ah e5;rw[Oa]at O;let ex:xs.zipIdx[l.length]?=Z x:=by rw[e5];simp
  rw[NQ,cN O]at ex;let ex:=LG.inj ex;let IQ:x.2=l.length:=by rw[<-ex];simp
  let IR:pat xs l.length=x.1:=by rw[<-ex]
  ac_nf;calc⟨_,ab (J _ _ e4),?_⟩;rw[IQ];refine Cb (m:=xs.length) O (λv hv=>?_) (by rw[h7,Y.1];lia) (G.ge J) (ab (J _ _ e4)) λρ p6 hp6=>⟨_,_,rfl,ab aa,?_⟩
  ·let⟨t,IS,rfl⟩:=L7.mp hv;show sM B F.vr (Y.2 t IS)
  refine⟨by rw[D0];lia,by rw[h7,h7,Lq,D0];lia,hN _ _ _ ⟨⟨_,_,_,rfl⟩,J.trans (Ge.new hp6),?_⟩⟩
  rw[hH,LC,PD,Ll,Ll,Lj,Np,Lj,Np];unfold mkP prD;rw[IR]
 ·rintro ρ M5 acc ⟨⟨o0,o1,o2,rfl⟩,J,rfl⟩ pr IM;rw[Oa];show⟨by rw[D0];lia,q pr base _ F IK IO (aS (gA.trans J) IM) aa (gA.trans (J.trans (Ge.new IM)))⟩
abbrev Sx(P n:Nat)(A:List (Nat->Int))(T:List (List Int))(ix:List Nat):List (Nat->Int):=chF P n A (ix.map (tat T))
abbrev Cx'(P n:Nat)(A:List (Nat->Int))(T:List (List Int))(ix:List Nat):Prop:=(chS P n (Sx P n A T ix) T).length=(Sx P n A T ix).length
abbrev Pre(P n:Nat)(A:List (Nat->Int))(T:List (List Int))(e:Nat):Prop:=∀e',e'<e->bn T.length e'<=3000/\∀ix∈sts T.length e' e',¬Cx' P n A T ix
def Cc{n:Nat}:∀{T:List (List Int)},(∀t∈T,Sp P n S (gf t))->chS P n S T=chF P n [] T:=by
 intro T h;let:∀(T:List (List Int)) (A:List (Nat->Int)),(∀t∈T,Sp P n S (gf t))->T.foldl (λA t=>@ite _ (Sp P n S (gf t)/\¬Sp P n A (gf t)) (Nf _) (A++[gf t]) A) A=chF P n A T:=by
  intro T
  induction T with
  |nil=>intro A _;rfl
  |cons t T ih=>
   intro A h;let h1:=h t Ld;rw[Nl]
   by_cases e:Sp P n A (gf t)
   ·rw[if_neg (λz=>z.2 e),bD e];show ih _ λx hx=>h x (L4 _ hx)
   ·rw[if_pos ⟨h1,e⟩,aH e];show ih _ λx hx=>h x (L4 _ hx)
 show this T [] h
def jC{n:Nat}(q:P=2∨P=3)(z:∀t∈T,Vr P n t):In P n (chS P n S T)/\∀b∈chS P n S T,Sp P n S b:=by
 let:∀(T:List (List Int)) (A:List (Nat->Int)),(∀t∈T,Vr P n t)->In P n A->(∀b∈A,Sp P n S b)->In P n (T.foldl (λA t=>@ite _ (Sp P n S (gf t)/\¬Sp P n A (gf t)) (Nf _) (A++[gf t]) A) A)/\∀b∈(T.foldl (λA t=>@ite _ (Sp P n S (gf t)/\¬Sp P n A (gf t)) (Nf _) (A++[gf t]) A) A),Sp P n S b:=by
  intro T
  induction T with
  |nil=>intro A _ h1 h2;show⟨h1,h2⟩
  |cons t T ih=>
   intro A h h1 h2;rw[Nl]
   by_cases e:Sp P n S (gf t)/\¬Sp P n A (gf t)
   ·rw[if_pos e];refine ih _ (λx hx=>h x (L4 _ hx)) (h1.step q (h t Ld) e.2) λb j=>?_
    rcases Lb.mp j with j|j
    ·show h2 b j
    ·rw[LD.mp j];show e.1
   ·rw[if_neg e];show ih _ (λx hx=>h x (L4 _ hx)) h1 h2
 show this T [] z (In.init q) (_)
def W7{p:Int}{n:Nat}{S:List (Nat->Int)}:∀{bs:List (Nat->Int)} {f:Nat->Int},(∀b∈bs,Sp p n S b)->Sp p n bs f->Sp p n S f
 |[],f,_,h=>Sp.zero h
 |b::bs,f,j,⟨c,h⟩=>by let ih:=W7 (λx hx=>j x (L4 _ hx)) h;show(ih.comb (k:=c) (j b Ld)).congr λx _=>by rw[show f x-c*b x+c*b x-f x=0 by lia];show N9 _
def xx(j:P=2∨P=3)(B:1<=R)(J:In P (L*R) A):∃ix,ix∈sts (aq P L R).length ix.length ix.length/\Cx' P (L*R) A (aq P L R) ix/\ix.length<=L*R/\ix.length<=(aq P L R).length:=by
 let F:=cY (P:=P) (L:=L) (R:=R) ∅
 let⟨ix,h1,h2,G,O⟩:=qz (P:=P) (n:=L*R) (A:=A) (aq P L R) _ (L9 _);rw[P7]at G O;let hIn:=J.ch j F;let hle:=In.n j hIn;let z:ix.Nodup:=LS.mpr (h1.imp λh=>Md h);refine⟨ix,lP rfl h1 h2,?_,∅,?_⟩
 ·let U:Sx P (L*R) A (aq P L R) ix=chF P (L*R) A (aq P L R):=G;unfold Cx';rw[U,Cc λt Y=>bP Y];let q:=(In.init (P:=P) (n:=L*R) j).ch j F;show R9 (In.le j q hIn λv _ _=>qN j B _) (In.le j hIn q λv _ _=>qN j B _)
 ·let:=iT (l₂:=Lc (aq P L R).length) z λx hx=>LP.mpr (h2 x hx);simpa using this
def Pre.le(j:P=2∨P=3)(q:1<=R)(z:In P (L*R) A)(h:Pre P (L*R) A (aq P L R) e):e<=L*R/\e<=(aq P L R).length:=by
 let⟨ix,h1,h2,B,F⟩:=xx j q z;let:e<=ix.length:=by
  rcases Qz ix.length e with k|k
  ·show absurd h2 ((h _ k).2 ix h1)
  ·show k
 lia
def nE{n:Nat}(he:e<=T.length)(h:Pre P n A T e)(hm:ix∈sts T.length e e)(j:Cx' P n A T ix):(Sx P n A T ix).length=A.length+e:=by
 let⟨h1,h2,z⟩:=qB he hm;let hle:=iS (P:=P) (n:=n) (ts:=ix.map (tat T)) (A:=A);rw[h7,h1]at hle
 rcases Qz (Sx P n A T ix).length (A.length+e)with k|k
 ·exfalso
  let⟨i,hi,q⟩:=qw (P:=P) (n:=n) (ts:=ix.map (tat T)) (A:=A) (by rw[h7,h1];show k)
  rw[h7,h1]at hi;let B:(ix.map (tat T)).eraseIdx i=(ix.eraseIdx i).map (tat T):=by rw[QC,QC,Ll,U8,List.map_drop]
  rw[B]at q;let F:(ix.eraseIdx i).length=e-1:=by rw[List.length_eraseIdx_of_lt ∅,h1]
  refine(h (e-1) ∅).2 (ix.eraseIdx i) (lP F (h2.sublist (T5 _ _)) λx hx=>z x ((T5 _ _).subset hx)) ?_
  unfold Cx' Sx at j⊢;rw[q];show j
 ·show R9 hle k
structure Out(P n:Nat)(A:List (Nat->Int))(T:List (List Int))(e:Nat)(b:Bool):Prop where
 pre:Pre P n A T e
 op:b=Wj->3000<bn T.length e
 ls:b=Wi->bn T.length e<=3000/\∃ix∈sts T.length e e,Cx' P n A T ix
def Out.uniq{n e':Nat}{b b':Bool}(h:Out P n A T e b)(g:Out P n A T e' b'):e=e'/\b=b':=by
 let lt:∀{e e':Nat} {b b':Bool},Out P n A T e b->Out P n A T e' b'->¬e<e':=by
  intro e e' b b' h g k;let⟨q,p2⟩:=g.pre e k
  cases b with
  |false=>let:=h.op rfl;lia
  |true=>let⟨_,ix,hm,j⟩:=h.ls rfl;show p2 ix hm j
 let he:e=e':=by let:=lt h g;let:=lt g h;lia
 subst he;refine⟨rfl,?_⟩
 cases b<;>cases b'
 ·rfl
 ·let:=h.op rfl;let:=(g.ls rfl).1;lia
 ·let:=g.op rfl;let:=(h.ls rfl).1;lia
 ·rfl
def Eg(hP:0<P):∀{ts:List Tm},(∀t∈ts,TI' L R many t)->(ts.map (·.1)).Nodup->∀(k i j:Nat),k<many->i<L->j<R->gf (tat (tbs P (L*R) R many ts) k) (i*R+j)=cf ts ((k:Int),(i:Int),(j:Int))%P:=by
 intro ts
 induction h:ts.length generalizing ts with
 |zero=>intro _ _ k i j U hi hj;let:ts=[]:=LV.mp h;subst this;unfold tbs tat;rw[TB,Lw,Mb,if_pos U,Pa,cF,cM];simp
 |succ N ih=>
  intro ht Y k i j U hi hj
  rcases NH ts with rfl|⟨us,t,rfl⟩
  ·simp at h
  rw[NI]at *
  let hl:us.length=N:=by simpa using h
  let O:∀t∈us,TI' L R many t:=λx hx=>ht x (by simp[hx])
  rw[Ll,OW]at Y;let ih:=ih hl O Y.1 k i j U hi hj;let⟨b1,b2⟩:=cj (P:=P) hP O;let⟨fv,IK,IM⟩:=ht t (_)
  let q:i*R+j<L*R:=by
   let:=Ng R (show i+1<=L by lia)
   rw[Mp]at this;lia
  let⟨k',ek⟩:=Mk fv.1;let⟨i',ei⟩:=Mk IK.1;let⟨j',ej⟩:=Mk IM.1;let hz:(t.1.2.1*R+t.1.2.2).toNat=i'*R+j':=by rw[ei,ej];lia
  rw[jA,cE,aR,cM,Rk];generalize tbs P (L*R) R many us=TT at *
  let B:k'<TT.length:=∅
  let IN:=b2 _ (Nm B);let IQ:i'*R+j'<L*R:=by
   let:=Ng R (show i'+1<=L by lia)
   rw[Mp]at this;lia
  unfold tst tat;rw[hz,ek,Li,Lw]
  by_cases e1:k'=k
  ·subst e1;rw[Nx B,Pa,z4 B,Pa];unfold tat at ih;rw[Lw,z4 B,Pa]at ih;let F:=IN.len
   by_cases e2:i'*R+j'=i*R+j
   ·let IO:i'=i/\j'=j:=by
     let a1:(i'*R+j') / R=i':=by rw[Q0,Vz ∅,Vc ∅];rfl
     let a2:(i*R+j) / R=i:=by rw[Q0,Vz ∅,Vc ∅];rfl
     let:i'=i:=by rw[<-a1,<-a2,e2]
     subst this;show⟨rfl,∅⟩
    let⟨rfl,rfl⟩:=IO;let ekey:t.1=((k':Int),(i':Int),(j':Int)):=VG ek (VG ei ej);let IP:cf us ((k':Int),(i':Int),(j':Int))=0:=fJ λu O eu=>Y.2.2 u.1 (LJ O) t.1 (_) (eu.trans ekey.symm)
    rw[if_pos ekey,IP,Rj];let:=az (v:=(TT[k']).set (i'*R+j') (t.2%P)) (x:=i'*R+j') (by rw[Pq,F];show q)
    rw[Nx (by rw[F];show q)]at this
    show(LG.inj this).symm
   ·let G:t.1≠((k':Int),(i:Int),(j:Int)):=fun z=>by
     let J:t.1.2.1=(i:Int):=by rw[z]
     let z2:t.1.2.2=(j:Int):=by rw[z]
     rw[ei]at J;rw[ej]at z2;show e2 (by rw[Rm.inj J,Rm.inj z2])
    rw[if_neg G,Rk,<-ih];let a:=az (v:=(TT[k']).set (i'*R+j') (t.2%P)) (x:=i*R+j) (by rw[Pq,F];show q)
    rw[Oe e2,az (by rw[F];show q)]at a
    show(LG.inj a).symm
  ·let G:t.1≠((k:Int),(i:Int),(j:Int)):=fun z=>by
    let J:t.1.1=(k:Int):=by rw[z]
    rw[ek]at J;show e1 (Rm.inj J)
   rw[Oe e1,if_neg G,Rk,<-ih];unfold tat;rw[Lw]
def Eh{a b:List Pr}{k i j:Int}:Tn (a++b) k i j=Tn a k i j+Tn b k i j:=by simp[Tn]
def qP{F:Nat->Pr}{k i j:Int}:∀m,Tn ((Lc m).map F) k i j=cm (λx _=>gz (F x).1 i*gz (F x).2.1 j) (λx=>gz (F x).2.2 k) m 0
 |0=>by simp[Tn,cm]
 |m+1=>by rw[PD,Ll,Eh,qP m];change _+Tn [F m] k i j=_+gz (F m).2.2 k*(gz (F m).1 i*gz (F m).2.1 j);rw[sj];simp only[Tn,Np,List.sum_nil,Rk];rw[Int.mul_comm (gz (F m).2.2 k)]
def xz{p:Int}{g g':Nat->Nat->Int}{c:Nat->Int}{x x':Nat}:∀{m:Nat},(∀i,i<m->p ∣ g i x-g' i x')->p ∣ cm g c m x-cm g' c m x'
 |0,_=>by simp[cm]
 |m+1,h=>by
  let ih:=xz (m:=m) (c:=c) λi hi=>h i ∅
  let a:p ∣ c m*(g m x-g' m x'):=N4 (h m ∅)
  let:=Pf ih a
  rwa[Int.mul_sub,show cm g c m x-cm g' c m x'+(c m*g m x-c m*g' m x')=cm g c (m+1) x-cm g' c (m+1) x' by change _=cm g c m x+c m*g m x-(cm g' c m x'+c m*g' m x');lia]at this
def Ei{f:List Int->Int}{k:Nat}(h:k<rows.length):gz (rows.map f) (k:Nat)=f (tat rows k):=by
 let e:=az (v:=rows.map f) (x:=k) (by rw[h7];show h)
 rw[Lp,cz h]at e;show(LG.inj e).symm
def j4{α:Type}{f:α->List Int}{l:List α}{a:α}(h:l[i]?=Z a):tat (l.map f) i=f a:=by unfold tat;rw[Lw,Lp,h];rfl
def rA(hP:P=2∨P=3)(Y:∀t∈ts,TI' L R many t)(IP:(ts.map (·.1)).Nodup){ixs:List Nat}(IQ:∀i∈ixs,i<(aq P L R).length)(hW:chS P (L*R) S (aq P L R)=ixs.map λi=>gf (tat (aq P L R) i))(IR:Ip P (L*R) (aq P L R) ixs)(hlen:(chS P (L*R) S (aq P L R)).length=S.length)(hS:In P (L*R) S)(IS:∀t∈tbs P (L*R) R many ts,Sp P (L*R) S (gf t))(G:Bs P (L*R+(ixs.map (pat (prs P L R))).length) (chF P (L*R+(ixs.map (pat (prs P L R))).length) [] ((Lc (ixs.map (pat (prs P L R))).length).map (mkd ((ixs.map (pat (prs P L R))).map (tbl P)) (ixs.map (pat (prs P L R))).length))) base)(IT:Fs base)(k i j:Int):
 (P:Int) ∣ Tn (gL (ixs.map (pat (prs P L R))) ((tbs P (L*R) R many ts).map (shr P (L*R) base (ixs.map (pat (prs P L R))).length))) k i j-cf ts (k,i,j):=by
 let F:0<P:=∅
 let hv:=cY (P:=P) (L:=L) (R:=R) F;let⟨IU,fv⟩:=cj (P:=P) F Y;let IK:∀x∈ixs,x<(prs P L R).length:=λx hx=>by let:=IQ x hx;unfold aq at this;simpa using this
 let q:∀x∈ixs.map (pat (prs P L R)),Vr P L x.1/\Vr P R x.2:=λx hx=>by let⟨i,hi,rfl⟩:=L7.mp hx;show ig (Lh (cN (IK i hi)))
 let J:(ixs.map (pat (prs P L R))).map (tbl P)=ixs.map (tat (aq P L R)):=by rw[N1];calc N8 λi hi=>?_;show(j4 (f:=tbl P) (cN (IK i hi))).symm
 generalize IV:ixs.map (pat (prs P L R))=xs at G J q⊢;let IW:xs.length=ixs.length:=by rw[<-IV,h7]
 let O:(xs.map (tbl P)).length=xs.length:=by simp
 let IX:∀t∈xs.map (tbl P),Vr P (L*R) t:=λt Y=>by let⟨x,hx,rfl⟩:=L7.mp Y;show qM F (q x hx).1.len (q x hx).2.len
 let IY:∀k,k<(xs.map (tbl P)).length->¬Sp P (L*R) (((xs.map (tbl P)).take k).map gf) (gf (tat (xs.map (tbl P)) k)):=by intro k U;rw[O,IW]at U;let e:=z4 U;let:=IR k _ e;rw[J,<-U8,N1,j4 e];show this
 rw[<-O]at G;let hz:∀t∈tbs P (L*R) R many ts,Sp P (L*R) ((xs.map (tbl P)).map gf) (gf t):=by intro t h;let h1:=IS t h;let⟨hI,IM⟩:=jC hP (S:=S) hv;let h2:=In.all hP hI hS (λv _ hs=>W7 IM hs) hlen (fv t h) h1;rw[hW]at h2;rw[J,N1];show h2
 by_cases hr:(0<=k/\k<many)/\(0<=i/\i<L)/\(0<=j/\j<R)
 ·let⟨⟨k0,k1⟩,⟨i0,i1⟩,⟨j0,j1⟩⟩:=hr;let⟨k,rfl⟩:=Mk k0;let⟨i,rfl⟩:=Mk i0;let⟨j,rfl⟩:=Mk j0;let U:k<(tbs P (L*R) R many ts).length:=by lia
  let IZ:i*R+j<L*R:=by
   let:=Ng R (show i+1<=L by lia)
   rw[Mp]at this;lia
  let IN:=Lh (cz U);let⟨_,_,h3⟩:=Ef hP IX IY G IT (fv _ IN) (hz _ IN);let h3:=h3 (i*R+j) IZ;rw[Eg F Y IP k i j ∅ ∅ ∅,O]at h3
  unfold gL;rw[qP];let IO:∀x,gz (mkP xs ((tbs P (L*R) R many ts).map (shr P (L*R) base xs.length)) x).2.2 (k:Nat)=gf (shr P (L*R) base xs.length (tat (tbs P (L*R) R many ts) k)) x:=λx=>by change gz (NX (λrow=>gf row x) _) _=_;rw[Ei (by rw[h7];show U),j4 (cz U)]
  rw[show(λx=>gz (mkP xs ((tbs P (L*R) R many ts).map (shr P (L*R) base xs.length)) x).2.2 (k:Nat))=λx=>gf (shr P (L*R) base xs.length (tat (tbs P (L*R) R many ts) k)) x from funext IO];let h4:=xz (p:=P) (g:=λx _=>gz (mkP xs ((tbs P (L*R) R many ts).map (shr P (L*R) base xs.length)) x).1 (i:Nat)*gz (mkP xs ((tbs P (L*R) R many ts).map (shr P (L*R) base xs.length)) x).2.1 (j:Nat)) (g':=λx=>gf (tat (xs.map (tbl P)) x)) (c:=λx=>gf (shr P (L*R) base xs.length (tat (tbs P (L*R) R many ts) k)) x) (x:=0) (x':=i*R+j) (m:=xs.length) λx hx=>by
   let hp:=q _ (Lh (cN hx));rw[j4 (cN hx),kK hp.1.len hp.2.len ∅ ∅]
   show cr
  let h5:=Oi (Oi h4 h3) (cr (p:=P) (a:=cf ts ((k:Int),(i:Int),(j:Int))));let h6:∀A B c d:Int,A-B-(d-B)-(c-d)=A-c:=by intros;lia
  rwa[h6]at h5
 ·let e1:cf ts (k,i,j)=0:=fJ fun t J0 e=>hr (by
   let⟨a,b,c⟩:=Y t J0;rw[e]at a b c;show⟨a,b,c⟩)
  let e2:Tn (gL xs ((tbs P (L*R) R many ts).map (shr P (L*R) base xs.length))) k i j=0:=by apply Mw;intro z;calc hr (qq (L0:=L) (L1:=R) (L2:=many) (λu hu=>?_) z);let⟨x,hx,rfl⟩:=L7.mp hu;let hp:=q _ (Lh (cN (LP.mp hx)));show⟨hp.1.len,hp.2.len,by change(NX _ (NX _ _)).length=_;rw[h7,h7,IU]⟩
  rw[e1,e2];simp
noncomputable abbrev sD(b:Bool):D:=.str (Mf (if b then "least" else "open"))
structure SOk(P L R many:Nat)(ts:List Tm)(ps:List Pr):Prop where
 pr:∀p∈ps,p.1.length=L/\p.2.1.length=R/\p.2.2.length=many
 sm:∀p∈ps,(∀x∈p.1,0<=x/\x<P)/\(∀x∈p.2.1,0<=x/\x<P)/\(∀x∈p.2.2,0<=x/\x<P)
 dv:∀k i j,(P:Int) ∣ Tn ps k i j-cf ts (k,i,j)
def Ao{α:Type}{f:α->D}{l:List α}{dflt:α}(j:∀i∈ix,i<l.length)(J:ix.length<=1000)(ea:M a=Z (.lst (l.map f))){ds:List D}(z:ds=ix.map λi:Nat=>D.int ((i:Nat):Int)){chk:Mem->Prop}(F:chk M)(q:∀ρ,N ρ M ((ix.map λi=>l.getD i dflt).map f)):
 be (bb 0) (bN (wOp wIx (aY 1) (aY 0))) chk N ds [N2,Z (.ref a)] M []:=by
 refine ak (f:=λi:Nat=>D.int ((i:Nat):Int)) (ys:=ix) (I:=λl' ρ M' acc=>(∃o0,ρ=[o0,Z (.ref a)])/\M'=M/\acc=(l'.map λi=>l.getD i dflt).map f) z ⟨⟨_,rfl⟩,rfl,rfl⟩ (λ_ _ _ _ h=>by rw[h.2.1];show F) ?_ ?_
 ·rintro l' i r ρ M1 acc e ⟨⟨o0,rfl⟩,rfl,rfl⟩;calc⟨_,rfl,λN' B=>?_⟩;let G:=ah e;let hi:=j i (by rw[e];simp)
  ac_nf;refine aI ea (d:=f (l.getD i dflt)) (bJ (by rw[Lp,Lw,z4 hi];rfl)) ⟨by rw[h7,h7,D0];lia,B _ _ _ ⟨⟨_,rfl⟩,rfl,by simp⟩⟩
 ·rintro ρ M1 acc ⟨⟨o0,rfl⟩,rfl,rfl⟩;show q _
def xA{c:TTd}{tb:TSd}{D:bh}{N:Nat}(I:Nat->ar->Mem->Prop){ρ:ar}(h:I 0 ρ M)(last:∀ρ M,¬I (N+1) ρ M)(step:∀j ρ M,I j ρ M->∀W:ar->Mem->Prop,(∀ρ' M',I (j+1) ρ' M'->W ρ' M')->c ρ M λb q=>if b=Wi then tb {D with nx:=W,ct:=W,bk:=D.nx} ρ q else D.nx ρ q):∃n,aT c tb D n ρ M:=by
 let go:∀i j ρ M,j+i=N+1->I j ρ M->aT c tb D i ρ M:=by
  intro i
  induction i with
  |zero=>intro j ρ M e h;rw[show j=N+1 by lia]at h;show absurd h (last _ _)
  |succ i ih=>intro j ρ M e h;show step j ρ M h _ λρ' M' h'=>ih (j+1) ρ' M' ∅ h'
 show⟨N+1,go (N+1) 0 ρ M ∅ h⟩
abbrev xsF(P L R:Nat)(A:List (Nat->Int))(ix:List Nat):List (List Int×List Int):=(wix P (L*R) (Sx P (L*R) A (aq P L R) ix) (aq P L R) (aq P L R).length).map (pat (prs P L R))
abbrev psF(P L R many:Nat)(ts:List Tm)(A:List (Nat->Int))(ix:List Nat):List Pr:=gL (xsF P L R A ix) ((tbs P (L*R) R many ts).map (shr P (L*R) (((Lc (xsF P L R A ix).length).map (mkd ((xsF P L R A ix).map (tbl P)) (xsF P L R A ix).length)).foldl (gst P) []) (xsF P L R A ix).length))
structure Fst(P n:Nat)(A:List (Nat->Int))(T:List (List Int))(e:Nat)(ix:List Nat):Prop where
 pre:Pre P n A T e
 bn:bn T.length e<=3000
 at':∃l r,sts T.length e e=l++ix::r/\∀i∈l,¬Cx' P n A T i
 cx:Cx' P n A T ix
def Fst.mem{n:Nat}(h:Fst P n A T e ix):ix∈sts T.length e e:=by let⟨l,r,e,_⟩:=h.at';rw[e];simp
def Fst.out{n:Nat}(h:Fst P n A T e ix):Out P n A T e Wi:=⟨h.pre,(λz=>by cases z),λ_=>⟨h.bn,ix,h.mem,h.cx⟩⟩
def Fst.uniq{n e':Nat}{ix':List Nat}(h:Fst P n A T e ix)(g:Fst P n A T e' ix'):e=e'/\ix=ix':=by
 let⟨rfl,_⟩:=h.out.uniq g.out;calc⟨rfl,?_⟩;let⟨l,r,j,h1⟩:=h.at';let⟨l',r',q,h2⟩:=g.at';let z:l.length=l'.length:=by
  let key:∀{l l' r r':List (List Nat)} {ix ix':List Nat},l++ix::r=l'++ix'::r'->(∀i∈l',¬Cx' P n A T i)->Cx' P n A T ix->¬l.length<l'.length:=by
   intro l l' r r' ix ix' e h2 B k;let:(l++ix::r)[l.length]?=Z ix:=by simp
   rw[e,L8 k]at this;show h2 ix (Lh this) B
  let a:=key (j.symm.trans q) h2 h.cx;let b:=key (q.symm.trans j) h1 g.cx;lia
 let:=List.append_inj (j.symm.trans q) z;show(List.cons.inj this.2).1
def qQ{k:Nat}(hk:7<=k)(hB:Bd P (L*R))(hL:1<=L/\L<=6)(hR:1<=R/\R<=6)(hm:1<=many/\many<=10)(ht:∀t∈ts,TI' L R many t)(J6:(ts.map (·.1)).Nodup){p:Wk}(J:M p=Z (.lst (ts.map tmD)))(q1:∀e M',Out P (L*R) (chF P (L*R) [] (tbs P (L*R) R many ts)) (aq P L R) e Wj->Ge M M'->Q (.tup [sD Wj,.int (((chF P (L*R) [] (tbs P (L*R) R many ts)).length+e:Nat):Int)]) M')(q2:∀e ix pr M',Fst P (L*R) (chF P (L*R) [] (tbs P (L*R) R many ts)) (aq P L R) e ix->SOk P L R many ts (psF P L R many ts (chF P (L*R) [] (tbs P (L*R) R many ts)) ix)->(psF P L R many ts (chF P (L*R) [] (tbs P (L*R) R many ts)) ix).length=(chF P (L*R) [] (tbs P (L*R) R many ts)).length+e->(chF P (L*R) [] (tbs P (L*R) R many ts)).length+e<=L*R->M pr=N2->M' pr=Z (.lst ((psF P L R many ts (chF P (L*R) [] (tbs P (L*R) R many ts)) ix).map prD))->Ge M M'->Q (.tup [sD Wi,.int (((chF P (L*R) [] (tbs P (L*R) R many ts)).length+e:Nat):Int),.tup [.int L,.int R,.int many,.ref pr]]) M'):phi tab k 21 [.tup [.int L,.int R,.int many,.ref p],.int P] M Q:=by
 let O:=hB.p;let Jh:=hB.n;let IK:0<P:=∅
 let Ji:1*1<=L*R:=LY hL.1 hR.1;let hb:=cj (P:=P) IK ht;let hT:=cY (P:=P) (L:=L) (R:=R) IK;let F:(aq P L R).length=(prs P L R).length:=by unfold aq;rw[h7]
 let IM:(aq P L R).length<=1000000:=by rw[F];show kN O hL.2 hR.2
 let hA:=(In.init (P:=P) (n:=L*R) O).ch O hb.2;let IS:∀t∈tbs P (L*R) R many ts,Sp P (L*R) (chF P (L*R) [] (tbs P (L*R) R many ts)) (gf t):=λt h=>bP h;refine al ∅ rfl rfl (ρ:=[Z _,Z _,N2,N2,N2,N2,N2,N2,N2,N2]) rfl ?_
 unfold d21 L2.Mi.K42.b21;nofun;refine xw ∅ hB hL.2 hR.2 hm.2 ht J λpp pt po own M1 ho hf e1 e2 e3 g1=>?_
 generalize chF P (L*R) [] (tbs P (L*R) R many ts)=A at q1 q2 hA IS ho;let IT:=ho.len;let Jj:=ho.le;calc⟨_,rfl,?_⟩;nofun;nofun;refine xA (N:=L*R) (λj ρ M'=>(∃o6 o7 o8 o9,ρ=[Z (.tup [.int L,.int R,.int many,.ref p]),Z (.int P),Z (.ref pp),Z (.ref pt),Z (.ref po),Z (.int (j:Nat)),o6,o7,o8,o9])/\Ge M1 M'/\Pre P (L*R) A (aq P L R) j) ⟨⟨_,_,_,_,rfl⟩,Ge.refl,λe' h=>absurd h ∅⟩ (λρ M' h=>by let:=(h.2.2.le O hR.1 hA).1;lia) ?_
 rintro e ρ M2 ⟨⟨o6,o7,o8,o9,rfl⟩,g2,q⟩ W hW;let⟨Jg,B⟩:=q.le O hR.1 hA;ac_nf;calc⟨_,_,rfl,bv (ab (g2 _ _ e1)),?_⟩;rw[h7,<-F];refine C8 ∅ B IM ?_
 ac_nf
 by_cases IN:bn (aq P L R).length e<=3000
 ·rw[if_pos ∅]
  nofun;calc⟨_,_,rfl,bv (ab (g2 _ _ e1)),?_⟩;rw[h7,<-F];refine C9 ∅ B IM ∅ IN λps M3 g3 n3 e4=>?_
  calc⟨_,ab e4,?_⟩;refine au (f:=ixD) (ys:=sts (aq P L R).length e e) (I:=λl2 ρ M'=>(∃o6 o7 o8 o9,ρ=[Z (.tup [.int L,.int R,.int many,.ref p]),Z (.int P),Z (.ref pp),Z (.ref pt),Z (.ref po),Z (.int (e:Nat)),o6,o7,o8,o9])/\Ge M3 M'/\∀ix∈l2,¬Cx' P (L*R) A (aq P L R) ix) rfl ⟨⟨_,_,_,_,rfl⟩,Ge.refl,by simp⟩ (λ_ _ _ h=>ab (h.2.1 _ _ e4)) ?_ ?_
  ·rintro l2 ix r2 ρ M4 IU ⟨⟨o6,o7,o8,o9,rfl⟩,g4,G⟩;calc⟨_,rfl,λF2 J7=>?_⟩;let U:ix∈sts (aq P L R).length e e:=by rw[IU];simp
   let⟨Jk,_,IO⟩:=qB B U;let IV:=g2.trans (g3.trans g4);nofun;refine Ao (f:=rD) (l:=aq P L R) (dflt:=[]) IO ∅ (IV _ _ e2) rfl (by first|rfl|trivial) λρ p5 hp5=>?_
   let g5:=Ge.new (o:=.lst ((ix.map λi=>(aq P L R).getD i []).map rD)) hp5;let e5:=aa (M:=M4) (a:=p5) (o:=.lst ((ix.map λi=>(aq P L R).getD i []).map rD));generalize ag M4 p5 (.lst ((ix.map λi=>(aq P L R).getD i []).map rD))=M5 at g5 e5⊢;let IW:=IV.trans g5;refine gK ∅ O ∅ ho hf ∅ (ts:=ix.map (tat (aq P L R))) (by rw[h7];lia) (λt h=>?_) (IW _ _ e3) e5 λpsp space M6 hS _ Jl nS e6 g6=>?_
   ·let⟨i,hi,rfl⟩:=L7.mp h;show cA hT (IO i hi)
   let IX:=IW.trans g6;nofun;refine uN ∅ hB hS hT IM e6 (IX _ _ e2) λpc pb ixs base M7 IY Y J8 J9 Ja e7 f7 g7=>?_
   let IP:=IX.trans g7;calc⟨_,rfl,?_⟩;nofun;calc⟨_,_,rfl,bv (ab f7),_,_,rfl,bv (ab (g7 _ _ e6)),?_⟩;rw[h7,h7,Ja.len,hS.len];dsimp only;ac_nf
   by_cases hC:(chS P (L*R) (chF P (L*R) A (ix.map (tat (aq P L R)))) (aq P L R)).length=(chF P (L*R) A (ix.map (tat (aq P L R)))).length
   ·rw[if_pos (by rw[hC];simp)]
    let hlen:=nE B q U hC;let Jm:=hS.le;let IZ:=hA.ch O (ts:=ix.map (tat (aq P L R))) λt h=>by let⟨i,hi,rfl⟩:=L7.mp h;show cA hT (IO i hi)
    let J0:ixs.length=A.length+e:=by let:=congrArg Pb IY;rw[h7,hC]at this;rw[<-this];show hlen
    let fv:∀i∈ixs,i<(prs P L R).length:=λi hi=>by rw[<-F];show Y i hi
    let IQ:∀x∈ixs.map (pat (prs P L R)),Vr P L x.1/\Vr P R x.2:=λx hx=>by let⟨i,hi,rfl⟩:=L7.mp hx;show ig (Lh (cN (fv i hi)))
    let Jn:(chF P (L*R) A (ix.map (tat (aq P L R)))).length=A.length+e:=hlen;nofun;calc⟨_,_,rfl,bv (ab (IP _ _ e3)),?_⟩;rw[h7,IT];ac_nf;calc⟨_,ab e7,?_⟩;refine Ao (f:=p2D) (l:=prs P L R) (dflt:=([],[])) fv ∅ (IP _ _ e1) rfl (ab e7) λρ p8 hp8=>?_
    let g8:=Ge.new (o:=.lst ((ixs.map λi=>(prs P L R).getD i ([],[])).map p2D)) hp8;let e8:=aa (M:=M7) (a:=p8) (o:=.lst ((ixs.map λi=>(prs P L R).getD i ([],[])).map p2D));generalize ag M7 p8 (.lst ((ixs.map λi=>(prs P L R).getD i ([],[])).map p2D))=M8 at g8 e8⊢;let IR:=g1.trans (IP.trans g8);refine qO ∅ hB hL.2 hR.2 hm ht (xs:=ixs.map (pat (prs P L R))) IQ (by rw[h7];lia) (IR _ _ J) e8 λpr base' M9 J1 Jb Jc npr e9 g9=>?_
    refine⟨by rw[D0];lia,?_⟩
    rw[<-SW];let Jd:gL (ixs.map (pat (prs P L R))) ((tbs P (L*R) R many ts).map (shr P (L*R) base' (ixs.map (pat (prs P L R))).length))=psF P L R many ts A ix:=by unfold psF xsF;rw[Jb,J8];rfl
    let hok:SOk P L R many ts (gL (ixs.map (pat (prs P L R))) ((tbs P (L*R) R many ts).map (shr P (L*R) base' (ixs.map (pat (prs P L R))).length))):=by
     refine⟨λu hu=>?_,λu hu=>?_,λk i j=>rA O ht J6 Y IY J9 hC IZ (λt h=>i8 (IS t h)) J1 Jc k i j⟩
     ·let⟨x,hx,rfl⟩:=L7.mp hu;let J:=IQ _ (Lh (cN (LP.mp hx)));show⟨J.1.len,J.2.len,by change(NX _ (NX _ _)).length=_;rw[h7,h7,hb.1]⟩
     ·let⟨x,hx,rfl⟩:=L7.mp hu;let hx:=LP.mp hx;let J:=IQ _ (Lh (cN hx));calc⟨λy hy=>J.1.inn y hy,λy hy=>J.2.inn y hy,λy hy=>?_⟩;let⟨row,J2,rfl⟩:=L7.mp (show y∈NX _ _ from hy);let⟨t,Je,rfl⟩:=L7.mp J2;let hl:=sM IK J1.vr (hb.2 t Je);let Jf:=Lh (az (v:=shr P (L*R) base' (ixs.map (pat (prs P L R))).length t) (x:=x) (by rw[hl];show hx))
      let⟨z,_,ez⟩:=L7.mp (show _∈NX _ _ from Jf);rw[<-ez];show⟨Nb _ ∅,Mv _ ∅⟩
    let J3:(gL (ixs.map (pat (prs P L R))) ((tbs P (L*R) R many ts).map (shr P (L*R) base' (ixs.map (pat (prs P L R))).length))).length=A.length+e:=by unfold gL;simp[J0]
    rw[Jd]at hok J3 e9;show q2 e ix pr _ ⟨q,IN,⟨l2,r2,IU,G⟩,hC⟩ hok J3 ∅ (aS IR npr) e9 (IR.trans g9)
   ·rw[if_neg (by simp only[beq_iff_eq];lia)]
    refine J7 _ _ ⟨⟨_,_,_,_,rfl⟩,g4.trans (g5.trans (g6.trans g7)),λix' h'=>?_⟩
    rcases Lb.mp h' with h'|h'
    ·show G ix' h'
    ·rw[LD.mp h'];show hC
  ·rintro ρ M4 ⟨⟨o6,o7,o8,o9,rfl⟩,g4,G⟩;dsimp only;nofun;refine hW _ _ ⟨⟨_,_,_,_,rfl⟩,g2.trans (g3.trans g4),λe' Jo=>?_⟩
   by_cases z:e'=e
   ·rw[z];show⟨IN,G⟩
   ·show q e' ∅
 ·rw[if_neg ∅]
  nofun;calc⟨_,_,rfl,bv (ab (g2 _ _ e3)),?_⟩;rw[h7,IT];ac_nf;refine⟨by rw[D0];lia,?_⟩
  rw[<-SW];show q1 e _ ⟨q,λ_=>∅,λh=>by cases h⟩ (g1.trans g2)
def m9{P n:Nat}{T:List (List Int)}:∀{X:List Nat} {A:List (Nat->Int)},∃ix:List Nat,List.Sublist ix X/\chF P n A (ix.map (tat T))=chF P n A (X.map (tat T))/\(chF P n A (X.map (tat T))).length=A.length+ix.length
 |[],A=>⟨[],List.Sublist.refl _,rfl,rfl⟩
 |i::X,A=>by
  by_cases h:Sp P n A (gf (tat T i))
  ·let⟨ix,h1,h2,j⟩:=m9 (P:=P) (n:=n) (T:=T) (X:=X) (A:=A);show⟨ix,h1.cons _,by rw[Lj,bD h,h2],by rw[Lj,bD h,j]⟩
  ·let⟨ix,h1,h2,j⟩:=m9 (P:=P) (n:=n) (T:=T) (X:=X) (A:=A++[gf (tat T i)]);show⟨i::ix,h1.cons_cons _,by rw[Lj,Lj,aH h,aH h,h2],by rw[Lj,aH h,j,hH,LB];simp;lia⟩
def Cd{n:Nat}{t:List Int}(j:t∈T)(hs:Sp P n S (gf t)):Sp P n (chS P n S T) (gf t):=by
 let:∀(T:List (List Int)) (A:List (Nat->Int)),(Sp P n A (gf t)->Sp P n (T.foldl (λA t=>@ite _ (Sp P n S (gf t)/\¬Sp P n A (gf t)) (Nf _) (A++[gf t]) A) A) (gf t))/\(t∈T->Sp P n (T.foldl (λA t=>@ite _ (Sp P n S (gf t)/\¬Sp P n A (gf t)) (Nf _) (A++[gf t]) A) A) (gf t)):=by
  intro T
  induction T with
  |nil=>intro A;show⟨λh=>h,λh=>by cases h⟩
  |cons u T ih=>
   intro A;rw[Nl]
   by_cases e:Sp P n S (gf u)/\¬Sp P n A (gf u)
   ·rw[if_pos e];refine⟨λh=>(ih _).1 h.more,λh=>?_⟩
    rcases Lm.mp h with rfl|h
    ·show(ih _).1 Sp.last
    ·show(ih _).2 h
   ·rw[if_neg e];refine⟨(ih _).1,λh=>?_⟩
    rcases Lm.mp h with rfl|h
    ·show(ih _).1 (Mw λz=>e ⟨hs,z⟩)
    ·show(ih _).2 h
 show(this T []).2 j
def qR{n:Nat}{ts:List (List Int)}(h:∀t∈ts,Sp P n S (gf t)):∀b∈chF P n [] ts,Sp P n S b:=by
 let:∀(ts:List (List Int)) (A:List (Nat->Int)),(∀t∈ts,Sp P n S (gf t))->(∀b∈A,Sp P n S b)->∀b∈chF P n A ts,Sp P n S b:=by
  intro ts
  induction ts with
  |nil=>intro A _ h b j;show h b j
  |cons t ts ih=>
   intro A h1 h2
   by_cases e:Sp P n A (gf t)
   ·rw[bD e];show ih A (λx hx=>h1 x (L4 _ hx)) h2
   ·rw[aH e];refine ih _ (λx hx=>h1 x (L4 _ hx)) λb j=>?_
    rcases Lb.mp j with j|j
    ·show h2 b j
    ·rw[LD.mp j];show h1 t Ld
 show this ts [] h (_)
variable{Ds:List (List Int)}
def xB{n:Nat}(q:P=2∨P=3)(hD:∀t∈Ds,Vr P n t)(hT:∀t∈T,Vr P n t)(z:Pre P n (chF P n [] Ds) T e){Y:List (List Int)}(hY:∀y∈Y,y∈T)(hc:∀t∈Ds,Sp P n (chF P n [] Y) (gf t)):(chF P n [] Ds).length+e<=Y.length:=by
 let L:∀y∈Y,Vr P n y:=λy F=>hT y (hY y F);let hA:=(In.init (P:=P) (n:=n) q).ch q hD;let IN:=(In.init (P:=P) (n:=n) q).ch q L;let O:=qR (S:=chF P n [] Y) hc;generalize chF P n [] Ds=A at z hA O⊢
 refine_lift let X:=(Lc T.length).filter λi=>decide (tat T i∈Y);?_
 let IO:∀i∈X,i<T.length:=λi hi=>LP.mp (LM.mp hi).1;let IP:X.Pairwise (· < ·):=List.Pairwise.sublist Q5 List.pairwise_lt_range;let IQ:∀y∈Y,y∈X.map (tat T):=λy F=>by
  let⟨i,hi⟩:=Nv (hY y F);let U:=(L5.mp hi).1;let J:tat T i=y:=by rw[cz U]at hi;show LG.inj hi
  show L7.mpr ⟨i,LM.mpr ⟨LP.mpr U,by rw[J];simpa using F⟩,J⟩
 let fv:∀t∈X.map (tat T),t∈Y:=λt J=>by let⟨i,hi,rfl⟩:=L7.mp J;simpa using(LM.mp hi).2
 let⟨ix,h1,h2,h3⟩:=m9 (P:=P) (n:=n) (T:=T) (X:=X) (A:=A);let hS:Sx P n A T ix=chF P n A (X.map (tat T)):=h2;let G:=hA.ch q (ts:=X.map (tat T)) λt J=>L t (fv t J);let IK:∀f,Sp P n (chF P n A (X.map (tat T))) f->Sp P n (chF P n [] Y) f:=by
  intro f hf;calc W7 (λb j=>?_) hf;let:∀(ts:List (List Int)) (B:List (Nat->Int)),(∀t∈ts,t∈Y)->(∀b∈B,Sp P n (chF P n [] Y) b)->∀b∈chF P n B ts,Sp P n (chF P n [] Y) b:=by
   intro ts
   induction ts with
   |nil=>intro B _ h b j;show h b j
   |cons t ts ih=>
    intro B h1 h2
    by_cases e:Sp P n B (gf t)
    ·rw[bD e];show ih B (λx hx=>h1 x (L4 _ hx)) h2
    ·rw[aH e];refine ih _ (λx hx=>h1 x (L4 _ hx)) λb j=>?_
     rcases Lb.mp j with j|j
     ·show h2 b j
     ·rw[LD.mp j];show bP (h1 t Ld)
  show this _ A fv O b j
 let hle:=In.le q G IN λv _ hs=>IK _ hs;let IR:=iS (P:=P) (n:=n) (ts:=Y) (A:=[]);rw[NN,OV]at IR;let hC:Cx' P n A T ix:=by unfold Cx';rw[hS];let⟨IM,IS⟩:=jC q (S:=chF P n A (X.map (tat T))) hT;calc R9 (In.le q IM G λv _ hs=>W7 IS hs) (In.le q G IM λv _ hs=>?_);calc W7 (λb j=>?_) (IK _ hs);show qR (λy F=>Cd (hY y F) (bP (IQ y F))) b j
 let hm:ix∈sts T.length ix.length ix.length:=lP rfl (IP.sublist h1) λx hx=>IO x (h1.subset hx);let:e<=ix.length:=by
  rcases Qz ix.length e with k|k
  ·show absurd hC ((z _ k).2 ix hm)
  ·show k
 lia
def sN{P n:Nat}{S:List (Nat->Int)}{T:List (List Int)}:∀k,(wix P n S T k).Pairwise (· < ·)/\∀i∈wix P n S T k,i<k
 |0=>⟨.nil,by simp[wix]⟩
 |k+1=>by
  let⟨h1,h2⟩:=sN (P:=P) (n:=n) (S:=S) (T:=T) k
  by_cases h:Sp P n S (gf (tat T k))/\¬Sp P n (chS P n S (T.take k)) (gf (tat T k))
  ·rw[lZ h];refine⟨L6.mpr ⟨h1,by simp,λa j b q=>by rw[LD.mp q];show h2 a j⟩,λi hi=>?_⟩
   rcases Lb.mp hi with hi|hi
   ·let:=h2 i hi;lia
   ·rw[LD.mp hi];lia
  ·rw[j3 h];show⟨h1,λi hi=>by let:=h2 i hi;lia⟩
def sP{P n:Nat}{S:List (Nat->Int)}{T:List (List Int)}:∀k,k<=T.length->chS P n S (T.take k)=(wix P n S T k).map λi=>gf (tat T i)
 |0,_=>rfl
 |k+1,j=>by
  let ih:=sP (P:=P) (n:=n) (S:=S) (T:=T) k ∅
  let e:T.take (k+1)=T.take k++[tat T k]:=by rw[NF,cz ∅];rfl
  by_cases h:Sp P n S (gf (tat T k))/\¬Sp P n (chS P n S (T.take k)) (gf (tat T k))
  ·rw[lZ h,e,lV h.1 h.2,ih,Ll];rfl
  ·rw[j3 h,e,ie h,ih]
def Ej{n:Nat}(q:P=2∨P=3)(L:∀t∈Ds,Vr P n t)(O:∀t∈T,Vr P n t)(he:e<=T.length)(h:Fst P n (chF P n [] Ds) T e ix):∃X:List Nat,X.Pairwise (· < ·)/\(∀i∈X,i<T.length)/\X.length=(chF P n [] Ds).length+e/\∀t∈Ds,Sp P n (chF P n [] (X.map (tat T))) (gf t):=by
 let Y:=(In.init (P:=P) (n:=n) q).ch q L;let z:∀t∈Ds,Sp P n (chF P n [] Ds) (gf t):=λt j=>bP j;let hlen:=nE he h.pre h.mem h.cx;let B:=(qB he h.mem).2.2;generalize chF P n [] Ds=A at *
 let F:=Y.ch q (ts:=ix.map (tat T)) λt j=>by let⟨i,hi,rfl⟩:=L7.mp j;show cA O (B i hi)
 let⟨G,J⟩:=jC q (S:=Sx P n A T ix) O;let hw:=sP (P:=P) (n:=n) (S:=Sx P n A T ix) (T:=T) T.length (L9 _);rw[P7]at hw;let⟨fv,r2⟩:=sN (P:=P) (n:=n) (S:=Sx P n A T ix) (T:=T) T.length;refine⟨_,fv,r2,?_,λt j=>?_⟩
 ·rw[<-hlen,<-h.cx,hw,h7]
 ·let h1:=In.all q G F (λv _ hs=>W7 J hs) h.cx (L t j) (i8 (z t j));calc W7 (λb U=>?_) h1;rw[hw]at U;let⟨i,hi,rfl⟩:=L7.mp U;show bP (LJ hi)
def sQ{n c:Nat}(fv:P=2∨P=3)(J:∀t∈Ds,Vr P n t)(hT:∀t∈T,Vr P n t)(j:Pre P n (chF P n [] Ds) T e){F:List Int->List (List Int)}(h1:∀v,Vr P n v->∀y∈F v,y∈T)(h2:∀v,Vr P n v->∀B,(∀y∈F v,Sp P n B (gf y))->Sp P n B (gf v))(h3:∀v,(F v).length<=c):(chF P n [] Ds).length+e<=(chF P n [] Ds).length*c:=by
 let⟨ix,_,G,L,O⟩:=qz (P:=P) (n:=n) (A:=[]) Ds _ (L9 _);rw[P7,NN,OV]at O;rw[P7]at L;let U:∀i∈ix,Vr P n (tat Ds i):=λi hi=>cA J (G i hi);let hlen:∀l:List Nat,(l.flatMap λi=>F (tat Ds i)).length<=l.length*c:=by
  intro l
  induction l with
  |nil=>simp
  |cons i l ih=>rw[MD,hH,LB,Mp];let:=h3 (tat Ds i);lia
 let:=xB fv J hT j (Y:=ix.flatMap λi=>F (tat Ds i)) (λy q=>by
  let⟨i,hi,q⟩:=Mn.mp q;show h1 _ (U i hi) y q) (λt z=>by
  let z:=bP (P:=P) (n:=n) (A:=[]) z;rw[<-L]at z;calc W7 (qR λu hu=>?_) z;let⟨i,hi,rfl⟩:=L7.mp hu;show h2 _ (U i hi) _ λy q=>bP (Mn.mpr ⟨i,hi,q⟩))
 let h9:=hlen ix;rw[O]at this⊢;lia
abbrev nrm(P:Nat)(r:List Int):List Int:=r.map λx=>(gf r (fi r)*x)%P
variable{r:List Int}
def sR{n:Nat}(B:Vr P n r)(F:r≠I7 n 0):fi r<n/\gf r (fi r)≠0/\∀x,x<fi r->gf r x=0:=by
 let hex:∃x∈r,(x != 0)=Wi:=by apply Mw;intro h;apply F;rw[QH];calc⟨B.len,λx hx=>?_⟩;apply Mw;intro z;show h ⟨x,hx,by simpa using z⟩
 let j:fi r<r.length:=by unfold fi;let⟨x,hx,h⟩:=hex;show List.findIdx_lt_length_of_exists ⟨x,hx,h⟩
 let G:(r[fi r] != 0)=Wi:=List.findIdx_getElem (p:=λx:Int=>x != 0) (w:=j);refine⟨by rw[<-B.len];show j,?_,λx hx=>?_⟩
 ·let e:=az j;rw[z4 j]at e;rw[<-LG.inj e];simpa using G
 ·let q:x<r.length:=by lia
  let e:=az q;rw[z4 q]at e;rw[<-LG.inj e];let:=List.not_of_lt_findIdx (p:=λx:Int=>x != 0) (xs:=r) (i:=x) hx;simpa using this
def ik{n:Nat}(q:0<P)(j:Vr P n r):Vr P n (nrm P r):=by
 refine⟨by unfold nrm;rw[h7];show j.len,λx hx=>?_⟩
 let⟨y,_,rfl⟩:=L7.mp hx;show⟨Nb _ ∅,Mv _ ∅⟩
def qS{n:Nat}(j:Vr P n r)(hx:x<n):gf (nrm P r) x=(gf r (fi r)*gf r x)%P:=kI (F:=λx=>(gf r (fi r)*x)%P) (by rw[j.len];show hx)
def FH{p:Nat}(q:p<v.length)(h1:gf v p=1)(h0:∀x,x<p->gf v x=0):fo v=Wi:=by
 let e:v=v.take p++1::v.drop (p+1):=by let z:=az q;rw[z4 q,h1]at z;rw[<-LG.inj z,List.getElem_cons_drop,NG]
 let ez:nzl (v.take p)=[]:=by
  unfold nzl;rw[Pp];intro a B;let⟨i,hi⟩:=Nv B;let j:i<p:=by let:=(L5.mp hi).1;rw[LK]at this;lia
  rw[Ob j,az ∅,h0 i j]at hi
  rw[<-LG.inj hi];simp
 let en:nzl v=1::nzl (v.drop (p+1)):=by calc(congrArg nzl e).trans ?_;unfold nzl at ez⊢;rw[LU,ez,LL (·)];rfl
 unfold fo;rw[en];simp[gz]
def xC{n:Nat}(q:P=2∨P=3)(j:Vr P n r)(z:r≠I7 n 0):fo (nrm P r)=Wi:=by
 let⟨h1,h2,B⟩:=sR j z;let F:=j.at h1;refine FH (p:=fi r) (by rw[(ik ∅ j).len];show h1) ?_ λx hx=>?_
 ·rw[qS j h1];let G:gf r (fi r)=1∨(P=3/\gf r (fi r)=2):=by lia
  rcases G with h|⟨rfl,h⟩
  ·rw[h];rcases q with rfl|rfl<;>rfl
  ·rw[h];rfl
 ·rw[qS j ∅,B x hx];simp
def xD{n:Nat}(B:P=2∨P=3)(j:Vr P n r)(z:r≠I7 n 0)(hx:x<n):(P:Int) ∣ gf r x-gf r (fi r)*gf (nrm P r) x:=by
 let⟨h1,h2,F⟩:=sR j z;let q:=j.at h1;let a:=qr (p:=P) ∅ (w:=gf r (fi r)) ∅ q.2
 rw[qS j hx];let b:(P:Int) ∣ gf r (fi r)*(gf r (fi r)*gf r x-(gf r (fi r)*gf r x)%P):=N4 cr;let c:(P:Int) ∣ (gf r (fi r)*gf r (fi r)-1)*gf r x:=Nc a;let:=Oi b c
 rwa[show gf r (fi r)*(gf r (fi r)*gf r x-gf r (fi r)*gf r x % ↑P)-(gf r (fi r)*gf r (fi r)-1)*gf r x=gf r x-gf r (fi r)*(gf r (fi r)*gf r x % ↑P) by grind]at this
def eB(j:1<=R):x=x / R*R+x%R:=by rw[Q0];show(SV x R).symm
abbrev bI(R i:Nat)(v:List Int):List Int:=(v.drop (i*R)).take R
def jD(j:Vr P (L*R) v)(hi:i<L):Vr P R (bI R i v):=by
 let:=Ng R (show i+1<=L by lia)
 rw[Mp]at this;calc⟨by unfold bI;rw[LK,Ny,j.len];lia,λx hx=>j.inn x (PV (PX hx))⟩
def xE(q:Vr P (L*R) v)(hi:i<L)(z:j<R):gf (bI R i v) j=gf v (i*R+j):=by
 let:=Ng R (show i+1<=L by lia)
 rw[Mp]at this;let e:=az (v:=bI R i v) (x:=j) (by rw[(jD q hi).len];show z)
 unfold bI at e⊢;rw[Ob z,OK,az (by rw[q.len];lia)]at e
 show(LG.inj e).symm
abbrev Fr(P L R:Nat)(v:List Int):List (List Int):=((Lc L).filter λi=>decide (bI R i v≠I7 R 0)).map λi=>tbl P (ul L i,nrm P (bI R i v))
def Ek(v:List Int):(Fr P L R v).length<=L:=by unfold Fr;rw[h7];calc Ml (LF _ _) (_)
def El(j:P=2∨P=3)(z:Vr P (L*R) v):∀y∈Fr P L R v,y∈aq P L R:=by intro y B;let⟨i,hi,rfl⟩:=L7.mp B;let⟨hi,F⟩:=LM.mp hi;let hi:=LP.mp hi;let q:=jD z hi;show L7.mpr ⟨_,Mn.mpr ⟨ul L i,LM.mpr ⟨fQ (kL j hi),ow⟩,L7.mpr ⟨nrm P (bI R i v),LM.mpr ⟨fQ (ik ∅ q),xC j q (by simpa using F)⟩,rfl⟩⟩,rfl⟩
def FI(Y:P=2∨P=3)(F:1<=R)(G:Vr P (L*R) v)(B:List (Nat->Int))(h:∀y∈Fr P L R v,Sp P (L*R) B (gf y)):Sp P (L*R) B (gf v):=by
 let one:∀i,i<L->Sp P (L*R) B λx=>if x / R=i then gf v x else 0:=by
  intro i hi;let U:=jD G hi
  by_cases J:bI R i v=I7 R 0
  ·refine Sp.zero λx hx=>?_
   split
   ·next e=>
    let hm:=RE x (show R > 0 by lia)
    let g:=xE G hi hm;rw[J,cF,<-e,<-eB F]at g;rw[<-g];show N9 _
   ·show N9 _
  ·let hs:=h _ (L7.mpr ⟨i,LM.mpr ⟨LP.mpr hi,by simpa using J⟩,rfl⟩)
   calc((Sp.zero (f:=λ_=>0) λ_ _=>N9 _).comb (k:=gf (bI R i v) (fi (bI R i v))) hs).congr λx hx=>?_;let z:x / R<L:=(O6 ∅).mpr hx
   let hm:=RE x (show R > 0 by lia)
   let q:=ik (P:=P) ∅ U
   let e:=kK (P:=P) (x:=(ul L i,nrm P (bI R i v))) (du hi) q.len z hm;rw[<-eB F,kM hi z]at e;dsimp only at e;rw[e]
   by_cases j:x / R=i
   ·rw[if_pos j,if_pos j,Int.one_mul,RY (q.at hm).1 (q.at hm).2,Rj];let d:=xD Y U J hm;rw[xE G hi hm,<-j,<-eB F,j]at d;rw[<-Qm]
    rwa[show -(gf (bI R i v) (fi (bI R i v))*gf (nrm P (bI R i v)) (x%R)-gf v x)=gf v x-gf (bI R i v) (fi (bI R i v))*gf (nrm P (bI R i v)) (x%R) by lia]
   ·rw[if_neg j,if_neg j];simp
 let go:∀k,k<=L->Sp P (L*R) B λx=>if x / R<k then gf v x else 0:=by
  intro k
  induction k with
  |zero=>intro _;show Sp.zero λx _=>by simp
  |succ k ih=>
   intro fv;refine((ih ∅).comb (k:=1) (one k ∅)).congr λx _=>?_
   by_cases O:x / R=k
   ·rw[if_neg ∅,if_pos O,if_pos ∅];simp
   ·by_cases e2:x / R<k
    ·rw[if_pos e2,if_neg O,if_pos ∅];simp
    ·rw[if_neg e2,if_neg O,if_neg ∅];simp
 show(go L (L9 _)).congr λx hx=>by rw[if_pos ((O6 ∅).mpr hx)];simp
abbrev bB(L R j:Nat)(v:List Int):List Int:=(Lc L).map λi=>gf v (i*R+j)
def Ce(hi:i<L)(q:j<R):i*R+j<L*R:=by
 let:=Ng R (show i+1<=L by lia)
 rw[Mp]at this;lia
def qT(q:Vr P (L*R) v)(z:j<R):Vr P L (bB L R j v):=by
 refine⟨by unfold bB;simp,λx hx=>?_⟩
 let⟨i,hi,rfl⟩:=L7.mp hx;show q.at (Ce (LP.mp hi) z)
def xF(hi:i<L):gf (bB L R j v) i=gf v (i*R+j):=by
 let e:=az (v:=bB L R j v) (x:=i) (by unfold bB;simpa using hi)
 unfold bB at e⊢;rw[Lp,NY hi]at e;show(LG.inj e).symm
abbrev Fc(P L R:Nat)(v:List Int):List (List Int):=((Lc R).filter λj=>decide (bB L R j v≠I7 L 0)).map λj=>tbl P (nrm P (bB L R j v),ul R j)
def Em(v:List Int):(Fc P L R v).length<=R:=by unfold Fc;rw[h7];calc Ml (LF _ _) (_)
def Eo(z:P=2∨P=3)(F:Vr P (L*R) v):∀y∈Fc P L R v,y∈aq P L R:=by intro y G;let⟨j,q,rfl⟩:=L7.mp G;let⟨q,J⟩:=LM.mp q;let q:=LP.mp q;let B:=qT F q;show L7.mpr ⟨_,Mn.mpr ⟨nrm P (bB L R j v),LM.mpr ⟨fQ (ik ∅ B),xC z B (by simpa using J)⟩,L7.mpr ⟨ul R j,LM.mpr ⟨fQ (kL z q),ow⟩,rfl⟩⟩,rfl⟩
def FJ(fv:P=2∨P=3)(J:1<=R)(hv:Vr P (L*R) v)(B:List (Nat->Int))(h:∀y∈Fc P L R v,Sp P (L*R) B (gf y)):Sp P (L*R) B (gf v):=by
 let one:∀j,j<R->Sp P (L*R) B λx=>if x%R=j then gf v x else 0:=by
  intro j G;let Y:=qT hv G
  by_cases O:bB L R j v=I7 L 0
  ·calc Sp.zero λx hx=>?_;let q:x / R<L:=(O6 ∅).mpr hx
   split
   ·next e=>let g:=xF (R:=R) (j:=j) (v:=v) q;rw[O,cF,<-e,<-eB J]at g;rw[<-g];show N9 _
   ·show N9 _
  ·let hs:=h _ (L7.mpr ⟨j,LM.mpr ⟨LP.mpr G,by simpa using O⟩,rfl⟩)
   calc((Sp.zero (f:=λ_=>0) λ_ _=>N9 _).comb (k:=gf (bB L R j v) (fi (bB L R j v))) hs).congr λx hx=>?_;let q:x / R<L:=(O6 ∅).mpr hx
   let hm:=RE x (show R > 0 by lia)
   let F:=ik (P:=P) ∅ Y
   let e:=kK (P:=P) (x:=(nrm P (bB L R j v),ul R j)) F.len (du G) q hm;rw[<-eB J,kM G hm]at e;dsimp only at e;rw[e]
   by_cases z:x%R=j
   ·rw[if_pos z,if_pos z,Vd,RY (F.at q).1 (F.at q).2,Rj];let d:=xD fv Y O q;rw[xF q,<-z,<-eB J,z]at d;rw[<-Qm]
    rwa[show -(gf (bB L R j v) (fi (bB L R j v))*gf (nrm P (bB L R j v)) (x / R)-gf v x)=gf v x-gf (bB L R j v) (fi (bB L R j v))*gf (nrm P (bB L R j v)) (x / R) by lia]
   ·rw[if_neg z,if_neg z];simp
 let go:∀k,k<=R->Sp P (L*R) B λx=>if x%R<k then gf v x else 0:=by
  intro k
  induction k with
  |zero=>intro _;show Sp.zero λx _=>by simp
  |succ k ih=>
   intro hk;refine((ih ∅).comb (k:=1) (one k ∅)).congr λx _=>?_
   by_cases U:x%R=k
   ·rw[if_neg ∅,if_pos U,if_pos ∅];simp
   ·by_cases e2:x%R<k
    ·rw[if_pos e2,if_neg U,if_pos ∅];simp
    ·rw[if_neg e2,if_neg U,if_neg ∅];simp
 show(go R (L9 _)).congr λx hx=>by rw[if_pos (RE x ∅)];simp
def Ap(z:P=2∨P=3)(B:1<=R)(F:∀t∈Ds,Vr P (L*R) t)(j:Pre P (L*R) (chF P (L*R) [] Ds) (aq P L R) e):(chF P (L*R) [] Ds).length+e<=(chF P (L*R) [] Ds).length*L/\(chF P (L*R) [] Ds).length+e<=(chF P (L*R) [] Ds).length*R:=⟨sQ z F (cY ∅) j (λv q=>El z q) (λv q=>FI z B q) Ek,sQ z F (cY ∅) j (λv q=>Eo z q) (λv q=>FJ z B q) Em⟩
abbrev Cv(P n:Nat)(Ds T:List (List Int))(K:List (Nat->Int))(first left:Nat):Prop:=∃X:List Nat,X.Pairwise (· < ·)/\(∀i∈X,first<=i/\i<T.length)/\X.length<=left/\∀t∈Ds,Sp P n (chF P n K (X.map (tat T))) (gf t)
def nF{P n:Nat}{T:List (List Int)}{K:List (Nat->Int)}:∀{X:List Nat},X.Pairwise (· < ·)->chF P n K (X.map (tat T))=K∨∃(i:Nat) (post:List Nat),i∈X/\¬Sp P n K (gf (tat T i))/\chF P n K (X.map (tat T))=chF P n (K++[gf (tat T i)]) (post.map (tat T))/\post.Pairwise (· < ·)/\(∀j∈post,i<j/\j∈X)/\post.length<X.length
 |[],_=>.inl rfl
 |x::X,h=>by
  rw[Nj]at h
  by_cases e:Sp P n K (gf (tat T x))
  ·rw[Lj,bD e]
   rcases nF (P:=P) (n:=n) (T:=T) (K:=K) h.2 with r|⟨i,post,h1,h2,B,F,z,G⟩
   ·show .inl r
   ·show .inr ⟨i,post,L4 _ h1,h2,B,F,λj q=>⟨(z j q).1,L4 _ (z j q).2⟩,by rw[LB];lia⟩
  ·show .inr ⟨x,X,Ld,e,by rw[Lj,aH e],h.2,λj q=>⟨h.1 j q,L4 _ q⟩,by simp⟩
def gN{k:Nat}(J:1<=k){r:Nat}(B:P=2∨P=3){keys:List (List Int)}(F:keys.length=P^r)(ed:DF M d Wi (keys.map kv))(q:Q (.int r) M):phi tab k 37 [.ref d,.int P] M Q:=by
 refine al ∅ rfl rfl (ρ:=[Z _,Z _,N2,N2]) rfl ?_
 unfold d37 L2.Mi.K42.b37;nofun;calc⟨_,_,rfl,ed,?_⟩;nofun;calc⟨r+1,?_⟩;rw[h7,F];let go:∀(j h:Nat),h+j=r->aT (fj (wOp wGt (aY 2) (wC (D.int 1)))) (wSs (phi tab (k-1)) (MSs.cons (MS.par 2 3 (ME.bin BOp.fdiv (ME.var 2) (ME.var 1)) (ME.bin BOp.add (ME.var 3) (ME.int 1))) MSs.nil)) {nx:=wSs (phi tab (k-1)) (MSs.cons (MS.ret (ME.var 3)) MSs.nil) {nx:=λx M'=>Q D.non M',rt:=Q},rt:=Q} (j+1) [Z (D.ref d),Z (D.int ↑P),Z (D.int ((P^j:Nat):Int)),Z (D.int (h:Nat))] M:=by
  intro j
  induction j with
  |zero=>
   intro h e;unfold aT;ac_nf;rw[if_neg (_)]
   nofun;rw[show h=r by lia];show q
  |succ j ih=>
   intro h e;let G:1<=P^j:=Nat.pow_pos ∅
   let z:P^(j+1)=P^j*P:=SM _ _;unfold aT;ac_nf;rw[if_pos (by rw[z];rcases B with rfl|rfl<;>lia)]
   nofun;refine⟨∅,by let L:(3:Int)<2^256:=(·);lia,?_⟩
   rw[z,Px,Int.mul_ediv_cancel _ ∅]
   show ih (h+1) ∅
 show go r 0 ∅
def sU{k:Nat}{M:Mem}:∀vs:List (List Int),ax (rb (k+1) M) (vs.map rD)=Z (vs.map λv=>.tuple (v.map .int))
 |[]=>rfl
 |v::r=>by
  let e:rb (k+1) M (rD v)=Z (.tuple (v.map .int)):=by simp[rb,dZ]
  rw[Lj,ax,e,sU r];rfl
def Cf{vs:List (List Int)}(j:M a=Z (.lst (vs.map rD)))(z:M b=Z (.lst []))(q:Q (.bl vs.isEmpty) M):wEq (.ref a) (.ref b) M Q:=by
 refine⟨.list (vs.map λv=>.tuple (v.map .int)),.list [],by rw[fI j,sU];rfl,by rw[fI z];rfl,?_⟩
 cases vs<;>simpa[Mr,MU]using q
def Ep{n:Nat}(hB:Bd P n)(hn:1<=n)(hD:∀t∈Ds,Vr P n t)(Ji:Ds.length<=1000)(hT:∀t∈T,Vr P n t)(Jj:T.length<=1000000){pd pt:Wk}:∀(left:Nat) {k:Nat} (hk:left+4<=k) {K:List (Nat->Int)} {keys:List (List Int)} (fv:Kn P n K keys) {d:Wk} {M:Mem} (ed:DF M d Wi (keys.map kv)) (epd:M pd=Z (.lst (Ds.map rD))) (ept:M pt=Z (.lst (T.map rD))) {first:Nat} (Ja:first<=T.length) {Q:QD}
 (q:∀c M',(c=Wi↔Cv P n Ds T K first left)->Kd d (keys.map kv) M M'->Q (.bl c) M'),phi tab k 39 [.ref d,.ref pd,.ref pt,.int (first:Nat),.int (left:Nat),.int P] M Q:=by
 let hP:=hB.p;let Jk:=hB.n;let Jl:0<P:=∅
 intro left
 induction left using Nat.strongRecOn with
 |ind left ih=>
 intro k hk K keys fv d M ed epd ept first Ja Q q
 let IQ:In P n K:=⟨_,fv⟩;let IR:pd≠d:=λz=>by
  rw[z]at epd
  rcases ed with h|h
  ·rw[epd]at h;cases h
  ·rw[epd]at h;cases h.2
 let IS:pt≠d:=λz=>by
  rw[z]at ept
  rcases ed with h|h
  ·rw[ept]at h;cases h
  ·rw[ept]at h;cases h.2
 let Jb:=hB.pw (In.n hP IQ);rw[<-fv.len]at Jb;refine al ∅ rfl rfl (ρ:=[Z _,Z _,Z _,Z _,Z _,Z _,N2,N2,N2,N2]) rfl ?_
 unfold d39 L2.Mi.K42.b39;nofun;refine⟨_,ab epd,?_⟩
 refine_lift let Ms:=Ds.filter λt=>decide (t∉keys);?_
 refine ak (f:=rD) (ys:=Ds) (I:=λl ρ M' acc=>(∃o0,ρ=[o0,Z (.ref d)])/\M'=M/\acc=(l.filter λt=>decide (t∉keys)).map rD) rfl ⟨⟨_,rfl⟩,rfl,rfl⟩ (λ_ _ _ _ h=>by rw[h.2.1];show ab epd) ?_ ?_
 ·rintro l t r ρ M1 acc e ⟨⟨o0,rfl⟩,rfl,rfl⟩;calc⟨_,rfl,λN hN=>?_⟩;let IT:=ah e;let G:=hD t (by rw[e];simp)
  let Jm:=LF (λt=>decide (t∉keys)) l;ac_nf;calc⟨_,_,_,rfl,ed,eU (ou hn G),⟨_,rfl,?_⟩⟩;rw[kJ]
  by_cases hm:t∈keys
  ·rw[if_neg (by simp[hm])]
   calc hN _ _ _ ⟨⟨_,rfl⟩,rfl,?_⟩;rw[LU,LW (by simp[hm])];simp
  ·rw[if_pos (by simp[hm])]
   refine⟨by rw[h7,D0];lia,hN _ _ _ ⟨⟨_,rfl⟩,rfl,?_⟩⟩
   rw[LU,LL (by simp[hm])];simp
 ·rintro ρ M1 acc ⟨⟨o0,rfl⟩,rfl,rfl⟩ pm hpm;let U:∀t∈Ms,t∈Ds/\t∉keys:=fun t Y=>by
   let⟨h1,h2⟩:=LM.mp Y;show⟨h1,by simpa using h2⟩
  let Jn:Ms.length<=Ds.length:=LF _ _;let g1:=Ge.new (o:=.lst (Ms.map rD)) hpm;let em:=aa (M:=M1) (a:=pm) (o:=.lst (Ms.map rD));let k1:Kd d (keys.map kv) M1 (ag M1 pm (.lst (Ms.map rD))):=(Kd.refl ed).ge g1;change wSs _ _ _ _ (ag M1 pm (.lst (Ms.map rD)));generalize ag M1 pm (.lst (Ms.map rD))=M2 at g1 em k1⊢;let Jc:pm≠d:=DF.ne ed hpm;nofun;refine⟨by rw[D0];lia,λp0 Jd=>?_⟩
  let g2:=Ge.new (o:=.lst []) Jd;let k2:=k1.ge g2;calc Cf (g2 _ _ em) aa ⟨_,rfl,?_⟩;let em:=g2 _ _ em;generalize ag M2 p0 (.lst [])=M3 at g2 k2 em⊢;clear g2 k1 g1
  by_cases hme:Ms=[]
  ·rw[hme,if_pos (by rfl)]
   nofun;refine q Wi _ ⟨λ_=>⟨[],.nil,by simp,by simp,λt Y=>?_⟩,λ_=>rfl⟩ k2
   let:t∈keys:=Mw λz=>by
    let:t∈Ms:=LM.mpr ⟨Y,by simpa using z⟩
    rw[hme]at this;cases this
   show((fv.mem t).mp this).2
  rw[if_neg (by simp[hme])]
  nofun;nofun;calc⟨_,ab em,?_⟩;refine au (f:=rD) (ys:=Ms) (I:=λl ρ M'=>Kd d (keys.map kv) M3 M'/\M' pm=Z (.lst (Ms.map rD))/\∃d' keys',(∃o8 o9,ρ=[Z (.ref d),Z (.ref pd),Z (.ref pt),Z (.int (first:Nat)),Z (.int (left:Nat)),Z (.int P),Z (.ref pm),Z (.ref d'),o8,o9])/\DF M' d' Wi (keys'.map kv)/\(d'=d∨M3 d'=N2)/\Kn P n (chF P n K l) keys') rfl ⟨Kd.refl k2.df,em,d,keys,⟨_,_,rfl⟩,k2.df,.inl rfl,fv⟩ (λ_ _ _ h=>ab h.2.1) ?_ ?_
  ·rintro l t r ρ M4 es ⟨k4,IU,d',keys',⟨o8,o9,rfl⟩,e4,IV,J⟩;calc⟨_,rfl,λF hF=>?_⟩;let L:t∈Ms:=by rw[es];simp
   let G:=hD t (U t L).1;let IX:=hB.pw (In.n hP ⟨_,J⟩);rw[<-J.len]at IX;nofun;calc⟨_,_,_,rfl,e4,eU (ou hn G),⟨_,rfl,?_⟩⟩;rw[kJ]
   by_cases hm:t∈keys'
   ·rw[if_neg (by simp[hm])]
    calc hF _ _ ⟨k4,IU,d',keys',⟨_,_,rfl⟩,e4,IV,?_⟩;rw[i7 ((J.mem _).mp hm).2];show J
   ·rw[if_pos (by simp[hm])]
    let IK:¬Sp P n (chF P n K l) (gf t):=λh=>hm ((J.mem _).mpr ⟨G,h⟩);let IY:=J.step hP G IK;nofun;refine lU ∅ hP ⟨hn,∅⟩ ∅ (λu hu=>((J.mem u).mp hu).1.len) G IY.nd e4 λf M5 O nf e5=>?_
    let IP:∀a o,a≠d->M3 a=Z o->a≠d':=λa o n e z=>by
     rcases IV with h|h
     ·show n (z.trans h)
     ·rw[z,h]at e;cases e
    refine hF _ _ ⟨⟨λa o n e=>O.kp a o (IP a o n e) (k4.kp a o n e),?_⟩,O.kp _ _ (IP _ _ Jc em) IU,f,_,⟨_,_,rfl⟩,.inl e5,.inr (k4.none nf),?_⟩
    ·by_cases z:d'=d
     ·rw[<-z];let:=FG (z▸k4.df) e4;rw[this];show O.df
     ·rcases k4.df with h|h
      ·show .inl (O.kp _ _ (λy=>z y.symm) h)
      ·show .inr ⟨rfl,O.kp _ _ (λy=>z y.symm) h.2⟩
    ·rw[cU IK];show IY
  ·rintro ρ M4 ⟨k4,IU,d',keys',⟨o8,o9,rfl⟩,e4,IV,J⟩;dsimp only;let IM:=k2.trans k4;let IW:∀t∈Ms,Vr P n t:=λt Y=>hD t (U t Y).1;nofun;refine gN ∅ hP J.len e4 ?_
   refine gN ∅ hP fv.len IM.df ?_
   ac_nf
   by_cases hgt:K.length+left<(chF P n K Ms).length
   ·rw[if_pos ∅]
    nofun;calc q Wj _ ⟨λh=>(by cases h),λg9=>?_⟩ IM;let⟨X,x1,x2,x3,x4⟩:=g9
    exfalso
    let Je:=IQ.ch hP (ts:=X.map (tat T)) λt Y=>by let⟨i,hi,rfl⟩:=L7.mp Y;show cA hT (x2 i hi).2
    let IZ:∀b∈chF P n K Ms,Sp P n (chF P n K (X.map (tat T))) b:=by
     let:∀(ts:List (List Int)) (B:List (Nat->Int)),(∀t∈ts,t∈Ds)->(∀b∈B,Sp P n (chF P n K (X.map (tat T))) b)->∀b∈chF P n B ts,Sp P n (chF P n K (X.map (tat T))) b:=by
      intro ts
      induction ts with
      |nil=>intro B _ h b hb;show h b hb
      |cons t ts ih'=>
       intro B h1 h2
       by_cases e:Sp P n B (gf t)
       ·rw[bD e];show ih' B (λx hx=>h1 x (L4 _ hx)) h2
       ·rw[aH e];refine ih' _ (λx hx=>h1 x (L4 _ hx)) λb hb=>?_
        rcases Lb.mp hb with hb|hb
        ·show h2 b hb
        ·rw[LD.mp hb];show x4 t (h1 t Ld)
     calc this Ms K (λt Y=>(U t Y).1) λb hb=>?_;let⟨l,r,rfl⟩:=Up hb;calc i8 ?_;rw[show l++b::r=(l++[b])++r by simp]
     show Sp.last.moreL _
    let a1:=In.le hP (IQ.ch hP IW) Je λv _ hs=>W7 IZ hs;let a2:=iS (P:=P) (n:=n) (ts:=X.map (tat T)) (A:=K);rw[h7]at a2;lia
   ·rw[if_neg ∅]
    let Jg:K.length<(chF P n K Ms).length:=by
     let⟨t,r,hr⟩:=RF hme;let L:t∈Ms:=by rw[hr];simp
     let Jf:¬Sp P n K (gf t):=λh=>(U t L).2 ((fv.mem t).mpr ⟨IW t L,h⟩);rw[hr,aH Jf];let⟨us,e,_⟩:=fN (P:=P) (n:=n) (ts:=r) (A:=K++[gf t]);rw[e,hH,hH];simp;lia
    let J0:=IM.kp _ _ IS ept;let Jh:=IM.kp _ _ IR epd;nofun;calc⟨_,_,rfl,bv (ab J0),?_⟩;rw[h7];refine⟨_,_,⟨rfl,rfl⟩,∅,?_⟩
    rw[show((T.length:Int)-(first:Nat)).toNat=T.length-first by lia]
    refine au (f:=λi:Nat=>D.int ((first:Nat)+(i:Nat))) (ys:=Lc (T.length-first)) (I:=λl ρ M'=>(∃o9,ρ=[Z (.ref d),Z (.ref pd),Z (.ref pt),Z (.int (first:Nat)),Z (.int (left:Nat)),Z (.int P),Z (.ref pm),Z (.ref d'),o8,o9])/\Kd d (keys.map kv) M1 M'/\∀i,first<=i->i<first+l.length->¬Sp P n K (gf (tat T i))->¬Cv P n Ds T (K++[gf (tat T i)]) (i+1) (left-1)) rfl ⟨⟨_,rfl⟩,IM,λi h1 h2=>absurd h2 (by simp;lia)⟩ (λ_ _ _ _=>by first|rfl|trivial) ?_ ?_
    ·rintro l i r ρ M5 es ⟨⟨o9,rfl⟩,O,IO⟩;calc⟨_,rfl,fun F hF=>?_⟩;let IT:=ah es;rw[Lq]at IT;let hi:i=l.length:=by
      let h9:(Lc (T.length-first))[l.length]?=Z i:=by rw[es];simp
      rw[NY IT]at h9;show(LG.inj h9).symm
     subst hi;let J1:first+l.length<T.length:=∅
     let G:=cA hT J1;let IN:=O.kp _ _ IS ept;let J2:=O.kp _ _ IR epd;let J3:atI (T.map rD) ((first:Int)+(l.length:Nat))=Z (rD (tat T (first+l.length))):=by rw[<-SW];show bJ (by rw[Lp,cz J1];rfl)
     let next:(¬Sp P n K (gf (tat T (first+l.length)))->¬Cv P n Ds T (K++[gf (tat T (first+l.length))]) (first+l.length+1) (left-1))->∀i,first<=i->i<first+(l++[l.length]).length->¬Sp P n K (gf (tat T i))->¬Cv P n Ds T (K++[gf (tat T i)]) (i+1) (left-1):=by
      intro h i h1 h2 h3;rw[hH,LC]at h2
      by_cases z:i=first+l.length
      ·subst z;show h h3
      ·show IO i h1 ∅ h3
     nofun;calc aI IN J3 ?_;calc⟨_,_,_,rfl,O.df,eU (ou hn G),⟨_,rfl,?_⟩⟩;rw[kJ]
     by_cases hm:tat T (first+l.length)∈keys
     ·rw[if_neg (by simp[hm])]
      show hF _ _ ⟨⟨_,rfl⟩,O,next λh=>absurd ((fv.mem _).mp hm).2 h⟩
     ·rw[if_pos (by simp[hm])]
      let IK:¬Sp P n K (gf (tat T (first+l.length))):=λh=>hm ((fv.mem _).mpr ⟨G,h⟩)
      let J6:=fv.step hP G IK;nofun;calc aI IN J3 ?_;refine lU ∅ hP ⟨hn,∅⟩ ∅ (λu hu=>((fv.mem u).mp hu).1.len) G J6.nd O.df λf M6 k6 nf e6=>?_
      let J7:=O.trans k6;let J8:f≠d:=DF.ne O.df nf;ac_nf;rw[show((first:Int)+(l.length:Nat)+1)=((first+l.length+1:Nat):Int) by lia,show((left:Int)-1)=((left-1:Nat):Int) by lia]
      refine ih (left-1) ∅ ∅ J6 (.inl e6) (k6.kp _ _ IR J2) (k6.kp _ _ IS IN) ∅ λc M7 hc k7=>⟨_,rfl,?_⟩
      let J9:Kd d (keys.map kv) M1 M7:=by
       refine⟨λa o n e=>k7.kp a o (λz=>?_) (J7.kp a o n e),?_⟩
       ·rw[z]at e;let:=O.kp f o (z▸n) e;rw[nf]at this;cases this
       ·rcases J7.df with h|h
        ·show .inl (k7.kp _ _ (Ne.symm J8) h)
        ·show .inr ⟨rfl,k7.kp _ _ (Ne.symm J8) h.2⟩
      cases c with
      |true=>
       rw[if_pos rfl];nofun;calc q Wi _ ⟨λ_=>?_,λ_=>rfl⟩ J9;let⟨X,x1,x2,x3,x4⟩:=hc.mp rfl;refine⟨(first+l.length)::X,Nj.mpr ⟨λj hj=>by let:=(x2 j hj).1;lia,x1⟩,λj hj=>?_,by rw[LB];lia,λt Y=>?_⟩
       ·rcases Lm.mp hj with rfl|hj
        ·lia
        ·let:=x2 j hj;lia
       ·rw[Lj,aH IK];show x4 t Y
      |false=>
       rw[if_neg (·)]
       show hF _ _ ⟨⟨_,rfl⟩,J9,next λ_ h=>by let:=hc.mpr h;cases this⟩
    ·rintro ρ M5 ⟨⟨o9,rfl⟩,O,IO⟩;dsimp only;rw[Lq]at IO;nofun;refine q Wj _ ⟨λh=>(by cases h),λ⟨X,x1,x2,x3,x4⟩=>?_⟩ O
     exfalso
     rcases nF (P:=P) (n:=n) (T:=T) (K:=K) x1 with r|⟨i,post,h1,h2,h3,h4,h5,h6⟩
     ·let⟨t,rr,hr⟩:=RF hme;let L:t∈Ms:=by rw[hr];simp
      let:=x4 t (U t L).1;rw[r]at this;show(U t L).2 ((fv.mem t).mpr ⟨IW t L,this⟩)
     ·let hi:=x2 i h1;refine IO i hi.1 ∅ h2 ⟨post,h4,λj hj=>⟨(h5 j hj).1,(x2 j (h5 j hj).2).2⟩,∅,λt Y=>?_⟩
      rw[<-h3];show x4 t Y
def xG{k:Nat}(hk:20<=k)(hB:Bd P (L*R))(O:1<=L/\L<=6)(U:1<=R/\R<=6)(hm:many<=10)(ht:∀t∈ts,TI' L R many t){p:Wk}(hp:M p=Z (.lst (ts.map tmD)))(q:∀(v:Nat) M',((L=1∨R=1)->v=(chF P (L*R) [] (tbs P (L*R) R many ts)).length)->(¬(L=1∨R=1)->v<=L*R/\(v<L*R->Cv P (L*R) (tbs P (L*R) R many ts) (aq P L R) [] 0 v)/\∀c,c<v->¬Cv P (L*R) (tbs P (L*R) R many ts) (aq P L R) [] 0 c)->Ge M M'->Q (.int (v:Nat)) M'):phi tab k 40 [.tup [.int L,.int R,.int many,.ref p],.int P] M Q:=by
 let hP:=hB.p;let IO:=hB.n;let B:0<P:=∅
 let IP:1*1<=L*R:=LY O.1 U.1;let hb:=cj (P:=P) B ht;let hT:=cY (P:=P) (L:=L) (R:=R) B;let IM:(aq P L R).length<=1000000:=by unfold aq;rw[h7];show kN hP O.2 U.2
 refine al ∅ rfl rfl (ρ:=[Z _,Z _,N2,N2,N2,N2]) rfl ?_
 unfold d40 L2.Mi.K42.b40;nofun;calc⟨_,rfl,_,rfl,?_⟩;ac_nf;refine⟨dA ∅,?_⟩
 rw[<-Px];nofun;refine uM ∅ ⟨∅,∅⟩ O.2 U.2 hm ht hp λpd M1 g1 n1 e1=>?_
 let one:∀F:bh,(L=1∨R=1)->F.rt=Q->wSs (phi tab (k-1)) (MSs.cons (MS.ret (ME.call 37 (MEs.cons (ME.call 36 (MEs.cons (ME.var 3) (MEs.cons (ME.var 2) (MEs.cons (ME.var 1) MEs.nil)))) (MEs.cons (ME.var 1) MEs.nil)))) MSs.nil) F [Z (.tup [.int L,.int R,.int many,.ref p]),Z (.int P),Z (.int (L*R:Nat)),Z (.ref pd),N2,N2] M1:=by
  intro F h1 hF;nofun;refine zP ∅ hB ∅ hb.2 e1 λd0 keys M2 hK fv n2 g2=>?_
  refine gN ∅ hP hK.len (.inl fv) ?_
  rw[hF];show q _ _ (λ_=>rfl) (λh=>absurd h1 h) (g1.trans g2)
 nofun;calc⟨_,rfl,?_⟩;ac_nf
 by_cases h1:L=1
 ·rw[if_pos (by simp[h1])]
  show one _ (.inl h1) rfl
 rw[if_neg (by simp;lia)]
 calc⟨_,rfl,?_⟩;ac_nf
 by_cases h2:R=1
 ·rw[if_pos (by simp[h2])]
  show one _ (.inr h2) rfl
 rw[if_neg (by simp;lia)]
 clear one;nofun;calc⟨_,rfl,_,rfl,?_⟩;refine xo ∅ ∅ O.2 U.2 λpp M2 g2 n2 fv=>?_
 calc⟨_,ab fv,?_⟩;refine m8 (L:=L) (R:=R) (λx hx=>ig hx) (kN hP O.2 U.2) (λx M Q h1 h2 q=>xt ∅ hP O.2 U.2 h1 h2 q) (λM' g=>ab (g _ _ fv)) λρ M3 g3 pt hpt=>?_
 let Y:=g2.trans (g3.trans (Ge.new (o:=.lst (((prs P L R).map (tbl P)).map rD)) hpt));let e4:=aa (M:=M3) (a:=pt) (o:=.lst (((prs P L R).map (tbl P)).map rD));generalize ag M3 pt (.lst (((prs P L R).map (tbl P)).map rD))=M4 at Y e4⊢;replace e4:M4 pt=Z (.lst ((aq P L R).map rD)):=e4;let e1:=Y _ _ e1;let Y:=g1.trans Y;clear g1 n1 g2 n2 fv g3 hpt;nofun;refine⟨∅,∅,?_⟩
 rw[Li];refine au (f:=λi=>D.int (i:Nat)) (ys:=Lc (L*R)) (I:=λl ρ M'=>(∃o5,ρ=[Z (.tup [.int L,.int R,.int many,.ref p]),Z (.int P),Z (.int (L*R:Nat)),Z (.ref pd),Z (.ref pt),o5])/\Ge M4 M'/\∀c,c<l.length->¬Cv P (L*R) (tbs P (L*R) R many ts) (aq P L R) [] 0 c) aC ⟨⟨_,rfl⟩,Ge.refl,λc h=>absurd h (_)⟩ (λ_ _ _ _=>by first|rfl|trivial) ?_ ?_
 ·rintro l i r ρ M5 es ⟨⟨o5,rfl⟩,g5,j⟩;calc⟨_,rfl,fun F hF=>?_⟩;let IK:=ah es;rw[Lq]at IK;let hi:i=l.length:=by
   let h9:(Lc (L*R))[l.length]?=Z i:=by rw[es];simp
   rw[NY IK]at h9;show(LG.inj h9).symm
  subst hi;nofun;intro p6 G;rw[Li,gE,nr];refine⟨by rw[D0];lia,∅,∅,by rw[D0];lia,eU (λz=>by let:=congrArg Pb z;simp at this;lia),aa,?_⟩
  let g6:=Ge.new (o:=.dct Wi ([I7 (L*R) (0:Int)].map kv)) G;let e6:=aa (M:=M5) (a:=p6) (o:=.dct Wi ([I7 (L*R) (0:Int)].map kv));change phi _ _ _ _ (ag M5 p6 (.dct Wi ([I7 (L*R) (0:Int)].map kv))) _;generalize ag M5 p6 (.dct Wi ([I7 (L*R) (0:Int)].map kv))=M6 at g6 e6⊢;let J:=g5.trans g6;refine Ep hB ∅ hb.2 (by rw[hb.1];lia) hT IM l.length ∅ (Kn.init B) (.inl e6) (J _ _ e1) (J _ _ e4) (first:=0) ∅ λc M7 hc k7=>⟨_,rfl,?_⟩
  let g7:Ge M4 M7:=λa o e=>k7.kp a o (λz=>by rw[z]at e;rw[g5 _ _ e]at G;cases G) (J _ _ e)
  cases c with
  |true=>rw[if_pos rfl];nofun;show q l.length _ (λh=>absurd h ∅) (λ_=>⟨∅,λ_=>hc.mp rfl,j⟩) (Y.trans g7)
  |false=>
   rw[if_neg (·)]
   calc hF _ _ ⟨⟨_,rfl⟩,g7,λc IN=>?_⟩;rw[hH,LC]at IN
   by_cases z:c=l.length
   ·rw[z];showλh=>by let:=hc.mpr h;cases this
   ·show j c ∅
 ·rintro ρ M5 ⟨⟨o5,rfl⟩,g5,j⟩;dsimp only;rw[Lq]at j;nofun;show q (L*R) _ (λh=>absurd h ∅) (λ_=>⟨L9 _,λh=>absurd h ∅,j⟩) (Y.trans g5)
def zS(q:P=2∨P=3)(hL:1<=L)(B:1<=R)(z:∀t∈Ds,Vr P (L*R) t)(h:Fst P (L*R) (chF P (L*R) [] Ds) (aq P L R) e ix)(hle:(chF P (L*R) [] Ds).length+e<=L*R){v:Nat}(h1:(L=1∨R=1)->v=(chF P (L*R) [] Ds).length)(h2:¬(L=1∨R=1)->v<=L*R/\(v<L*R->Cv P (L*R) Ds (aq P L R) [] 0 v)/\∀c,c<v->¬Cv P (L*R) Ds (aq P L R) [] 0 c):v=(chF P (L*R) [] Ds).length+e:=by
 let F:=cY (P:=P) (L:=L) (R:=R) ∅
 let G:=(In.init (P:=P) (n:=L*R) q).ch q z;let⟨_,he⟩:=h.pre.le q B G;let⟨J,O⟩:=Ap q B z h.pre
 by_cases j:L=1∨R=1
 ·rw[h1 j]
  rcases j with j|j
  ·rw[j,TF]at J;lia
  ·rw[j,TF]at O;lia
 ·let⟨a1,a2,U⟩:=h2 j;let⟨X,fv,x2,x3,x4⟩:=Ej q z F he h
  rcases UO v ((chF P (L*R) [] Ds).length+e)with k|k|k
  ·let⟨Y,y1,y2,y3,y4⟩:=a2 ∅
   let:=xB q z F h.pre (Y:=Y.map (tat (aq P L R))) (λy hy=>by let⟨i,hi,rfl⟩:=L7.mp hy;show Lh (cz (y2 i hi).2)) y4
   rw[h7]at this;lia
  ·show k
  ·show absurd ⟨X,fv,λi hi=>⟨N6 _,x2 i hi⟩,∅,x4⟩ (U _ k)
def Er:(prs 2 2 2).length=9/\(prs 3 2 2).length=16/\(prs 2 2 3).length=21/\(prs 2 3 2).length=21:=by decide +kernel
def kP(q:P=2∨P=3)(hL:1<=L)(F:1<=R)(hs:L=1∨R=1∨(L=2/\R=2)∨(P=2/\many<=2/\((L=2/\R=3)∨(L=3/\R=2))))(G:∀t∈Ds,Vr P (L*R) t)(hl:Ds.length=many)(h:Out P (L*R) (chF P (L*R) [] Ds) (aq P L R) e Wj):False:=by
 let J:=(In.init (P:=P) (n:=L*R) q).ch q G;let⟨z,O⟩:=h.pre.le q F J;let⟨U,Y⟩:=Ap q F G h.pre;let j:=h.op rfl;let hd:=iS (P:=P) (n:=L*R) (ts:=Ds) (A:=[]);rw[NN,OV]at hd;let B:(aq P L R).length=(prs P L R).length:=by unfold aq;rw[h7]
 rw[B]at j;let⟨fv,p2,p3,p4⟩:=Er
 rcases hs with hs|hs|⟨rfl,rfl⟩|⟨rfl,hm,hs⟩
 ·rw[hs,TF]at U;let:e=0:=by lia
  subst this;rw[bn_0]at j;lia
 ·rw[hs,TF]at Y;let:e=0:=by lia
  subst this;rw[bn_0]at j;lia
 ·let he:e<=4:=z;let a:∀e,e<=4->bn 9 e<=3000/\bn 16 e<=3000:=by decide +kernel
  let:=a e he
  rcases q with rfl|rfl
  ·rw[fv]at j;lia
  ·rw[p2]at j;lia
 ·let he:e<=2:=by
   rcases hs with⟨rfl,rfl⟩|⟨rfl,rfl⟩<;>lia
  let a:∀e,e<=2->bn 21 e<=3000:=by decide +kernel
  let:=a e he
  rcases hs with⟨rfl,rfl⟩|⟨rfl,rfl⟩
  ·rw[p3]at j;lia
  ·rw[p4]at j;lia
abbrev pl3(k i:Nat)(js:List Nat):List K3:=js.map λj=>(((k:Nat):Int),((i:Nat):Int),((j:Nat):Int))
abbrev pl2(k R:Nat)(is:List Nat):List K3:=is.flatMap λi=>pl3 k i (Lc R)
abbrev pl1(L R:Nat)(ks:List Nat):List K3:=ks.flatMap λk=>pl2 k R (Lc L)
def Es{ks:List Nat}(h:ks.Nodup):(pl1 L R ks).Nodup:=by
 unfold pl1;rw[LS,QG];refine⟨λk _=>?_,(LS.mp h).imp λ{a b} q x hx y B e=>?_⟩
 ·unfold pl2;rw[QG];refine⟨λi _=>?_,(LS.mp QR).imp λ{a b} q x hx y B e=>?_⟩
  ·unfold pl3;rw[Nr];calc(LS.mp QR).imp λ{a b} q e=>q ?_;let:=congrArg (λz:K3=>z.2.2) e;show Rm.inj this
  ·let⟨j,_,rfl⟩:=L7.mp hx;let⟨j',_,rfl⟩:=L7.mp B;let:=congrArg (λz:K3=>z.2.1) e;show q (Rm.inj this)
 ·let⟨i,_,hx⟩:=Mn.mp hx;let⟨j,_,rfl⟩:=L7.mp hx;let⟨i',_,B⟩:=Mn.mp B;let⟨j',_,rfl⟩:=L7.mp B;let:=congrArg (λz:K3=>z.1) e;show q (Rm.inj this)
def Cg{n:Nat}(hn:6<=n)(hL:1<=L/\L<=6)(hR:1<=R/\R<=6)(hb:Box b M){mo:Nat}(J0:1<=mo/\mo<=4)(q:∀(many:Nat) (ts:List Tm) pt M',(1<=many/\many<=mo)->(∀t∈ts,TI' L R many t)->(ts.map (·.1)).Nodup->ts.length<=1000->Bx b M M'->M pt=N2->M' pt=Z (.lst (ts.map tmD))->Q (.tup [.int L,.int R,.int many,.ref pt]) M'):phi tab n 38 [.ref b,.int L,.int R,.int mo] M Q:=by
 refine al ∅ rfl rfl (ρ:=[Z _,Z _,Z _,Z _,N2,N2,N2,N2,N2]) rfl ?_
 unfold d38 L2.Mi.K42.b38;nofun;refine ci ∅ hb ∅ ∅ λc M1 c0 c1 x1=>?_
 obtain⟨many,rfl,hm⟩:∃N:Nat,c=(N:Int)-1/\1<=N/\N<=mo:=⟨(c+1).toNat,∅,∅⟩
 ac_nf;rw[show(1:Int)+((many:Int)-1)=many by lia]
 nofun;refine ci ∅ x1.box (·) (·) λw M2 w0 w1 x2=>?_
 let x2:=x1.trans x2;clear x1 c0 c1;ac_nf;let IV:many<=4:=∅
 let mLR:L*R<=6*6:=LY hL.2 hR.2
 by_cases hw:w=0
 ·rw[if_pos (by simpa using hw)]
  nofun;refine⟨by rw[D0];lia,λpt IK=>?_⟩
  let g3:=Ge.new (o:=.lst []) IK;let e3:=aa (M:=M2) (a:=pt) (o:=.lst []);let G:=fK x2.box IK;let npt:=x2.none IK G;generalize ag M2 pt (.lst [])=M3 at g3 e3⊢;let x3:=x2.ge g3;nofun;refine⟨∅,∅,?_⟩
  rw[Li];refine au (f:=λi=>D.int (i:Nat)) (ys:=Lc many) (I:=λl ρ M'=>(∃o5 o6 o7,ρ=[Z (.ref b),Z (.int L),Z (.int R),Z (.int mo),Z (.int many),Z (.ref pt),o5,o6,o7])/\Bx b M M'/\∃ts:List Tm,M' pt=Z (.lst (ts.map tmD))/\(∀t∈ts,TI' L R many t)/\ts.length=l.length*(L*R)/\ts.map (·.1)=pl1 L R l) aC ⟨⟨_,_,_,rfl⟩,x3,[],e3,by simp,by simp,rfl⟩ (λ_ _ _ _=>by first|rfl|trivial) ?_ ?_
  ·rintro l k r ρ M4 es ⟨⟨o5,o6,o7,rfl⟩,J,ts,e4,ht,hl,IM⟩;calc⟨_,rfl,λF hF=>?_⟩;let IT:=ah es;rw[Lq]at IT;let hk:k<many:=by let h9:k∈Lc many:=(by rw[es];simp);simpa using h9
   let ml:l.length*(L*R)<=4*36:=LY ∅ mLR
   nofun;refine⟨∅,∅,?_⟩
   rw[Li];refine au (f:=λi=>D.int (i:Nat)) (ys:=Lc L) (I:=λl2 ρ M'=>(∃o6 o7,ρ=[Z (.ref b),Z (.int L),Z (.int R),Z (.int mo),Z (.int many),Z (.ref pt),Z (.int (k:Nat)),o6,o7])/\Bx b M M'/\∃us:List Tm,M' pt=Z (.lst ((ts++us).map tmD))/\(∀t∈us,TI' L R many t)/\us.length=l2.length*R/\us.map (·.1)=pl2 k R l2) aC ⟨⟨_,_,rfl⟩,J,[],by simpa using e4,by simp,by simp,rfl⟩ (λ_ _ _ _=>by first|rfl|trivial) ?_ ?_
   ·rintro l2 i r2 ρ M5 es2 ⟨⟨o6,o7,rfl⟩,x5,us,e5,hu,U,IN⟩;calc⟨_,rfl,λF2 IW=>?_⟩;let IX:=ah es2;rw[Lq]at IX;let hi:i<L:=by let h9:i∈Lc L:=(by rw[es2];simp);simpa using h9
    let J1:l2.length*R<=6*6:=LY ∅ hR.2
    nofun;refine⟨⟨_,e5⟩,∅,∅,?_⟩
    rw[Li];refine ak (f:=λi=>D.int (i:Nat)) (ys:=Lc R) (I:=λl3 ρ M' acc=>(∃o0,ρ=[o0,Z (.int (k:Nat)),Z (.int (i:Nat)),Z (.ref b)])/\Bx b M M'/\M' pt=Z (.lst ((ts++us).map tmD))/\∃vs:List Tm,acc=vs.map tmD/\(∀t∈vs,TI' L R many t)/\vs.length=l3.length/\vs.map (·.1)=pl3 k i l3) aC ⟨⟨_,rfl⟩,x5,e5,[],rfl,by simp,rfl,rfl⟩ (λ_ _ _ _ _=>trivial) ?_ ?_
    ·rintro l3 j r3 ρ M6 acc es3 ⟨⟨o0,rfl⟩,x6,e6,vs,rfl,hv,Y,IO⟩;calc⟨_,rfl,λN hN=>?_⟩;let IY:=ah es3;rw[Lq]at IY;let hj:j<R:=by let h9:j∈Lc R:=(by rw[es3];simp);simpa using h9
     ac_nf;refine ci ∅ x6.box (·) (·) λz M7 z0 z1 x7=>?_
     ac_nf;refine⟨by rw[D0];lia,by rw[h7,D0];lia,hN _ _ _ ⟨⟨_,rfl⟩,x6.trans x7,x7.keep _ _ G e6,vs++[((((k:Nat):Int),((i:Nat):Int),((j:Nat):Int)),z-3)],?_,?_,?_,by rw[Ll,IO];simp[pl3]⟩⟩
     ·rw[Ll];rfl
     ·intro t O
      rcases Lb.mp O with h|h
      ·show hv t h
      ·rw[LD.mp h];show⟨⟨by dsimp only;lia,by dsimp only;lia⟩,⟨by dsimp only;lia,by dsimp only;lia⟩,⟨by dsimp only;lia,by dsimp only;lia⟩⟩
     ·rw[hH,hH,Y];rfl
    ·rintro ρ M6 acc ⟨⟨o0,rfl⟩,x6,e6,vs,rfl,hv,Y,IO⟩ pe hpe;let g7:=Ge.new (o:=.lst (vs.map tmD)) hpe;rw[Lq]at Y;refine⟨pt,pe,_,_,rfl,rfl,g7 _ _ e6,aa,by rw[h7,h7,hH,D0];lia,?_⟩
     refine IW _ _ ⟨⟨_,_,rfl⟩,(x6.ge g7).upd npt G,us++vs,?_,?_,?_,by rw[Ll,IN,IO];simp[pl2,Mo]⟩
     ·rw[aa];simp
     ·intro t O
      rcases Lb.mp O with h|h
      ·show hu t h
      ·show hv t h
     ·rw[hH,hH,U,Y,LC,Mp]
   ·rintro ρ M5 ⟨⟨o6,o7,rfl⟩,x5,us,e5,hu,U,IN⟩;rw[Lq]at U;refine hF _ _ ⟨⟨_,_,_,rfl⟩,x5,ts++us,e5,?_,?_,by rw[Ll,IM,IN];simp[pl1,Mo]⟩
    ·intro t O
     rcases Lb.mp O with h|h
     ·show ht t h
     ·show hu t h
    ·rw[hH,hH,hl,U,LC,Mp]
  ·rintro ρ M4 ⟨⟨o5,o6,o7,rfl⟩,J,ts,e4,ht,hl,IM⟩;dsimp only;rw[Lq]at hl;let ml:many*(L*R)<=4*36:=LY ∅ mLR
   nofun;calc⟨_,ab e4,?_⟩;refine ak (f:=tmD) (ys:=ts) (I:=λl ρ M' acc=>(∃o0,ρ=[o0])/\M'=M4/\acc=(l.filter λt=>!(t.2==0)).map tmD) rfl ⟨⟨_,rfl⟩,rfl,rfl⟩ (λ_ _ _ _ h=>by rw[h.2.1];show ab e4) ?_ ?_
   ·rintro l t r ρ M5 acc es ⟨⟨o0,rfl⟩,rfl,rfl⟩;calc⟨_,rfl,λN hN=>?_⟩;let IT:=ah es;let IZ:=LF (λt:Tm=>!(t.2==0)) l;ac_nf;calc⟨_,_,rfl,rfl,?_⟩;ac_nf
    by_cases hz:t.2=0
    ·rw[if_neg (by simp[hz])]
     calc hN _ _ _ ⟨⟨_,rfl⟩,rfl,?_⟩;rw[LU,LW (by simp[hz])];simp
    ·rw[if_pos (by simp[hz])]
     refine⟨by rw[h7,D0];lia,hN _ _ _ ⟨⟨_,rfl⟩,rfl,?_⟩⟩
     rw[LU,LL (by simp[hz])];simp
   ·rintro ρ M5 acc ⟨⟨o0,rfl⟩,rfl,rfl⟩ pn IP;let IZ:=LF (λt:Tm=>!(t.2==0)) ts;let IQ:=fK J.box IP;show⟨by rw[D0];lia,q many _ pn _ hm (λt h=>ht t (LM.mp h).1) (by let h9:=Es (L:=L) (R:=R) (QR (n:=many));rw[<-IM]at h9;show h9.sublist (Sr _ Q5)) ∅ (J.ge (Ge.new IP)) (J.none IP IQ) aa⟩
 ·rw[if_neg (by simpa using hw)]
  nofun;refine⟨by rw[D0];lia,λa IR=>?_⟩
  let g3:=Ge.new (o:=.lst [.int L,.int R,.int many]) IR;let ha:=aa (M:=M2) (a:=a) (o:=.lst [.int L,.int R,.int many]);let IU:=fK x2.box IR;generalize ag M2 a (.lst [.int L,.int R,.int many])=M3 at g3 ha⊢;let x3:=x2.ge g3;clear x2 g3 IR;refine ci ∅ x3.box (·) (·) λc M4 c0 c1 J=>?_
  let ha:=J.keep _ _ IU ha;let J:=x3.trans J;clear x3;let⟨c,rfl⟩:=Mk c0;refine wQ (s:=aj 34) (ft:=25) (fp:=26) rfl (ci ∅) (zK ∅) ∅ ∅ ∅ ∅ ∅ J.box IU ha λps pr M5 J2 B x5 npr epr=>?_
  let x5:=J.trans x5;let m1:L*(R*many)<=6*(6*4):=LY hL.2 (LY hR.2 IV);let m2:ps.length*(L*(R*many))<=4*(6*(6*4)):=LY ∅ m1
  nofun;refine qu (s:=aj 35) rfl ∅ ∅ ∅ ∅ epr ∅ (λp h=>⟨nB (B p h).s0,nB (B p h).s2,(B p h).l0,(B p h).l1,(B p h).l2⟩) λLs ds M6 fv J3 g6 nds eds=>?_
  let x6:=x5.ge g6;refine zI (s:=aj 36) rfl ∅ fv.nd ∅ eds λrs pt M7 IS _ g7 npt ept=>?_
  let IQ:=fK x6.box npt;refine⟨by rw[D0];lia,q many rs pt _ hm (λt ht=>?_) ((IS.map (·.1)).nodup_iff.mpr fv.nd) (by rw[IS.length_eq];lia) (x6.ge g7) (x6.none npt IQ) ept⟩
  let ht:=IS.mem_iff.mp ht;let e:=fv.val ht;let z:=fv.nz t ht;rw[<-e]at z;let⟨h1,h2,h3⟩:=qq (λu hu=>⟨(B u hu).l0,(B u hu).l1,(B u hu).l2⟩) z;show⟨h1,h2,h3⟩
def Et{a b:Int}(q:Q (.bl Wj) M):wNe (.tup [.int a,.int b,.int c]) (.tup [.int a,.int b,.int c]) M Q:=by
 refine⟨.tuple [.int a,.int b,.int c],.tuple [.int a,.int b,.int c],by simp[rb,ax],by simp[rb,ax],?_⟩
 rw[show Mr (.tuple [.int a,.int b,.int c]) (.tuple [.int a,.int b,.int c])=Wi by simp[Mr,MU]]
 show q
def xH{p:Int}{l:List Tm}{t:Tm}(h:t.2%p≠0):ov p (l++[t])=ov p l++[(t.1,t.2%p)]:=by unfold ov;rw[LU,LL (by simpa using h),Ll];rfl
def xI{p:Int}{l:List Tm}{t:Tm}(h:t.2%p=0):ov p (l++[t])=ov p l:=by unfold ov;rw[LU,LW (by simp[h])];simp
def Eu{t:Tm}(q:Q (k3D t.1) M):cJ (tmD t) N2 (Z 3) M Q:=q
def zT{n:Nat}(hn:6<=n)(hP:P=2∨P=3)(hL:1<=L/\L<=6)(hR:1<=R/\R<=6)(hm:1<=many/\many<=10){ps:List Pr}(J:SOk P L R many ts ps)(IU:ps.length<=12)(IK:(ts.map (·.1)).Nodup)(IV:ts.length<=1000){pr p:Wk}(epr:M pr=Z (.lst (ps.map prD)))(ep:M p=Z (.lst (ts.map tmD))){v:Nat}(hv:v=ps.length)(q:∀M',Ge M M'->Q (.bl Wi) M'):phi tab n 41 [.tup [.int L,.int R,.int many,.ref pr],.tup [.int L,.int R,.int many,.ref p],.int (v:Nat),.int P] M Q:=by
 let O:(0:Int)<P:=∅
 refine al ∅ rfl rfl (ρ:=[Z _,Z _,Z _,Z _,N2,N2,N2,N2]) rfl ?_
 unfold d41 L2.Mi.K42.b41;nofun;refine C3 (s:=aj 7) (sl:=aj 4) (sq:=aj 6) (sp:=aj 5) (sn:=aj 3) (fl:=1) (fq:=3) (fp:=2) (fn:=0) rfl rfl rfl rfl rfl ∅ ∅ ∅ ∅ ∅ (λu hu=>J.pr u hu) epr λM1 g1=>?_
 calc⟨_,rfl,_,rfl,?_⟩;rw[if_neg (·)]
 ac_nf;calc iW (iW (Et ⟨_,rfl,?_⟩));rw[if_neg (·)]
 let epr:=g1 _ _ epr;let ep:=g1 _ _ ep;calc⟨_,rfl,_,_,rfl,bv (ab epr),?_⟩;rw[h7,hv];ac_nf;rw[if_neg (_)]
 nofun;calc⟨_,rfl,_,ab epr,?_⟩;refine au (f:=prD) (ys:=ps) (I:=λl ρ M'=>(∃o4 Y,ρ=[Z (.tup [.int L,.int R,.int many,.ref pr]),Z (.tup [.int L,.int R,.int many,.ref p]),Z (.int (ps.length:Nat)),Z (.int P),o4,Y,N2,N2])/\Ge M1 M') rfl ⟨⟨_,_,rfl⟩,Ge.refl⟩ (λ_ _ _ h=>ab (h.2 _ _ epr)) ?_ ?_
 ·rintro l u r ρ M2 e ⟨⟨o4,Y,rfl⟩,g2⟩;calc⟨_,rfl,λF hF=>?_⟩;let hu:u∈ps:=by rw[e];simp
  let fv:=J.sm u hu;let IW:=J.pr u hu;nofun;calc⟨[.tup (u.1.map .int),.tup (u.2.1.map .int),.tup (u.2.2.map .int)],rfl,?_⟩;refine au (f:=λl:List Int=>D.tup (l.map .int)) (ys:=[u.1,u.2.1,u.2.2]) (I:=λl ρ M'=>(∃Y,ρ=[Z (.tup [.int L,.int R,.int many,.ref pr]),Z (.tup [.int L,.int R,.int many,.ref p]),Z (.int (ps.length:Nat)),Z (.int P),Z (prD u),Y,N2,N2])/\Ge M1 M') rfl ⟨⟨_,rfl⟩,g2⟩ (λ_ _ _ _=>by first|rfl|trivial) ?_ ?_
  ·rintro l2 w r2 ρ M3 e2 ⟨⟨Y,rfl⟩,g3⟩;calc⟨_,rfl,fun F2 IR=>?_⟩;let hw:(∀x∈w,0<=x/\x<(P:Int))/\w.length<=10:=by
    let:w∈[u.1,u.2.1,u.2.2]:=by rw[e2];simp
    simp only[Lm,Me,or_false]at this
    rcases this with rfl|rfl|rfl
    ·show⟨fv.1,∅⟩
    ·show⟨fv.2.1,∅⟩
    ·show⟨fv.2.2,∅⟩
   nofun;refine ak (f:=D.int) (ys:=w) (I:=λl3 ρ M' acc=>(∃o0,ρ=[o0,Z (.int P)])/\M'=M3/\acc=I7 l3.length (.bl Wi)) rfl ⟨⟨_,rfl⟩,rfl,rfl⟩ (λ_ _ _ _ _=>by first|rfl|trivial) ?_ ?_
   ·rintro l3 x r3 ρ M4 acc e4 ⟨⟨o0,rfl⟩,rfl,rfl⟩;calc⟨_,rfl,λN hN=>?_⟩;let IM:=ah e4;let hx:=hw.1 x (by rw[e4];simp)
    ac_nf;rw[if_pos (by simpa using hx.1)]
    refine⟨by rw[N5,D0];lia,hN _ _ _ ⟨⟨_,rfl⟩,rfl,?_⟩⟩
    rw[hH,LC,QY];simp[hx.2]
   ·rintro ρ M4 acc ⟨⟨o0,rfl⟩,rfl,rfl⟩ pa hpa;calc i9 aa ⟨_,rfl,?_⟩;rw[if_neg (·)]
    show IR _ _ ⟨⟨_,rfl⟩,g3.trans (Ge.new hpa)⟩
  ·rintro ρ M3 ⟨⟨Y,rfl⟩,g3⟩;show hF _ _ ⟨⟨_,_,rfl⟩,g3⟩
 rintro ρ Mx ⟨⟨o4,Y,rfl⟩,gx⟩;dsimp only;let epr:=gx _ _ epr;let ep:=gx _ _ ep;let gM:=g1.trans gx;let m1:L*(R*many)<=6*(6*10):=LY hL.2 (LY hR.2 hm.2);let m2:ps.length*(L*(R*many))<=12*(6*(6*10)):=LY ∅ m1
 let U:∀l:List Int,(∀x∈l,0<=x/\x<(P:Int))->Big l:=λl h x hx=>by let:=h x hx;lia
 clear g1 gx;nofun;refine qu (s:=aj 35) rfl ∅ ∅ ∅ ∅ epr ∅ (λu h=>⟨U _ (J.sm u h).1,U _ (J.sm u h).2.2,(J.pr u h).1,(J.pr u h).2.1,(J.pr u h).2.2⟩) λLs ds M1 j IX g1 nds eds=>?_
 let ep:=g1 _ _ ep;let IS:p≠ds:=λz=>by rw[z,eds]at ep;cases ep
 nofun;calc lr rfl eds ?_;let fd:=aa (M:=M1) (a:=ds) (o:=.fdc (Ls.map kcD));let ep:=(av (M:=M1) (o:=.fdc (Ls.map kcD)) IS).trans ep;let gA:=gM.trans (g1.upd (o:=.fdc (Ls.map kcD)) nds);generalize ag M1 ds (.fdc (Ls.map kcD))=M2 at fd ep gA⊢;ac_nf;calc⟨_,fd,?_⟩;refine ak (f:=λt:Tm=>k3D t.1) (ys:=Ls) (I:=λl ρ M' acc=>(∃o0,ρ=[o0,Z (.ref ds),Z (.int P)])/\M'=M2/\acc=(ov P l).map λt=>.tup [k3D t.1,.int t.2]) (by rw[N1];rfl) ⟨⟨_,rfl⟩,rfl,rfl⟩ (λ_ _ _ _ _=>trivial) ?_ ?_
 ·rintro l t r ρ M3 acc e ⟨⟨o0,rfl⟩,rfl,rfl⟩;calc⟨_,rfl,λN' B=>?_⟩;let IM:=ah e;let ht:t∈Ls:=by rw[e];simp
  let IT:(ov P l).length<=l.length:=by unfold ov;rw[h7];show LF _ _
  ac_nf;calc kD fd (gH _) (cT j.nd ht) ?_;ac_nf;refine⟨O,?_⟩
  by_cases hz:t.2%(P:Int)=0
  ·rw[if_neg (by simp[hz])]
   calc B _ _ _ ⟨⟨_,rfl⟩,rfl,?_⟩;rw[xI hz]
  ·rw[if_pos (by simp[hz])]
   calc kD fd (gH _) (cT j.nd ht) ?_;ac_nf;refine⟨O,by rw[D0];lia,by rw[h7,D0];lia,B _ _ _ ⟨⟨_,rfl⟩,rfl,?_⟩⟩
   rw[xH hz];simp
 ·rintro ρ M3 acc ⟨⟨o0,rfl⟩,rfl,rfl⟩ p2 hp2;let IN:=so (p:=(P:Int)) j.nd;let IY:(ov (P:Int) Ls).length<=Ls.length:=by unfold ov;rw[h7];show LF _ _
  refine⟨p2,(ov (P:Int) Ls).map kcD,rfl,by rw[aa,N1];rfl,λkv G=>?_,by rw[h7,D0];lia,λpf IO=>?_⟩
  ·let⟨t,_,rfl⟩:=L7.mp G;show gH _
  rw[jw IN];let ep:=(Ge.new (o:=.dct Wi ((ov (P:Int) Ls).map kcD)) IO) _ _ ((Ge.new (o:=.lst ((ov (P:Int) Ls).map λt=>D.tup [k3D t.1,.int t.2])) hp2) _ _ ep);let ef:=aa (M:=ag M3 p2 (.lst ((ov (P:Int) Ls).map λt=>D.tup [k3D t.1,.int t.2]))) (a:=pf) (o:=.dct Wi ((ov (P:Int) Ls).map kcD));let gB:=gA.trans ((Ge.new (o:=.lst ((ov (P:Int) Ls).map λt=>D.tup [k3D t.1,.int t.2])) hp2).trans (Ge.new (o:=.dct Wi ((ov (P:Int) Ls).map kcD)) IO));generalize ag (ag M3 p2 (.lst ((ov (P:Int) Ls).map λt=>D.tup [k3D t.1,.int t.2]))) pf (.dct Wi ((ov (P:Int) Ls).map kcD))=M4 at ep ef gB⊢;nofun;calc⟨_,rfl,_,ab ep,?_⟩;refine ak (f:=tmD) (ys:=ts) (I:=λl ρ M' acc=>(∃o0,ρ=[o0,Z (.int P)])/\M'=M4/\acc=(ov P l).map λt=>.tup [k3D t.1,.int t.2]) rfl ⟨⟨_,rfl⟩,rfl,rfl⟩ (λ_ _ _ _ h=>by rw[h.2.1];show ab ep) ?_ ?_
  ·rintro l t r ρ M5 acc e ⟨⟨o0,rfl⟩,rfl,rfl⟩;calc⟨_,rfl,λN' B=>?_⟩;let IM:=ah e;let IT:(ov P l).length<=l.length:=by unfold ov;rw[h7];show LF _ _
   ac_nf;calc⟨_,_,rfl,rfl,?_⟩;ac_nf;refine⟨O,?_⟩
   by_cases hz:t.2%(P:Int)=0
   ·rw[if_neg (by simp[hz])]
    calc B _ _ _ ⟨⟨_,rfl⟩,rfl,?_⟩;rw[xI hz]
   ·rw[if_pos (by simp[hz])]
    calc Eu ⟨_,_,rfl,rfl,?_⟩;ac_nf;refine⟨O,by rw[D0];lia,by rw[h7,D0];lia,B _ _ _ ⟨⟨_,rfl⟩,rfl,?_⟩⟩
    rw[xH hz];simp
  ·rintro ρ M5 acc ⟨⟨o0,rfl⟩,rfl,rfl⟩ p6 hp6;let IP:=so (p:=(P:Int)) IK;let IZ:(ov (P:Int) ts).length<=ts.length:=by unfold ov;rw[h7];show LF _ _
   refine⟨p6,(ov (P:Int) ts).map kcD,rfl,by rw[aa,N1];rfl,λkv G=>?_,by rw[h7,D0];lia,λpg IQ=>?_⟩
   ·let⟨t,_,rfl⟩:=L7.mp G;show gH _
   rw[jw IP];let ef:=(Ge.new (o:=.dct Wi ((ov (P:Int) ts).map kcD)) IQ) _ _ ((Ge.new (o:=.lst ((ov (P:Int) ts).map λt=>D.tup [k3D t.1,.int t.2])) hp6) _ _ ef);let hint:∀L':List Tm,∀kv∈L'.map kcD,∃i,kv.2=.int i:=λL' kv G=>by let⟨t,_,rfl⟩:=L7.mp G;show⟨_,rfl⟩
   calc⟨pf,pg,_,_,rfl,rfl,⟨.inl ef,hint _⟩,⟨.inl aa,hint _⟩,?_⟩;let:eqD ((ov (P:Int) Ls).map kcD) ((ov (P:Int) ts).map kcD)=Wi:=(E1 IN IP Al Al).mpr λk=>by rw[uK j.nd,uK IK,j.cf k];let⟨k1,k2,k3⟩:=k;rw[lH];let⟨c,hc⟩:=J.dv k1 k2 k3;rw[show Tn ps k1 k2 k3=cf ts (k1,k2,k3)+P*c by lia,Int.add_mul_emod_self_left]
   rw[this];show q _ (gB.trans ((Ge.new hp6).trans (Ge.new IQ)))
def Ev{a b c:D}(q:Q (.tup [a,b]) M):cJ (.tup [a,b,c]) N2 (Z 2) M Q:=q
def FK{s:Str}{i:Int}(hs:UE s=Wi)(q:Q (.bl Wj) M):wNe (.tup [.str s,.int i]) (.tup [.str s,.int i]) M Q:=by
 refine⟨.tuple [.str s,.int i],.tuple [.str s,.int i],by simp[rb,ax,hs],by simp[rb,ax,hs],?_⟩
 rw[show Mr (.tuple [.str s,.int i]) (.tuple [.str s,.int i])=Wi by simp[Mr,MU]]
 show q
def fH{k:Nat}{M:Mem}:∀ps:List Pr,ax (rb (k+2) M) (ps.map prD)=Z (ps.map cS)
 |[]=>rfl
 |p::r=>by
  let e:rb (k+2) M (prD p)=Z (cS p):=by simp[prD,rb,cS,ax,dZ]
  rw[Lj,ax,e,fH r];rfl
def Aq:∀ns:List Int,MU (ns.map .int) (ns.map .int)=Wi
 |[]=>rfl
 |n::ns=>by simp[MU,Mr,Aq ns]
def Ar:∀ps:List Pr,MU (ps.map cS) (ps.map cS)=Wi
 |[]=>rfl
 |p::ps=>by simp[MU,Mr,Ar ps,cS,Aq]
def zU{s:Str}{i a b:Int}{x y:Wk}{ps:List Pr}(hs:UE s=Wi)(ex:M x=Z (.lst (ps.map prD)))(ey:M y=Z (.lst (ps.map prD)))(q:Q (.bl Wj) M):wNe (.tup [.str s,.int i,.tup [.int a,.int b,.int c,.ref x]]) (.tup [.str s,.int i,.tup [.int a,.int b,.int c,.ref y]]) M Q:=by
 refine⟨.tuple [.str s,.int i,.tuple [.int a,.int b,.int c,.list (ps.map cS)]],.tuple [.str s,.int i,.tuple [.int a,.int b,.int c,.list (ps.map cS)]],?_,?_,?_⟩
 ·simp[rb,ax,hs,ex,fH]
 ·simp[rb,ax,hs,ey,fH]
 ·rw[show Mr (.tuple [.str s,.int i,.tuple [.int a,.int b,.int c,.list (ps.map cS)]]) (.tuple [.str s,.int i,.tuple [.int a,.int b,.int c,.list (ps.map cS)]])=Wi by simp[Mr,MU,Ar]]
  show q
abbrev szs(P:Nat):List (Nat×Nat):=if P=2 then[(2,2),(2,3),(3,2),(1,5),(6,1)]else[(2,2),(2,2),(1,3),(4,1),(2,2)]
noncomputable abbrev pnD(x:Nat×Nat):D:=.tup [.int x.1,.int x.2]
def Ew:∀P,P=2∨P=3->(szs P).length=5/\∀x∈szs P,((1<=x.1/\x.1<=6)/\(1<=x.2/\x.2<=6))/\(x.1*x.2<=6/\(P=3->x.1*x.2<=4))/\(x.1=1∨x.2=1∨(x.1=2/\x.2=2)∨(P=2/\((x.1=2/\x.2=3)∨(x.1=3/\x.2=2)))):=by
 intro P j
 rcases j with rfl|rfl<;>decide
def GF{pq:Wk}{K:QD}(eq:M pq=Z (.lst [.int 4,.int 2]))(j:L<=6)(h:∀mo:Nat,(mo=2∨mo=4)->(L+R=5->L*R=6->mo=2)->K (.int mo) M):if((L:Int)+R==5)=Wi then MulOk L R/\wIx (.ref pq) (.int (if((L:Int)*R==6)=Wi then 1 else 0)) M K else wIx (.ref pq) (.int 0) M K:=by
 by_cases h5:L+R=5
 ·rw[if_pos (by simp;lia)]
  refine⟨dA ∅,?_⟩
  by_cases h6:L*R=6
  ·rw[if_pos (by simp;exact_mod_cast h6)]
   show aI eq (d:=.int 2) rfl (h 2 (.inl rfl) λ_ _=>rfl)
  ·rw[if_neg (by simp;exact_mod_cast h6)]
   show aI eq (d:=.int 4) rfl (h 4 (.inr rfl) λ_ z=>absurd z h6)
 ·rw[if_neg (by simp;lia)]
  show aI eq (d:=.int 4) rfl (h 4 (.inr rfl) λz=>absurd z h5)
def law_holds(ns:List Int)(hl:ns.length<=63):phi tab 40 42 [.con (ns.map D.int)] (λ_=>N2) λd _=>d=.bl Wi:=by
 refine al ∅ rfl rfl (ρ:=[Z _,N2,N2,N2,N2,N2,N2,N2,N2,N2,N2]) rfl ?_
 unfold d42 b42;nofun;rw[h7];refine⟨by split<;>lia,by split<;>lia,?_⟩
 refine au (I:=λl ρ M'=>∃o1 o2 o3 o4 o5 o6 o7 o8 o9 U,ρ=[Z (.con (ns.map D.int)),o1,o2,o3,o4,o5,o6,o7,o8,o9,U]) aC ⟨_,_,_,_,_,_,_,_,_,_,rfl⟩ (λ_ _ _ hI=>trivial) ?_ ?_
 ·rintro l k r ρ M8 e ⟨o1,o2,o3,o4,o5,o6,o7,o8,o9,U,rfl⟩;calc⟨_,rfl,λF hF=>?_⟩;nofun;refine DX (s:=aj 31) (fc:=22) (fm:=23) (sc:=aj 29) rfl rfl (sB ∅) ∅ ∅ λb x y IT=>?_
  let j:Box b (ag M8 b (.lst [.int x,.int y,.int 0])):=⟨_,_,_,aa⟩;generalize ag M8 b (.lst [.int x,.int y,.int 0])=M0 at j⊢;nofun;refine ci ∅ j (·) (·) λv M1 v0 v1 x1=>?_
  obtain⟨P,IU,J⟩:∃P:Nat,(2:Int)+v=(P:Int)/\(P=2∨P=3):=⟨(2+v).toNat,∅,∅⟩
  ac_nf;rw[IU];let j:=x1.box;clear x1 IT;nofun;let sz:∀n:Nat,n<=10->n<=Lf:=λn h=>by rw[D0];lia
  refine⟨sz _ (·),sz _ (·),sz _ (·),sz _ (·),sz _ (·),sz _ (·),λpa ha=>⟨sz _ (·),sz _ (·),sz _ (·),sz _ (·),sz _ (·),sz _ (·),λpb q=>⟨sz _ (·),λpc hc=>?_⟩⟩⟩
  let ga:=Ge.new (o:=.lst ((szs 2).map pnD)) ha;let ea:=aa (M:=M1) (a:=pa) (o:=.lst ((szs 2).map pnD));change ag M1 pa (.lst ((szs 2).map pnD)) pb=N2 at q;change ag (ag M1 pa (.lst ((szs 2).map pnD))) pb (.lst ((szs 3).map pnD)) pc=N2 at hc;change wIx _ _ (ag (ag (ag M1 pa (.lst ((szs 2).map pnD))) pb (.lst ((szs 3).map pnD))) pc (.lst [.ref pa,.ref pb])) _;generalize ag M1 pa (.lst ((szs 2).map pnD))=M2 at ga ea q hc⊢;let gb:=Ge.new (o:=.lst ((szs 3).map pnD)) q;let eb:=aa (M:=M2) (a:=pb) (o:=.lst ((szs 3).map pnD));generalize ag M2 pb (.lst ((szs 3).map pnD))=M3 at gb eb hc⊢;let gc:=Ge.new (o:=.lst [.ref pa,.ref pb]) hc;let ec:=aa (M:=M3) (a:=pc) (o:=.lst [.ref pa,.ref pb]);generalize ag M3 pc (.lst [.ref pa,.ref pb])=M4 at gc ec⊢;obtain⟨ps,G,eps⟩:∃ps,atI [D.ref pa,D.ref pb] ((P:Int)-2)=Z (.ref ps)/\M4 ps=Z (.lst ((szs P).map pnD)):=by
   rcases J with rfl|rfl
   ·show⟨pa,rfl,gc _ _ (gb _ _ ea)⟩
   ·show⟨pb,rfl,gc _ _ eb⟩
  let O:ps≠b:=by
   rcases J with rfl|rfl
   ·let:ps=pa:=by let:=LG.inj G;show(D.ref.inj this).symm
    rw[this];show fK j ha
   ·let:ps=pb:=by let:=LG.inj G;show(D.ref.inj this).symm
    rw[this];show fK (Bx.of j ga).box q
  let j:=(Bx.of j (ga.trans (gb.trans gc))).box;calc aI ec G ?_;clear ga gb gc ea eb ec ha q hc G;let⟨J8,hsz⟩:=Ew P J;nofun;refine ci ∅ j (·) (·) λw M5 w0 w1 x5=>?_
  let⟨i,rfl⟩:=Mk w0;let hi:i<(szs P).length:=∅
  refine aI (x5.keep _ _ O eps) (d:=pnD (szs P)[i]) (bJ (by rw[Lp,z4 hi];rfl)) ?_
  let hx:=hsz _ (Nm hi);generalize (szs P)[i]=LR at hx⊢;let⟨L,R⟩:=LR;dsimp only at hx;let⟨⟨h0,h1⟩,⟨J9,IV⟩,IW⟩:=hx;let hB:Bd P (L*R):=by
   rcases J with h|h
   ·show .inl ⟨h,∅⟩
   ·show .inr ⟨h,by let:=IV h;lia⟩
  calc⟨_,rfl,?_⟩;let j:=x5.box;clear x5 eps O;nofun;refine⟨sz _ (·),λpq IO=>?_⟩
  let gq:=Ge.new (o:=.lst [.int 4,.int 2]) IO;let eq:=aa (M:=M5) (a:=pq) (o:=.lst [.int 4,.int 2]);generalize ag M5 pq (.lst [.int 4,.int 2])=M6 at gq eq⊢;let j:=(Bx.of j gq).box;calc GF eq h0.2 λmo Ja IP=>?_;refine Cg ∅ h0 h1 j (mo:=mo) ∅ λmany us pu M7 hm hu Y IX x7 npu epu=>?_
  clear gq eq j x7 npu IO;let hs:L=1∨R=1∨(L=2/\R=2)∨(P=2/\many<=2/\((L=2/\R=3)∨(L=3/\R=2))):=by
   rcases IW with h|h|h|⟨h,h'⟩
   ·show .inl h
   ·show .inr (.inl h)
   ·show .inr (.inr (.inl h))
   ·calc .inr (.inr (.inr ⟨h,?_,h'⟩));let:mo=2:=IP (by rcases h' with⟨rfl,rfl⟩|⟨rfl,rfl⟩<;>rfl) (by rcases h' with⟨rfl,rfl⟩|⟨rfl,rfl⟩<;>rfl)
    lia
  let B:=cj (P:=P) ∅ hu
  nofun;refine xG ∅ hB h0 h1 ∅ hu epu λv M8 IY IZ g8=>?_
  let epu:=g8 _ _ epu;nofun;refine qQ ∅ hB h0 h1 ⟨hm.1,∅⟩ hu Y epu (λe' M9 fv g9=>(kP J h0.1 h1.1 hs B.2 B.1 fv).elim) (λe' ix pr M9 hf hS J0 hle npr epr g9=>?_)
  let J1:pr≠pu:=λz=>by rw[z,epu]at npr;cases npr
  let IK:=zS J h0.1 h1.1 B.2 hf hle IY IZ;let epu:=g9 _ _ epu;rw[<-IK];nofun;calc⟨"tuple",rfl,Wi,rfl,?_⟩;rw[if_neg (·)]
  refine Ev ⟨sz _ (·),FK (by decide +kernel) ⟨_,rfl,?_⟩⟩
  rw[if_neg (·)]
  calc⟨_,rfl,"int",rfl,Wj,rfl,?_⟩;rw[if_neg (·)]
  nofun;rw[if_neg (·)]
  calc⟨_,rfl,?_⟩;refine zT ∅ J h0 h1 ⟨hm.1,∅⟩ hS ∅ Y IX epr epu (by rw[J0];show IK) λIQ IR=>⟨_,rfl,?_⟩
  rw[if_neg (·)]
  let epr:=IR _ _ epr;let epu:=IR _ _ epu;nofun;refine Ev ⟨_,rfl,iW ⟨_,rfl,3,_,rfl,rfl,_,_,rfl,ab epr,λpk IM=>⟨sz _ (·),?_⟩⟩⟩
  let gk:=Ge.new (o:=.lst ((psF P L R many us (chF P (L*R) [] (tbs P (L*R) R many us)) ix).map prD)) IM;let ek:=aa (M:=IQ) (a:=pk) (o:=.lst ((psF P L R many us (chF P (L*R) [] (tbs P (L*R) R many us)) ix).map prD));let J2:pk≠pr:=λz=>by rw[z,epr]at IM;cases IM
  generalize ag IQ pk (.lst ((psF P L R many us (chF P (L*R) [] (tbs P (L*R) R many us)) ix).map prD))=IN at gk ek⊢;let epr:=gk _ _ epr;let epu:=gk _ _ epu;ac_nf;refine⟨.inr trivial,sz _ (·),sz _ (·),.inr trivial,sz _ (·),?_⟩
  nofun;calc⟨_,rfl,3,_,rfl,rfl,⟨_,rfl,_,epr⟩,pr,_,rfl,rfl,epr,?_⟩;let ek:=(av (M:=IN) (o:=.lst []) J2).trans ek;let epu:=(av (M:=IN) (o:=.lst []) J1.symm).trans epu;generalize ag IN pr (.lst [])=M12 at ek epu⊢;nofun;refine qQ ∅ hB h0 h1 ⟨hm.1,∅⟩ hu Y epu (λe2 J3 fv g9=>(kP J h0.1 h1.1 hs B.2 B.1 fv).elim) (λe2 Jb Jc J3 J6 _ _ _ _ IS J7=>?_)
  let⟨rfl,rfl⟩:=hf.uniq J6;rw[<-IK];refine zU (by decide +kernel) IS (J7 _ _ ek) ⟨_,rfl,?_⟩
  rw[if_neg (·)]
  show hF _ _ ⟨_,_,_,_,_,_,_,_,_,_,rfl⟩
 ·rintro ρ M1 ⟨o1,o2,o3,o4,o5,o6,o7,o8,o9,U,rfl⟩;dsimp only;nofun
end K42
end
end
end Mi
end L2
end
namespace PySem.W.Fast
def tw5477646293944022932:True:=trivial
def tw18389336241971624215:True:=trivial
def tw5219260727232849466:True:=trivial
def tw5759014772806866789:True:=trivial
def tw5379238887755359494:True:=trivial
def tw2337733625418115428:True:=trivial
def tw16454037302729868307:True:=trivial
def tw3732055995390972584:True:=trivial
def tw8221153215751435890:True:=trivial
def tw17704261740302657206:True:=trivial
def tw11855767088010633764:True:=trivial
def tw13443893004677439204:True:=trivial
def tw11671961239633375927:True:=trivial
def tw5598061487196065385:True:=trivial
def tw719163692151542962:True:=trivial
def tw13769447619540831304:True:=trivial
def tw7567083947984527653:True:=trivial
def tw5019454160017785947:True:=trivial
def tw6214964166058113191:True:=trivial
def tw2976899607884005570:True:=trivial
def tw16747266145778362620:True:=trivial
def tw12168631836644417692:True:=trivial
def tw17369379889965037441:True:=trivial
def tw17325687701559711545:True:=trivial
def tw12894550668637234135:True:=trivial
def tw10199344806553988556:True:=trivial
def tw18332160235249930200:True:=trivial
def tw8021713481268177130:True:=trivial
def tw7572202214816419696:True:=trivial
def tw435201635397384397:True:=trivial
def tw10396317374173001103:True:=trivial
def tw14454012423009829360:True:=trivial
def tw16429813964283659747:True:=trivial
def tw1568020893536257360:True:=trivial
def tw6259166647380355886:True:=trivial
def tw12858955453234272627:True:=trivial
def tw17820197474336105888:True:=trivial
def tw15257468041103385535:True:=trivial
def tw2433199861306921672:True:=trivial
def tw14932968089385927419:True:=trivial
def tw904918078352944201:True:=trivial
def tw1917316272792643746:True:=trivial
def tw5307353106695305530:True:=trivial
def tw4964214666914645242:True:=trivial
def tw6796712421529910680:True:=trivial
def tw8801185142331199501:True:=trivial
def tw5234944830315177283:True:=trivial
def tw1048456945386153679:True:=trivial
def tw17714312934011688436:True:=trivial
def tw12298660164703906342:True:=trivial
def tw18065524108691613744:True:=trivial
def tw16018168769817426145:True:=trivial
def tw16067864659583428041:True:=trivial
def tw11720607406278166541:True:=trivial
def tw10376420051546617367:True:=trivial
def tw9720879875978357498:True:=trivial
def tw6782558620405218140:True:=trivial
def tw10385226013095174814:True:=trivial
def tw11757836281753203494:True:=trivial
def tw16947640275550423239:True:=trivial
def tw17624326964955225843:True:=trivial
def tw18063211605268332174:True:=trivial
def tw6902470712362985191:True:=trivial
def tw16981558786087875288:True:=trivial
def tw10299111659914564649:True:=trivial
def tw6679967316818639251:True:=trivial
def tw16811244320471583790:True:=trivial
def tw928007504418815362:True:=trivial
def tw1251198198707711426:True:=trivial
def tw7908269786734748728:True:=trivial
def tw12471602955506145430:True:=trivial
def tw7213316022598251715:True:=trivial
def tw1317209316108433517:True:=trivial
def tw318219444687045520:True:=trivial
def tw2112938819765192217:True:=trivial
def tw15803341088275495495:True:=trivial
def tw4022035509864717775:True:=trivial
def tw8444743592508830475:True:=trivial
def tw15751863689016827905:True:=trivial
def tw15918648074071595289:True:=trivial
def tw6731790522907569174:True:=trivial
def tw10941173967540339228:True:=trivial
def tw2536609175190808037:True:=trivial
def tw11402352492921112791:True:=trivial
def tw13022542523886315944:True:=trivial
def tw17779617138506123254:True:=trivial
def tw17332866770227403482:True:=trivial
def tw8585252124851170453:True:=trivial
def tw6997319969158358119:True:=trivial
def tw4761700668967590844:True:=trivial
def tw11194543919038597805:True:=trivial
def tw9422835846719934300:True:=trivial
def tw7744231244691862176:True:=trivial
def tw2094187072791228609:True:=trivial
def tw15695984988346928944:True:=trivial
def tw1150400426089588145:True:=trivial
def tw9827875394706603559:True:=trivial
def tw17872801545619875736:True:=trivial
def tw14621152836652586817:True:=trivial
def tw3764905746376835488:True:=trivial
def tw17879101856998078046:True:=trivial
def tw12214214128762460395:True:=trivial
def tw5834411229078763972:True:=trivial
end PySem.W.Fast
open PySem.W in
set_option maxRecDepth 100000 in
set_option maxHeartbeats 0 in
theorem PySem.Challenge.cw_fewtimes_k42_least_counts_holds : PySem.Challenge.rw_fewtimes_k42_least_counts.Holds := by
 w_on;o_law;k_head;(case hw=>w_witness2)
 k_fill
 refine L2.Mi.K42.walk (l:=PySem.Challenge.rw_fewtimes_k42_least_counts) rfl rfl L2.Mi.K42.law_holds (fun w h Y=>PySem.W.kIn_of Y) ?F
 case F =>
  intro w mg fa h KX G hmg;refine' L2.Mi.K42.all_mk KX G hmg ?z ?_ ?_ ?_ ?_ ?_ ?_ ?_ ?_ ?_ ?_ ?_ ?_ ?_ ?_ ?_ ?_ ?_ ?_ ?_ ?_ ?_ ?_ ?_ ?_ ?_ ?_ ?_ ?_ ?_ ?_ ?_ ?_ ?_ ?_ ?_ ?_ ?_ ?_ ?_ ?_ ?_ ?_ ?_ ?_ ?_ ?_ ?_ ?_ ?_ ?_ ?_ ?_ ?_ ?_ ?_ ?_ ?_ ?_ ?_ ?_ ?_ ?_ ?_ ?_ ?_ ?_ ?_ ?_ ?_ ?_ ?_ ?_ ?_ ?_ ?_ ?_ ?_ ?_ ?_ ?_ ?_ ?_ ?_ ?_ ?_ ?_ ?_ ?_ ?_ ?_ ?_ ?_ ?_ ?_ ?_ ?_ ?_ ?_ ?_ ?_ ?_ ?_ ?_ ?_ ?_ ?_ ?_ ?_ ?_ ?_ ?_ ?_ ?_ ?_ ?_ ?_ ?_ ?_ ?_ ?_ ?_ ?_ ?_ ?_ ?_ ?_ ?_ ?_ ?_ ?_ ?_ ?_ ?_ ?_ ?_ ?_ ?_ ?_ ?_ ?_ ?_ ?_ ?_ ?_ ?_ ?_ ?_ ?_ ?_ ?_ ?_ ?_ ?_ ?_ ?_ ?_ ?_ ?_ ?_ ?_ ?_ ?_ ?_ ?_ ?_ ?_ ?_ ?_ ?_ ?_ ?_ ?_ ?_ ?_ ?_
  case z =>
   intro x hx;simp only [L2.Mi.bltNames,List.mem_cons,List.not_mem_nil,or_false] at hx
   rcases hx with rfl | rfl | rfl | rfl | rfl | rfl | rfl | rfl | rfl | rfl | rfl | rfl | rfl | rfl | rfl | rfl | rfl | rfl | rfl | rfl <;> k_is
  all_goals try (change _=_;k_is)
