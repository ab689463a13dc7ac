import PyProof.Rows.All
import Wide.All
import OpenK.AllK
import Wide.FinOn
import Lean
import PyProof.EqAt
import PyProof.EqKinds
import PyProof.TupleCall
import PyProof.ZipIter
import PyProof.EnumMake
import PyProof.EnumFor
import PyProof.CollectIter
import PyProof.Rows.SeqMore
import PyProof.ConsumeWalk
import PyProof.Rows.SortShellK
import PyProof.DictItems
import PyProof.DictWalks
import PyProof.AttrMissHeap
import PyProof.DictIter
import PyProof.MaxThree
import PyProof.SeqI3
import PyProof.DictTruth
import PyProof.Rows.TupDisplay
import PyProof.ListCopy
import PyProof.RaisesDict
import KE.KDictOf
import PySem.Challenge.RW_fewtimes_k11_schemes_that_do_and_that_fa
set_option Elab.async false
set_option linter.all false
set_option compiler.extract_closed false
set_option genSizeOf false
set_option bootstrap.genMatcherCode false
set_option maxRecDepth 100000
set_option maxHeartbeats 4000000
open PySem.W (Frag)
open PySem renaming wpAny_bind → gV, Value → hH, wpAny_pure → hW, Shared → tv, sizeLine_eq → D2, sizeLine → Hd, wpAny → Hh, wpAny_setField_rec → Hv, model → Hx, Program → HB, wpAny_call_entry → HK, wpAny_callSpecial?_slot → HN, starEach → HP, DictEntry → HS, wpAny_field → HW, World → HX, Around → I0, wpAny_holding → I7, Paired → I8, sysModules → Ir, Comprehension → ID, wpAny_newObj_type → IE, wpAny_mono → IK, tupleKind → IP, Builtin → IS, compareOp → IW, PyData → IY, wpAny_seqItems → J0, mainGlobals → J3, wpAny_rule → J6, wpAny_dictEntries → J9, codeAny_builtin → Jf, wpAny_isInstance → Jg, mem_of_lookup → Ji, binaryOp → Jm, wpAny_attempt → Jn, cLine → Js, wpAny_pyIter_tuple → Jt, swappedStores → Jv, wpAny_typeOf → Jy, wpAny_pyIter_list → Jz, wpAny_ite_false → JC, pyNext → JD, assignEach → JH, tupleKind_room_in1 → JI, wpAny_of_eq → JO, wpAny_letGo → JP, foldedSetIterable → JS, cellsFrom → JT, rawInt → JU, wpAny_loadPart' → JV, plainId_quiet → Kb, isSubtype_type → Ki, wpAny_passesOwn → Kn, wpAny_truthy_bool → Kq, tupleKeyHash → Ks, entryOfKey → Ku, IsPair → Kx, NameKind → KH, bootBuiltins → KQ, wpAny_Call_Name_kw → KR, size_of_entries → L6, wpAny_standAt → L8, swapsWithSole → L9, builtinLookup_eq_fast → Ld, codeAny → Le, FuncData → Li, firstArgMember → Ll, wpAny_newTuple → Lm, codeAny_mono → Ls, behindInMarks → Ly, Reads → LD, backTo → LM, Model → LS, swapsWith → LU, sliceBounds → LY, Operator → Mc, wpAny_ite_true → Mp, wpAny_tryCatch → Mr, wpAny_notOrdered_dict → Mu, inplaceOp → Mv, standAt → MR, attributeBase → MU, wpAny_newList → MV, richCompare → MY, wpAny_updateSeq_pair → N1, letOwnedTupleGo → N9, typeLookup_type → Nh, wpAny_specialOf → Ni, wpAny_updateSeq → Nk, wpAny_richCompare_same_room → Nx, isSubtype_stop → NN, wpAny_binaryOp_repeat_ref → NT, wpAny_missedRemoval_other → NV, setItem → NY, getItem → NZ, IsZip → O1, wpAny_pyIter_slot → O6, pyIter → O8, wpAny_comprehension_free → Oa, wpAny_onRaise → Ob, wpAny_forIn_list → Oi, noFill_tuple_add → Oj, entryFor_of_tree → Ox, wpAny_Call_method0_late → Oy, wpAny_pyNext_list_item → OE, IsPart → OF, seqIndex_neg → OG, wpAny_getItem_list_neg → OI, typeIs_int → OJ, Keyword → OK, call_meets → OL, IsEnum → ON, wpAny_execs_nil → OW, pushCells_keeps → OZ, wpAny_dictEpoch → P1, wpAny_pyNext_list_end → P2, seqIndex_of → Pe, atKey → Pg, newFunctionEnv → Ph, wpAny_throw → Pj, ZipApart → Pk, ReadsAll → Po, callType_codes → Pq, wpAny_pyIter_keyiter → Pu, callerA → PN, valueAt → PQ, seqItems? → PR, evalArgs_none → Q0, wpAny_dictFind_heap → Q1, assignInOrder → Q5, seq_tuple_add → Q6, wpAny_handled → Q7, mroOf_keyiter → Q9, foldedForSure → Qe, Result → Qj, BindsTo → QE, concat_meets → QF, wpAny_sequenceKey → QG, call_meetsIn → QJ, wpAny_Call_method → QK, wpAny_pyIter_enum → QN, atKey_none_of_get → QY, wpAny_Dict_empty → Ra, pushCells → Rb, wpAny_pyIter_zip → Rg, IsEnumOut → Rh, kt_code_dict_new → Rp, keywordEach → RC, builtinsNs → RZ, wpAny_Name → S0, bindName → S2, wpAny_load → S3, bindL → S4, bindC → S8, call → Sa, newExc → Sd, newTuple → Se, entryFor → Sg, argsOk → Si
open PySem.Heap renaming get?_push_of_some → h6, get?_push_size → GZ, lt_size → H0, get?_update_ne → Iq, get?_update_other → IF, SameBut → IQ, size_push → IX, get?_update_self → Jl, get?_push_cases → N3, IsTuple → Nu, IsList → Pm, ExtBut → RE
open Bool renaming and_eq_true → z4, false_ne_true → Hi, false_eq_true → Iw, not_eq_true' → JA, not_eq_true → MD, false_and → NG, false_or → O9, or_eq_true → P0, and_eq_true_iff → Pn, eq_iff_iff → RX
open List renaming getElem?_eq_getElem → D0, getElem?_append_right → D1, length_map → H8, length_append → H9, replicate → Ha, pairwise_append → Hb, mem_cons → He, map_cons → Hj, mem_map → Hk, mem_map_of_mem → Hl, size_toArray → Hn, append_assoc → Ho, getElem?_append_left → Hq, getD_eq_getElem?_getD → Hs, mem_append → Hu, getElem?_eq_some_iff → Hy, filter_cons_of_neg → HA, mem_append_right → HD, filter_cons_of_pos → HE, getElem?_map → HG, mem_of_getElem? → HH, mem_cons_of_mem → HM, toList_toArray → HQ, length_take → HR, length_filter_le → HU, not_mem_nil → I9, length_eq_zero_iff → Ia, mem_filter → Ic, mem_cons_self → Ij, length_pos_iff → Il, map_map → Im, length_cons → Io, nodup_cons → Ip, mem_append_left → Iv, flatten_cons → IG, pairwise_map → II, filter_append → IM, map_congr_left → IT, append_nil → IU, range → IV, drop_eq_getElem_cons → IZ, map_append → J2, replicate_succ → J4, length_singleton → J7, mem_iff_getElem → Jb, length_nil → Jd, find?_cons → Je, flatMap_cons → Jk, getElem?_set_self → Jx, nodup_iff_pairwise_ne → JB, mem_of_find?_eq_some → JF, take_append_drop → JG, getElem_mem → JK, zipWith → JN, dropLast_concat_getLast → JX, flatten_append → K5, drop_eq_nil_of_le → K8, find?_cons_of_neg → Ka, lookup_cons → Kc, Perm → Kd, length_replicate → Kk, getElem?_eq_none → Kl, getElem?_set_ne → Ko, ext_getElem? → Kr, all_cons → Kz, filter_sublist → KG, getElem?_cons_succ → KL, all_eq_true → KN, any_eq_true → KO, forIn_cons → KZ, map → L7, any_cons → La, perm_append_comm → Lc, nodup_append → Lg, length_range → Lh, mem_reverse → Lu, flatMap_append → Lx, getElem?_take_of_lt → Lz, of_mem_zip → LH, foldl_cons → LJ, pairwise_cons → LN, getElem?_drop → LP, find?_eq_none → LR, getElem?_replicate → LW, eraseIdx_cons_succ → Ma, mem_range → Mb, map_nil → Mg, extract → Ml, take_of_length_le → Mm, reverse_perm → Mn, find?_cons_of_pos → Ms, length_drop → My, foldl → MA, ext_getElem → MQ, length → MX, getElem?_mapIdx → N4, mem_of_mem_drop → N5, mem_of_mem_take → N6, nil_append → Na, find?_some → Nj, filterMap_cons → Np, getElem?_range → Nq, map_set → NB, zip_cons_cons → NI, forIn_nil → NM, drop_drop → NP, eq_of_mem_replicate → Oh, zipIdx_cons → Om, drop_length → Ou, cons_append → Ow, getElem?_cons_zero → OA, length_set → OX, pairwise_reverse → P4, reverse_reverse → Pp, getElem?_of_mem → Py, length_zipWith → PX, length_reverse → PY, filter_eq_self → Q2, zip_eq_zipWith → Q4, sum_cons → Qg, mem_filterMap → Qi, set_cons_zero → Qw, set_cons_succ → Qx, mem_singleton → Qy, any_eq_false → QA, take_add_one → QP, take_length → Ri, map_snd_zip → Rl, range'_succ → Rr, map_zipWith → Ry, flatMap_nil → Rz, mem_flatMap → RA, zipIdx_nil → RQ, mem_mapIdx → RV, length_zip → RW
open PyProof.Rows renaming wpS_bind → Hc, Keyed → Hf, pendingOf → Hw, arrOf → Ii, wpS_forRange → IA, SortSt → IC, kindOf → Jh, slot_tuple_getitem → JE, wpS_modify → JJ, get?_update_seq → JZ, failedOf → K1, callWith_type1 → K6, listUpdate_at → KA, SortKind → LF, IntsAre → LI, wpS_get → LK, setPending → LO, callWith_builtin1 → Mx, mem_zip_self → Ny, assignInOrder_cons → NF, AllBare → NX, seqSlot_of → Oq, subscriptTail_builtinR → OH, envOfC → Pb, entry_tuple_getitem → PU, args_tuple_getitem → Ql, seqObj → Qq, assignInOrder_nil → Qz, listItems_at → QS, entry_list_iadd' → Rm, IsTup → RB, keyKind'_eq → RG, seqEpoch_at → RH, mergeAt' → Sf
open Nat renaming le_refl → Hg, ne_of_lt → HJ, lt_of_lt_of_le → HZ, lt_irrefl → Ig, ne_of_gt → Iu, mul_le_mul → J1, zero_le → Jj, le_trans → Jp, succ_mul → Jq, mul_le_mul_right → JR, le_of_lt → Lr, min_eq_left → LL, lt_succ_of_lt → Mj, sub_self → Nv, zero_add → Nw, add_sub_cancel → NQ, succ_le_succ → Ot, add_assoc → Q8, lt_succ_self → Rj, not_lt → Sb
open Array renaming toList_append → Hm, toList_push → Hr, getElem?_toList → Hz, getElem?_eq_getElem → HC, length_toList → HI, toList_reverse → Ie, toList_extract → JQ, getElem?_eq_none → KW, size_append → Lf, toList_inj → MK, map → MM, eq_empty_of_size_eq_zero → MP, size_push → Ng, toList_setIfInBounds → NR, toList → OD, all_eq_true → QT, filterMap → RU
open PySem.Value renaming ref → Ht, type → HY, none → Jw, bool → OC, notImplemented → Pc, int → R4, str → R6
open Int renaming toNat_natCast → HF, eq_ofNat_of_zero_le → IB, add_mul → Kt, toNat_of_nonneg → Lw, emod_lt_of_pos → LQ, mul_add → N8, emod_nonneg → Nm, add_zero → OU, natAbs_mul → PM, mul_assoc → Qf, add_assoc → Qh, mul_comm → R3
open PySem.W renaming mg_of → HV, kia_one → Jc, fnOf → KS, keepIn → Lj, cellsFrom_some → Me, nsIn → Mk, codeIn → NH, methodObj → NW, instObj → OV, OpenLaw → OY, lookIn → Pa, kitx_list → QB, kitx_dict → QC, plainGet → R7
open PySem.NameKind renaming free → Ib, cell → JM
open PySem.PyData renaming eqvAll → Ih, eqv → Ik, canLayAll0 → J8, depthAll → JW, depth → KU, canLay0 → Mo, tuple → OP, list → RF
open PySem.Str renaming ofString → Iy
open List.Perm renaming append_left → Iz, append_right → IH, of_eq → L4, refl → NS
open PySem.Builtin.Dict_items renaming pairFromOwner → IJ, ownedTupleIsFree → Jo, isOneOf → Kj
open PySem.Obj renaming mapSeq → Ja, data_mapDictKeys → Lq, isFreed_of_dict → Q3, data_mapFields → Qn
open PySem.SeqAt renaming readOf → Jr, readOf_eq → JY, eqAt_reads → Rk, EqAt → S9
open Option renaming some → Ju, isSome_iff_exists → Kv, map_some → L3, map_eq_some_iff → Mh, bind_some → Ov, isSome_some → Qm, map → Qp, isNone_none → Qu, isSome_map → QI, getD_none → R8, join_some → Rt, bind_none → Ru, join_none → Rx
open PySem.Paired renaming length → JL
open PySem.Heap.SameBut renaming update → K0, refl → QU
open PySem.Calls renaming callWith_builtin → K7, spliced_cons → Kg, spliced_nil → Md, evalArgs_plain → MZ, Name_function_global → ND
open PySem.Builtin.List renaming listLengthHint → K9, listTooLong → LC, listExtendWith → NA, listItems → OS
open PySem.F renaming plain_min_loop → Ke, slot_tuple_iterator_next → Kh, slot_enumerate_next → Lb, plainAttrs_dict → Lk, args_tuple_add_2 → LA, entry_tuple_add → LX, slot_tuple_add → Mf, slot_dict_get → Mt, slot_int_rmul → Nb, args_tuple_iterator_next_1 → Nc, slot_zip_next → Nf, plain_extend_loop → Nr, entry_tuple_iterator_next → Nt, slot_dict_items → O7, args_dict_get_3 → Ol, args_enumerate_next_1 → Oo, entry_min_loop → Oz, entry_dict_get → OM, entry_enumerate_next → OO, slot_dict_items_iter → OQ, entry_proto_collect → P5, slot_dict_pop → P9, kt_typeCall_dict_1 → Pt, slot_dict_eq → Pw, entry_extend_loop → PZ, args_dict_init_2 → Qt, args_int_rmul_2 → QH, args_zip_next_1 → QL, type_dict_items → QW, entry_dict_init → QX, entry_int_rmul → R9, entry_zip_next → Rc, kt_called_dict → Ro, slot_dict_iter → Rq, fills_int_mul → RP, slot_tuple_lt → RT
open True renaming intro → Kf
open PySem.Builtin.Slice renaming slicePlaces → Km, sliceAdjust → Lv, sliceApplied → NJ
open PySem.Builtin.Tuple renaming tupleExact → Kw, tupleCompareSizes → KD, tupleItemsOf → NK, tupleIsExact → NL, tupleTooMany → NO
open LawfulBEq renaming eq_of_beq → KI
open PySem.Data renaming seq → KJ, fields → LV
open PySem.Shared renaming heap → KP, TypeIs → MW
open ForInStep renaming yield → KY
open List.cons renaming injEq → L5
open Std.Legacy.Range renaming forIn_eq_forIn_range' → Lo, size → P7
open Prod renaming ext → LB
open Sum renaming inl → LG, inr → OB
open PySem.Builtin.Dict renaming updateFrom → LZ, entriesForEmpty → Nl, dictSlotArgs → NU, addKeywords → Oc, selfAndRest → Oe, samePairs → OR, mergeDict → OT, showsAll → P6, takeOut → Pz, quietEq → PD
open PyProof.Rows.IsTup renaming new → Mw
open And renaming intro → MB
open PyProof.Rows.SortSt renaming mk' → MJ
open List.Sublist renaming map → MN
open PySem.Around renaming under_plainId → N7, in1_handled → Qo, under_plain → Qs
open PySem.Builtin.Builtins renaming bindParams → Nz
open List.Pairwise renaming nil → O0
open PySem.Env renaming blockKind → Of, kindOf → Qv
open Function renaming comp → Og
open ToString renaming toString → Px
open PySem.Expr renaming Subscript → PF, Attribute → PH, Constant → Qa, ListComp → Qb, UnaryOp → QZ, Compare → R0, BoolOp → RJ, BinOp → Sk, IfExp → Sl, Tuple → Sm, Slice → Sn, Name → Ss, List → Sw, Call → Sx, Dict → Sy
open PySem.Stmt renaming AugAssign → PJ, Continue → Qc, Assign → RL, Return → RN, While → So, Break → Sr, Expr → Sz, Pass → SA
open PySem.Builtin.Int renaming intBits → PV
open PySem.SeqAt.EqAt renaming int_int → Qk
open PySem.Code renaming quiet_builtin → Qr, builtin → QV
open PySem.Heap.IsTuple renaming push → QM
open Option.some renaming injEq → QO
open Exists renaming intro → QR
open PySem.Heap.IsList renaming push → Rf
open Iff renaming rfl → RY
open MonadExcept renaming tryCatch → Sj
namespace L2
open PySem PySem.Spec PyProof.Rows
section
noncomputable abbrev Key:=Sum Int Str
noncomputable def gJ:Key->hH->Bool
 | .inl k,v=>Value.isInt k v
 | .inr x,v=>Value.isStrOf x v
noncomputable def Eh (w:HX):Key->Int
 | .inl k=>hashInt k
 | .inr x=>hashStr w x
theorem aP:∀ {k:Key} {v:hH},gJ k v=true->(∃ i t,k=LG i/\v=R4 i t)∨(∃ x t,k=OB x/\v=R6 x t)
 | .inl i,v,h=>by
  obtain ⟨t,e⟩:=Value.isInt_shape (k:=i) (v:=v) h;exact .inl ⟨i,t,rfl,e⟩
 | .inr x,v,h=>by
  obtain ⟨t,e⟩:=Value.isStrOf_shape (x:=x) (v:=v) h;exact .inr ⟨x,t,rfl,e⟩
theorem tI (i:Int) (t:Tok):gJ (.inl i) (.int i t)=true:=by simp [gJ,Value.isInt]
theorem tJ (x:Str) (t:Tok):gJ (.inr x) (.str x t)=true:=by simp [gJ,Value.isStrOf]
theorem Bs (a b:Int):decide ((LG a:Key)=LG b)=(a==b):=by
 by_cases e:a=b
 ·subst e;simp
 ·have h : ¬ (LG a:Key)=LG b:=fun q=>e (LG.inj q);rw [decide_eq_false h];exact (beq_eq_false_iff_ne.mpr e).symm
theorem Bt (a b:Str):decide ((OB a:Key)=OB b)=decide (a=b):=by
 by_cases e:a=b
 ·subst e;simp
 ·have h : ¬ (OB a:Key)=OB b:=fun q=>e (OB.inj q);rw [decide_eq_false h,decide_eq_false e]
theorem Bu (a:Int) (b:Str):decide ((LG a:Key)=OB b)=false:=decide_eq_false (fun q=>nomatch q)
theorem Bv (a:Str) (b:Int):decide ((OB a:Key)=LG b)=false:=decide_eq_false (fun q=>nomatch q)
noncomputable def ar (prog:HB) (w:HX):PySem.KeyKind prog w Key where
 is:=gJ
 hash:=Eh w
 inj:=fun v a b ha hb=>by
  rcases aP ha with ⟨i,t,rfl,rfl⟩ | ⟨x,t,rfl,rfl⟩
  ·rcases aP hb with ⟨j,u,rfl,e⟩ | ⟨y,u,rfl,e⟩
   ·injection e with e1 _;rw [e1]
   ·exact nomatch e
  ·rcases aP hb with ⟨j,u,rfl,e⟩ | ⟨y,u,rfl,e⟩
   ·exact nomatch e
   ·injection e with e1 _;rw [e1]
 byValue:=fun k v h=>by
  rcases aP h with ⟨i,t,rfl,rfl⟩ | ⟨x,t,rfl,rfl⟩ <;> rfl
 pyHash:=fun hv h=>by
  rcases aP hv with ⟨i,t,rfl,rfl⟩ | ⟨x,t,rfl,rfl⟩
  ·exact wpAny_pyHash_int h
  ·exact wpAny_pyHash_str h
 eqBool:=fun hu hv h=>by
  rcases aP hu with ⟨i,t,rfl,rfl⟩ | ⟨x,t,rfl,rfl⟩
  ·rcases aP hv with ⟨j,u,rfl,rfl⟩ | ⟨y,u,rfl,rfl⟩
   ·rw [Bs] at h;exact wpAny_eqBool_int h
   ·rw [Bu] at h;exact SeqAt.EqAt.int_str i t y u _ _ _ _ h
  ·rcases aP hv with ⟨j,u,rfl,rfl⟩ | ⟨y,u,rfl,rfl⟩
   ·rw [Bv] at h;exact SeqAt.EqAt.str_int x t j u _ _ _ _ h
   ·rw [Bt] at h;exact wpAny_eqBool_str h
 «strs»:=fun k x t v h=>by
  rcases aP h with ⟨i,u,rfl,e⟩ | ⟨y,u,rfl,e⟩
  ·exact nomatch e
  ·injection e with e1 _
   subst e1
   cases v <;> rfl
theorem qc (prog:HB) (w:HX) (i:Int) (t:Tok):(ar prog w).is (.inl i) (.int i t)=true:=tI i t
theorem qd (prog:HB) (w:HX) (x:Str) (t:Tok):(ar prog w).is (.inr x) (.str x t)=true:=tJ x t
end
section
inductive V where
 | non | bl (b:Bool) | int (i:Int) | str (x:Str) | byt (b:Array UInt8) | flt (b:UInt64) | ref (a:Addr) | ty (n:String)
 deriving DecidableEq
noncomputable def RelV:V->hH->Prop
 | .non,u=>u=Jw
 | .bl b,u=>u=OC b
 | .int i,u=>∃ t,u=R4 i t
 | .str x,u=>∃ t,u=R6 x t
 | .byt b,u=>∃ t,u=Value.bytes b t
 | .flt b,u=>∃ t,u=Value.float b t
 | .ref a,u=>u=Ht a
 | .ty n,u=>u=HY n
noncomputable abbrev Vals:List V->List hH->Prop:=I8 RelV
theorem Vals.length {xs:List V} {us:List hH} (r:Vals xs us):xs.length=us.length:=JL r
theorem Vals.get:∀ {xs:List V} {us:List hH} {i:Nat} {x:V},Vals xs us->xs[i]? = some x -> ∃ u,us[i]? = some u/\RelV x u
 | _,_,_,_,.nil,e=>by simp at e
 | _,_,0,_,.cons r _,e=>by simp at e;subst e;exact ⟨_,rfl,r⟩
 | _,_,i+1,x,.cons _ t,e=>by
   obtain ⟨u,h1,h2⟩:=Vals.get (i:=i) (x:=x) t (by simpa using e)
   exact ⟨u,by simpa using h1,h2⟩
theorem Vals.set {x:V} {u:hH} (r:RelV x u):∀ {xs:List V} {us:List hH} (i:Nat),Vals xs us->Vals (xs.set i x) (us.set i u)
 | _,_,_,.nil=>.nil
 | _,_,0,.cons _ t=>.cons r t
 | _,_,i+1,.cons q t=>.cons q (Vals.set r i t)
theorem Vals.append:∀ {xs ys:List V} {us ws:List hH},Vals xs us->Vals ys ws->Vals (xs++ys) (us++ws)
 | _,_,_,_,.nil,s=>s
 | _,_,_,_,.cons r t,s=>.cons r (Vals.append t s)
theorem Vals.take:∀ {xs:List V} {us:List hH} (n:Nat),Vals xs us->Vals (xs.take n) (us.take n)
 | _,_,0,_=>.nil
 | _,_,_+1,.nil=>.nil
 | _,_,n+1,.cons r t=>.cons r (Vals.take n t)
theorem Vals.drop:∀ {xs:List V} {us:List hH} (n:Nat),Vals xs us->Vals (xs.drop n) (us.drop n)
 | _,_,0,r=>r
 | _,_,_+1,.nil=>.nil
 | _,_,n+1,.cons _ t=>Vals.drop n t
noncomputable def RelO:Option V->Option hH->Prop
 | some v,some u=>RelV v u
 | none,none=>True
 | _,_=>False
noncomputable def KV {κ:Type}:List (κ × V)->List (κ × hH)->Prop:=I8 fun (p : κ × V) (q : κ × hH)=>p.1=q.1/\RelV p.2 q.2
noncomputable def kV:Key->V
 | .inl i=>.int i
 | .inr x=>.str x
inductive HO where
 | lst (xs:List V)
 | tup (xs:List V)
 | dK (kvs:List (Key×V)) | dT (kvs:List (List Key×V))
 | set (S:Int->Bool) (n:Nat)
 | ins (C dx:Addr) (fs:List (Str×V))
 | own (x:Addr)
 | xd (fs:List (Str×V))
 | met (f x:Addr)
 | rng (lo hi:Int)
 | frz (o:Obj) (u:HO)
 | tbl (ps:Array hH)
 | ext (φ:Heap->Prop)
noncomputable abbrev Hp:=Addr->Option HO
noncomputable def upd (H:Hp) (a:Addr) (o:HO):Hp:=fun b=>if b=a then some o else H b
theorem ao {H:Hp} {a:Addr} {o:HO}:upd H a o a=some o:=by unfold upd;rw [if_pos rfl]
theorem ah {H:Hp} {a b:Addr} {o:HO} (h:b≠a):upd H a o b=H b:=by unfold upd;rw [if_neg h]
theorem zN {H:Hp} {a:Addr} {o u:HO}:upd (upd H a o) a u=upd H a u:=by
 funext b;unfold upd;split <;> rfl
theorem rE {H:Hp} {a b:Addr} {o u:HO} (h:H a=some o) (h':H b=some u) (d:o≠u):a≠b:=by
 intro e;subst e;rw [h] at h';exact d (Ju.inj h')
theorem aV {H:Hp} {a b:Addr} {o:HO} (h:H a=some o) (h':H b=none):a≠b:=by
 intro e;subst e;rw [h] at h';cases h'
section
variable (P:HB) (w:HX)
noncomputable def ObjOk (H:Hp) (h:Heap) (a:Addr):HO->Prop
 | .lst xs=>xs.length<=Hd /\ ∃ (its:List hH) (n:Nat),Vals xs its/\h.get? a=some { cls:=.type "list",data:=.seq its.toArray n }
 | .tup xs=>xs.length<=Hd /\ ∃ its:List hH,Vals xs its/\RB h a its.toArray
 | .dK kvs=>kvs.length<=Hd/\(a==Ir)=false /\ ∃ vs,KV kvs vs/\h.DictOf (ar P w) a vs
 | .dT kvs=>kvs.length<=Hd/\(a==Ir)=false /\ ∃ xs:List (List Key×Addr×hH),
  I8 (fun (p:List Key×V) (q:List Key×Addr×hH)=>p.1=q.1/\H q.2.1=some (.tup (p.1.map kV))/\RelV p.2 q.2.2) kvs xs /\
  ∃ o es ep,h.get? a=some o/\o.ExactDict/\o.data = .dict es ep/\es.toList=xs.map (Ku (IP (ar P w)))/\(xs.map (·.1)).Nodup
 | .set S n=>h.SetOf (intKind P w) a S n
 | .ins C dx fs=>H dx=some (.own a)/\fs.length<=1000/\dx≠a/\h.get? a=some (OV C dx) /\
  ∃ mA,h.Ns1 dx mA/\(∀ f,RelO (fs.lookup f) (mA f))/\PySem.Within mA (fs.map (·.1))
 | .own _=>∃ o,h.get? a=some o
 | .xd fs=>∃ mA,h.Ns1 a mA /\ ∀ f,RelO (fs.lookup f) (mA f)
 | .rng lo hi=>∃ t u v,h.get? a=some { cls:=.type "range",data:=.fields #[.int lo t,.int hi u,.int 1 v] }
 | .frz o u=>h.get? a=some o/\ObjOk H h a u
 | .tbl ps=>h.get? a=some { cls:=.none,data:=.fields ps }
 | .met f x=>h.get? a=some (NW (.ref f) (.ref x))
 | .ext φ=>φ h/\(∃ o,h.get? a=some o) /\ ∀ h1 h2:Heap,φ h1->(∀ o,h1.get? a=some o->h2.get? a=some o) -> φ h2
def HOk (H:Hp) (h:Heap):Prop:=∀ a o,H a=some o->ObjOk P w H h a o
end
section
variable {P:HB} {w:HX} {H H':Hp} {h h':Heap} {a:Addr} {o:HO}
theorem ObjOk.lt (x:ObjOk P w H h a o):a < h.objs.size:=by
 cases o with
 | lst xs=>obtain ⟨_,_,_,_,e⟩:=x;exact H0 e
 | tup xs=>obtain ⟨_,_,_,p⟩:=x;exact p.lt
 | dK kvs=>obtain ⟨_,_,_,_,o,_,_,e,_⟩:=x;exact H0 e
 | dT kvs=>obtain ⟨_,_,_,_,o,_,_,e,_⟩:=x;exact H0 e
 | set S n=>obtain ⟨o,_,_,_,e,_⟩:=x;exact H0 e
 | ins C dx fs=>obtain ⟨_,_,_,e,_⟩:=x;exact H0 e
 | own y=>obtain ⟨_,e⟩:=x;exact H0 e
 | xd fs=>obtain ⟨_,⟨_,_,_,e,_⟩,_⟩:=x;exact H0 e
 | rng lo hi=>obtain ⟨_,_,_,e⟩:=x;exact H0 e
 | frz ob u=>obtain ⟨e,_⟩:=x;exact H0 e
 | tbl ps=>exact H0 (show h.get? a=some _ from x)
 | met f y=>exact H0 (show h.get? a=some _ from x)
 | ext φ=>obtain ⟨_,⟨_,e⟩,_⟩:=x;exact H0 e
theorem SH {α β:Type} {F G : α -> β -> Prop}:∀ {l₁:List α} {l₂:List β},I8 F l₁ l₂ -> (∀ a b,F a b->G a b)->I8 G l₁ l₂
 | _,_,.nil,_=>.nil
 | _,_,.cons r t,f=>.cons (f _ _ r) (SH t f)
theorem ObjOk.stay (x:ObjOk P w H h a o) (k:∀ b u,(b=a∨H b=some (.own a))->h.get? b=some u->h'.get? b=some u)
 (ho:∀ b,H b=some (.own a)->H' b=some (.own a)) (j:∀ b xs,H b=some (.tup xs)->H' b=some (.tup xs)):ObjOk P w H' h' a o:=by
 induction o with
 | lst xs=>obtain ⟨z,its,n,r,e⟩:=x;exact ⟨z,its,n,r,k _ _ (.inl rfl) e⟩
 | tup xs=>obtain ⟨z,its,r,ob,e,c⟩:=x;exact ⟨z,its,r,ob,k _ _ (.inl rfl) e,c⟩
 | dK kvs=>obtain ⟨z,y,vs,r,ob,es,ep,e,c⟩:=x;exact ⟨z,y,vs,r,ob,es,ep,k _ _ (.inl rfl) e,c⟩
 | dT kvs =>
   obtain ⟨z,y,xs,r,ob,es,ep,e,c⟩:=x;exact ⟨z,y,xs,SH r fun p q z=>⟨z.1,j _ _ z.2.1,z.2.2⟩,ob,es,ep,k _ _ (.inl rfl) e,c⟩
 | set S n=>obtain ⟨ob,es,ep,t,e,c⟩:=x;exact ⟨ob,es,ep,t,k _ _ (.inl rfl) e,c⟩
 | ins C dx fs =>
   obtain ⟨d,z,ne,e,mA,⟨od,es,ep,B,c⟩,r⟩:=x;exact ⟨ho _ d,z,ne,k _ _ (.inl rfl) e,mA,⟨od,es,ep,k _ _ (.inr d) B,c⟩,r⟩
 | own y=>obtain ⟨ob,e⟩:=x;exact ⟨ob,k _ _ (.inl rfl) e⟩
 | xd fs=>obtain ⟨mA,⟨od,es,ep,e,c⟩,r⟩:=x;exact ⟨mA,⟨od,es,ep,k _ _ (.inl rfl) e,c⟩,r⟩
 | rng lo hi=>obtain ⟨t,u,v,e⟩:=x;exact ⟨t,u,v,k _ _ (.inl rfl) e⟩
 | frz ob u ih=>obtain ⟨e,q⟩:=x;exact ⟨k _ _ (.inl rfl) e,ih q⟩
 | tbl ps =>
   have e:h.get? a=some { cls:=.none,data:=.fields ps }:=x;show h'.get? a=some { cls:=.none,data:=.fields ps };exact k a _ (.inl rfl) e
 | met f y =>
   have e:h.get? a=some (NW (.ref f) (.ref y)):=x;show h'.get? a=some (NW (.ref f) (.ref y));exact k a _ (.inl rfl) e
 | ext φ=>obtain ⟨p,⟨o,e⟩,st⟩:=x;exact ⟨st _ _ p fun o q=>k _ _ (.inl rfl) q,⟨o,k _ _ (.inl rfl) e⟩,st⟩
theorem HOk.lt (x:HOk P w H h) (e:H a=some o):a < h.objs.size:=(x a o e).lt
theorem HOk.fresh (x:HOk P w H h) (e:h.objs.size<=a):H a=none:=by
 cases q:H a with
 | none=>rfl
 | some u=>exact absurd (HZ (x.lt q) e) (Ig _)
theorem HOk.kept (x:HOk P w H h) (k:∀ b u,h.get? b=some u->h'.get? b=some u):HOk P w H h':=fun a o e =>
 (x a o e).stay (fun b u _ q=>k b u q) (fun _ q=>q) fun _ _ q=>q
theorem HOk.laid (x:HOk P w H h) (k:∀ b u,h.get? b=some u->h'.get? b=some u) (z:h.objs.size<=a) (new:ObjOk P w (upd H a o) h' a o):HOk P w (upd H a o) h':=fun b u e=>by
 have j:=x.fresh z
 by_cases hb:b=a
 ·subst hb;rw [ao] at e;cases e;exact new
 ·rw [ah hb] at e;exact (x b u e).stay (fun c v _ q=>k c v q) (fun c q=>by rw [ah (aV q j)];exact q) fun c xs q=>by rw [ah (aV q j)];exact q
end
def Rd (H:Hp) (a:Addr) (u:HO):Prop:=H a=some u∨∃ o,H a=some (.frz o u)
theorem Rd.of {H:Hp} {a:Addr} {u:HO} (h:H a=some u):Rd H a u:=.inl h
theorem Rd.ok {P:HB} {w:HX} {H:Hp} {h:Heap} {a:Addr} {u:HO} (r:Rd H a u) (x:HOk P w H h):ObjOk P w H h a u:=by
 rcases r with r | ⟨o,r⟩
 ·exact x a u r
 ·obtain ⟨_,q⟩:=x a _ r;exact q
noncomputable def Mut:Option HO->Prop
 | some (.lst _)=>True
 | some (.dK _)=>True
 | some (.dT _)=>True
 | some (.set _ _)=>True
 | some (.ins _ _ _)=>True
 | some (.ext _)=>True
 | _=>False
section
variable {P:HB} {w:HX} {H:Hp} {h h':Heap} {x e:Addr} {o':HO}
theorem HOk.write (ok:HOk P w H h) (mu:Mut (H x)) (he:e=x∨H e=some (.own x)) (k:∀ b u,b≠e->h.get? b=some u->h'.get? b=some u) (F:∃ u,h'.get? e=some u)
 (new:ObjOk P w (upd H x o') h' x o'):HOk P w (upd H x o') h':=fun b u q=>by
 have nown:∀ c y,H c=some (.own y)->c≠x:=fun c y r z=>by subst z;rw [r] at mu;exact mu
 have ntup:∀ c xs,H c=some (.tup xs)->c≠x:=fun c xs r z=>by subst z;rw [r] at mu;exact mu
 by_cases hb:b=x
 ·subst hb;rw [ao] at q;cases q;exact new
 ·rw [ah hb] at q
  by_cases j:b=e
  ·have q':H b=some (.own x):=by
    rcases he with z | z
    ·exact absurd (j.trans z) hb
    ·rw [j];exact z
   rw [q] at q';cases q';obtain ⟨v,G⟩:=F;exact ⟨v,by rw [j];exact G⟩
  ·refine (ok b u q).stay (fun c v B r=>k c v ?_ r) (fun c r=>by rw [ah (nown c b r)];exact r) fun c xs r=>by rw [ah (ntup c xs r)];exact r
   rcases B with rfl | B
   ·exact j
   ·rintro rfl
    rcases he with z | z
    ·exact nown c b B z
    ·rw [B] at z;cases z;exact hb rfl
end
structure Un (fs ex:List Addr) (H H':Hp) (h h':Heap):Prop where
 keep:∀ b o,h.get? b=some o->H b=none->b∉fs->b∉ex->h'.get? b=some o
 slot:∀ b o,h.get? b=some o->H b=none->b∈fs->b∉ex -> ∃ sl,h'.get? b=some { o with slots:=sl }
 free:∀ b o,h.get? b=some o->H b=none->b∉ex->H' b=none
 there:∀ b o,h.get? b=some o->b∉ex -> ∃ o',h'.get? b=some o'
 tups:∀ b xs,H b=some (.tup xs)->H' b=some (.tup xs)
 frzs:∀ b o u,H b=some (.frz o u)->H' b=some (.frz o u)
 tbls:∀ b ps,H b=some (.tbl ps) -> ∃ more,H' b=some (.tbl (ps++more))
section
variable {fs fs' ex ex':List Addr} {H H1 H2:Hp} {h h1 h2 h':Heap} {a x e:Addr} {o:HO}
theorem Un.any (u:Un fs ex H H1 h h1) {b:Addr} {ob:Obj} (q:h.get? b=some ob) (n:H b=none) (hx:b∉ex):∃ sl,h1.get? b=some { ob with slots:=sl }:=by
 by_cases j:b∈fs
 ·exact u.slot b ob q n j hx
 ·exact ⟨ob.slots,u.keep b ob q n j hx⟩
theorem Un.kept (k:∀ b u,h.get? b=some u->h'.get? b=some u):Un fs ex H H h h' :=
 ⟨fun b ob q _ _ _=>k b ob q,fun b ob q _ _ _=>⟨ob.slots,k b ob q⟩,fun _ _ _ n _=>n,fun b ob q _=>⟨ob,k b ob q⟩,fun _ _ q=>q,fun _ _ _ q=>q,fun _ ps q=>⟨#[],by rw [q];simp⟩⟩
theorem Un.refl:Un fs ex H H h h:=Un.kept fun _ _ q=>q
theorem Un.laid (k:∀ b u,h.get? b=some u->h'.get? b=some u) (z:h.objs.size<=a) (j:H a=none):Un fs ex H (upd H a o) h h' where
 keep:=fun b u q _ _ _=>k b u q
 slot:=fun b u q _ _ _=>⟨u.slots,k b u q⟩
 free:=fun b u q n _=>by rw [ah (HJ (HZ (H0 q) z))];exact n
 there:=fun b u q _=>⟨u,k b u q⟩
 tups:=fun b xs q=>by rw [ah (aV q j)];exact q
 frzs:=fun b u xs q=>by rw [ah (aV q j)];exact q
 tbls:=fun b ps q=>⟨#[],by rw [ah (aV q j),q];simp⟩
theorem Un.write (mu:Mut (H x)) (he:e=x∨H e=some (.own x)) (k:∀ b u,b≠e->h.get? b=some u->h'.get? b=some u) (B:∃ u,h'.get? e=some u):Un fs ex H (upd H x o) h h':=by
 have hx:∀ b,H b=none->b≠x:=fun b n z=>by subst z;rw [n] at mu;exact mu
 have F:∀ b,H b=none->b≠e:=fun b n z=>by
  subst z
  rcases he with r | r
  ·exact hx b n r
  ·rw [n] at r;cases r
 have hm:∀ b u,H b=some u -> ¬ Mut (some u)->b≠x:=fun b u q nm z=>by subst z;rw [q] at mu;exact nm mu
 refine ⟨fun b u q n _ _=>k b u (F b n) q,fun b u q n _ _=>⟨u.slots,k b u (F b n) q⟩,fun b u q n _=>by rw [ah (hx b n)];exact n,fun b u q _=>?_,
  fun b xs q=>by rw [ah (hm b _ q fun z=>z)];exact q,fun b u xs q=>by rw [ah (hm b _ q fun z=>z)];exact q,fun b ps q=>⟨#[],by rw [ah (hm b _ q fun z=>z),q];simp⟩⟩
 by_cases j:b=e
 ·subst j;exact B
 ·exact ⟨u,k b u j q⟩
end
noncomputable def trk (h:Heap) (H:Hp):List Addr:=(IV h.objs.size).filter fun a=>(H a).isSome
noncomputable def fw (h:Heap) (H:Hp):Heap:=PySem.W.hideAll h (trk h H)
theorem tK (h:Heap) (H:Hp):(fw h H).objs.size=h.objs.size:=PySem.W.hideAll_size _ _
theorem ww {h:Heap} {H:Hp} {b:Addr} {o:Obj} (e:h.get? b=some o) (n:H b=none):(fw h H).get? b=some o :=
 PySem.W.hideAll_get _ e fun hm=>by
  have q:(H b).isSome=true:=(Ic.mp hm).2;rw [n] at q;simp at q
theorem zO {h:Heap} {H:Hp} {b:Addr} {o:Obj} (e:(fw h H).get? b=some o):h.get? b=some o/\H b=none:=by
 have e':h.get? b=some o:=PySem.W.of_hideAll (trk h H) e;refine ⟨e',?_⟩
 cases q:H b with
 | none=>rfl
 | some x =>
   have hm:b∈trk h H:=Ic.mpr ⟨Mb.mpr (H0 e'),by simp [q]⟩
   have z:(fw h H).get? b=none:=PySem.W.hideAll_none (trk h H) hm;rw [z] at e;cases e
noncomputable def zP (g h:Heap) (L:Addr):List (Addr×Obj):=(IV h.objs.size).filterMap fun a=>if a=L∨(g.get? a).isSome=true then none else (h.get? a).map fun o=>(a,o)
noncomputable def rest (g h:Heap) (L d:Addr):List (Addr×Obj):=(zP g h L).filter fun p=>decide (p.1≠d)
end
section
structure Mod (K:Frag) (mg:Str->Option hH) (base:Heap):Prop where
 kin:K.In base
 glob:base.Ns J3 mg
 blt:∃ mb,base.Ns RZ mb /\ ∀ x:Str,x ≠ "__name__" -> mb x=KQ x
 nolimit:base.NoLimit
structure Cx where
 prog:HB
 w:HX
 K:Frag
 mg:Str->Option hH
 base:Heap
 A:I0
 N:List Str
 s₀:tv
 H₀:Hp
 env:Env
 outer:List Env
 stack:List Env
 ex:List Addr
 fn:Str->Bool
 calm:Bool
 pn:List (Addr×Obj)
 xe:hH->tv->Prop
noncomputable def frs (l:List Env):List Addr:=l.filterMap (·.frame)
noncomputable abbrev Cx.fs (X:Cx):List Addr:=frs X.outer
def Vis (sc:Scope) (x:Str):Prop:=sc.names.lookup x=some .local∨sc.names.lookup x=some .cell∨sc.names.lookup x=some .free
def Loc (sc:Scope) (x:Str):Prop:=sc.names.lookup x=some .local∨sc.names.lookup x=some .cell
def Ei (env:Env) (h:Heap) (m:Str->Option hH) (x:Str) (u:hH):Prop :=
 (env.kindOf x=some .local/\m x=some u)∨((env.kindOf x=some .cell∨env.kindOf x=some .free) /\ ∃ c,env.cells.lookup x=some c/\h.IsCell c (some u))
structure Cx.Ok (X:Cx):Prop where
 mod:Mod X.K X.mg X.base
 kind:X.env.scope.kind = .function
 glob:X.env.globals=J3
 blt:X.env.builtins=RZ
 above:X.s₀.heap.objs.size<=X.env.locals
 inj:∀ x y c,X.env.cells.lookup x=some c->X.env.cells.lookup y=some c->x=y
 has:∀ x,(X.env.kindOf x=some .cell∨X.env.kindOf x=some .free) -> ∃ c,X.env.cells.lookup x=some c
 cab:∀ x c,X.fn x=true->X.env.cells.lookup x=some c->X.s₀.heap.objs.size<=c
 hd:X.calm=true->X.A.handled=none
 frames:X.A.frames=some X.stack
 stk:X.stack=X.outer∨(X.stack=X.env::X.outer/\X.env.frame=some X.env.locals)
 exf:∀ b∈X.ex,b≠X.env.locals /\ ∀ x c,X.env.cells.lookup x=some c->c≠b
 bs:∀ b o,X.base.get? b=some o->X.s₀.heap.get? b=some o/\X.H₀ b=none
 bsz:X.base.objs.size<=X.s₀.heap.objs.size
 noex:∀ b o,X.base.get? b=some o->b∉X.ex
 exfs:∀ b∈X.ex,b∉X.fs
 funs:X.s₀.heap.FunFrames X.base X.outer
 frf:∀ b∈X.fs,X.H₀ b=none
structure Inv (X:Cx) (pins:List (Addr×Obj)) (σ:List (Option V)) (H:Hp) (s:tv):Prop where
 ok:X.Ok
 os:s.os=X.s₀.os
 bare:NX s.gens
 base:Un X.fs X.ex X.H₀ H X.s₀.heap s.heap
 loc:∃ m,s.heap.Ns X.env.locals m /\ ∀ (i:Nat) (x:Str) (v:V),X.N[i]? = some x -> σ[i]? = some (some v)->Vis X.env.scope x -> ∃ u,RelV v u/\Ei X.env s.heap m x u
 cell:∀ x c,X.env.cells.lookup x=some c -> ∃ v,s.heap.IsCell c v
 free:H X.env.locals=none
 freeC:∀ x c,X.env.cells.lookup x=some c->H c=none
 pin:∀ p∈X.pn++pins,s.heap.get? p.1=some p.2/\H p.1=none/\p.1≠X.env.locals/\p.1∉X.fs /\ ∀ v,p.2.data ≠ .cell v
 hok:HOk X.prog X.w H s.heap
 len : σ.length=X.N.length
section
variable {X:Cx} {pins:List (Addr×Obj)} {σ:List (Option V)} {H H':Hp} {s:tv} {h':Heap}
theorem Cx.Ok.nofr (ok:X.Ok) {b:Addr} {o:Obj} (e:X.base.get? b=some o):b∉X.fs:=fun j=>by
 have:=(ok.funs.mem j).1;rw [e] at this;cases this
theorem Inv.bs (I:Inv X pins σ H s):∀ b o,X.base.get? b=some o->s.heap.get? b=some o/\H b=none:=fun b o e =>
 ⟨I.base.keep b o (I.ok.bs b o e).1 (I.ok.bs b o e).2 (I.ok.nofr e) (I.ok.noex b o e),I.base.free b o (I.ok.bs b o e).1 (I.ok.bs b o e).2 (I.ok.noex b o e)⟩
theorem Inv.bk (I:Inv X pins σ H s):∀ b o,X.base.get? b=some o->s.heap.get? b=some o:=fun b o e=>(I.bs b o e).1
theorem Inv.mod (I:Inv X pins σ H s):Mod X.K X.mg X.base:=I.ok.mod
theorem Inv.kIn (I:Inv X pins σ H s):X.K.In s.heap:=I.ok.mod.kin.keeps I.bk
theorem Inv.lt (I:Inv X pins σ H s):X.env.locals < s.heap.objs.size:=let ⟨_,j,_⟩:=I.loc;j.lt
theorem Inv.sz (I:Inv X pins σ H s):X.s₀.heap.objs.size<=s.heap.objs.size:=Jp I.ok.above (Lr I.lt)
theorem Inv.nofs (I:Inv X pins σ H s) {a:Addr} (h:s.heap.objs.size<=a):a∉X.fs:=fun j=>by
 obtain ⟨_,o,ho,_⟩:=I.ok.funs.mem j;exact absurd (HZ (H0 ho) (Jp I.sz h)) (Ig _)
theorem Inv.cne (I:Inv X pins σ H s):∀ x c,X.env.cells.lookup x=some c->c≠X.env.locals:=fun x c e z=>by
 obtain ⟨v,o,ho,hd⟩:=I.cell x c e;obtain ⟨m,⟨o',es,ep,j,q,_⟩,_⟩:=I.loc;rw [z,j] at ho;cases ho;rw [q] at hd;cases hd
theorem Inv.funs (I:Inv X pins σ H s):s.heap.FunFrames X.base X.outer:=by
 have all:∀ (l:List Env),(∀ b∈frs l,b∈X.fs)->X.s₀.heap.FunFrames X.base l->s.heap.FunFrames X.base l:=by
  intro l
  induction l with
  | nil=>intro _ _;trivial
  | cons env r ih =>
    intro hs B;obtain ⟨F,⟨L,o,hf,G,ho,hd⟩,J⟩:=B;have j:L∈X.fs:=hs L (by unfold frs;rw [Np,hf];exact Ij)
    obtain ⟨sl,e⟩:=I.base.slot L o ho (I.ok.frf L j) j fun z=>I.ok.exfs L z j;exact ⟨F,⟨L,_,hf,G,e,hd⟩,ih (fun b q=>hs b (by unfold frs;rw [Np,hf];exact HM _ q)) J⟩
 exact all X.outer (fun _ q=>q) I.ok.funs
theorem Inv.stack (I:Inv X pins σ H s):s.heap.FunFrames X.base X.stack:=by
 rcases I.ok.stk with e | ⟨e,hf⟩
 ·rw [e];exact I.funs
 ·rw [e];obtain ⟨m,j,_⟩:=I.loc;refine .cons (by rw [I.ok.kind];decide) hf j ?_ I.funs
  exact Heap.get?_none_of_le (Jp I.ok.bsz I.ok.above)
theorem Inv.stkSub (I:Inv X pins σ H s):∀ b∈frs X.stack,b∈X.env.locals::X.fs:=fun b j=>by
 rcases I.ok.stk with e | ⟨e,hf⟩
 ·rw [e] at j;exact HM _ j
 ·rw [e] at j;unfold frs at j;rw [Np,hf] at j;exact j
theorem Inv.stkFree (I:Inv X pins σ H s):∀ b∈frs X.stack,H b=none:=fun b j=>by
 rcases He.mp (I.stkSub b j) with e | j
 ·rw [e];exact I.free
 ·obtain ⟨_,o,ho,_⟩:=I.ok.funs.mem j;exact I.base.free b o ho (I.ok.frf b j) fun z=>I.ok.exfs b z j
theorem Inv.step {g':Array GenState} {t':Nat} {d':Drawn} {ch:List Addr} (I:Inv X pins σ H s)
 (j:∀ b∈ch,(b∈X.ex∨X.s₀.heap.objs.size<=b)/\b≠X.env.locals/\(∀ x c,X.env.cells.lookup x=some c->c≠b) /\ ∀ p∈X.pn++pins,p.1≠b)
 (keep:∀ b o,b≠X.env.locals->b∉X.fs->b∉ch->s.heap.get? b=some o->H b=none->h'.get? b=some o)
 (slot:∀ b o,b≠X.env.locals->b∈X.fs->b∉ch->s.heap.get? b=some o->H b=none -> ∃ sl,h'.get? b=some { o with slots:=sl }) (free:∀ b o,b∉ch->s.heap.get? b=some o->H b=none->H' b=none)
 (there:∀ b o,b∉ch->s.heap.get? b=some o -> ∃ o',h'.get? b=some o')
 (tups:∀ b xs,H b=some (.tup xs)->H' b=some (.tup xs)) (frzs:∀ b o u,H b=some (.frz o u)->H' b=some (.frz o u)) (tbls:∀ b ps,H b=some (.tbl ps) -> ∃ more,H' b=some (.tbl (ps++more)))
 (ns:∀ m,s.heap.Ns X.env.locals m->h'.Ns X.env.locals m) (hok:HOk X.prog X.w H' h') (O:NX g') :
 Inv X pins σ H' { s with heap:=h',gens:=g',drawn:=d',toks:=t' }:=by
 have neL:∀ b o,X.s₀.heap.get? b=some o->b≠X.env.locals:=fun b o e=>HJ (HZ (H0 e) I.ok.above);have neC:∀ b o,X.s₀.heap.get? b=some o->b∉X.ex->b∉ch:=fun b o e hx F=>by
  rcases (j b F).1 with z | z
  ·exact hx z
  ·exact absurd (HZ (H0 e) z) (Ig _)
 have cellK:∀ x c,X.env.cells.lookup x=some c -> ∀ v,s.heap.IsCell c v->h'.IsCell c v:=fun x c e v ⟨o,ho,hd⟩=>by
  have nch:c∉ch:=fun z=>(j c z).2.2.1 x c e rfl
  by_cases J:c∈X.fs
  ·obtain ⟨sl,q⟩:=slot c o (I.cne x c e) J nch ho (I.freeC x c e);exact ⟨_,q,hd⟩
  ·exact ⟨o,keep c o (I.cne x c e) J nch ho (I.freeC x c e),hd⟩
 refine ⟨I.ok,I.os,O,⟨fun b o e n F hx=>?_,fun b o e n F hx=>?_,fun b o e n hx=>?_,fun b o e hx=>?_,fun b xs e=>tups b xs (I.base.tups b xs e),fun b o xs e=>frzs b o xs (I.base.frzs b o xs e),fun b ps e=>?_⟩,?_,fun x c e=>?_,?_,fun x c e=>?_,fun p L=>?_,hok,I.len⟩
 ·exact keep b o (neL b o e) F (neC b o e hx) (I.base.keep b o e n F hx) (I.base.free b o e n hx)
 ·obtain ⟨sl,B⟩:=I.base.slot b o e n F hx;obtain ⟨sl',G⟩:=slot b _ (neL b o e) F (neC b o e hx) B (I.base.free b o e n hx);exact ⟨sl',G⟩
 ·obtain ⟨o',B⟩:=I.base.there b o e hx;exact free b o' (neC b o e hx) B (I.base.free b o e n hx)
 ·obtain ⟨o',B⟩:=I.base.there b o e hx;exact there b o' (neC b o e hx) B
 ·obtain ⟨U,B⟩:=I.base.tbls b ps e;obtain ⟨Y,G⟩:=tbls b _ B;exact ⟨U++Y,by rw [G,Array.append_assoc]⟩
 ·obtain ⟨m,Z,hl⟩:=I.loc;refine ⟨m,ns m Z,fun i x v B G e3=>?_⟩;obtain ⟨u,r,l⟩:=hl i x v B G e3;refine ⟨u,r,?_⟩
  rcases l with l | ⟨k,c,e,z⟩
  ·exact .inl l
  ·exact .inr ⟨k,c,e,cellK x c e _ z⟩
 ·obtain ⟨v,z⟩:=I.cell x c e;exact ⟨v,cellK x c e v z⟩
 ·obtain ⟨m,⟨o,_,_,ho,_⟩,_⟩:=I.loc;exact free _ o (fun z=>(j _ z).2.1 rfl) ho I.free
 ·obtain ⟨v,o,ho,hd⟩:=I.cell x c e;exact free c o (fun z=>(j c z).2.2.1 x c e rfl) ho (I.freeC x c e)
 ·obtain ⟨e,n,ne,nf,d⟩:=I.pin p L;have nch:p.1∉ch:=fun z=>(j p.1 z).2.2.2 p L rfl;exact ⟨keep p.1 p.2 ne nf nch e n,free p.1 p.2 nch e n,ne,nf,d⟩
theorem Inv.un {t':Nat} (I:Inv X pins σ H s) (u:Un X.fs [] H H' s.heap h') (hok:HOk X.prog X.w H' h'):Inv X pins σ H' { s with heap:=h',toks:=t' }:=by
 obtain ⟨m,⟨o,es,ep,ho,r⟩,_⟩:=id I.loc;obtain ⟨sl,B⟩:=u.any ho I.free (by simp)
 exact I.step (g':=s.gens) (d':=s.drawn) (ch:=[]) (fun _ z=>nomatch z) (fun b o _ q _ e n=>u.keep b o e n q (by simp)) (fun b o _ q _ e n=>u.slot b o e n q (by simp)) (fun b o _ e n=>u.free b o e n (by simp)) (fun b o _ e=>u.there b o e (by simp)) u.tups u.frzs u.tbls (fun m' hm=>by
  obtain ⟨o',es',ep',j,r'⟩:=hm;rw [ho] at j;cases j;exact ⟨_,es',ep',B,r'⟩) hok I.bare
theorem Inv.call {g':Array GenState} {t':Nat} {d':Drawn} {ch:List Addr} (I:Inv X pins σ H s) (u:Un (frs X.stack) ch H H' s.heap h') (hok:HOk X.prog X.w H' h') (G:NX g')
 (q:∀ b∈ch,(b∈X.ex∨X.s₀.heap.objs.size<=b)/\b≠X.env.locals/\(∀ x c,X.env.cells.lookup x=some c->c≠b) /\ ∀ p∈X.pn++pins,p.1≠b) :
 Inv X pins σ H' { s with heap:=h',gens:=g',drawn:=d',toks:=t' }:=by
 obtain ⟨m,⟨o,es,ep,ho,r⟩,_⟩:=id I.loc;obtain ⟨sl,F⟩:=u.any ho I.free fun z=>(q _ z).2.1 rfl;exact I.step (ch:=ch) q (fun b o F J j e n=>u.keep b o e n (fun z=>(He.mp (I.stkSub b z)).elim F J) j) (fun b o _ _ j e n=>u.any e n j) (fun b o j e n=>u.free b o e n j) (fun b o j e=>u.there b o e j) u.tups u.frzs u.tbls (fun m' hm=>by
  obtain ⟨o',es',ep',B,r'⟩:=hm;rw [ho] at B;cases B;exact ⟨_,es',ep',F,r'⟩) hok G
theorem Inv.turned {t':Nat} {it:Addr} (I:Inv X pins σ H s) (k:∀ b o,b≠it->s.heap.get? b=some o->h'.get? b=some o) (F:H it=none) (B:it≠X.env.locals)
 (h1:it∈X.ex∨X.s₀.heap.objs.size<=it) (h2:∀ x c,X.env.cells.lookup x=some c->c≠it) (G:∀ p∈X.pn++pins,p.1≠it):Inv X pins σ H { s with heap:=h',toks:=t' }:=by
 have nit:∀ b u,H b=some u->b≠it:=fun b u e z=>by rw [z,F] at e;cases e
 refine I.step (g':=s.gens) (d':=s.drawn) (ch:=[it]) (fun b J=>?_) (fun b o _ _ j e _=>k b o (fun z=>j (by simp [z])) e) (fun b o _ _ j e _=>⟨o.slots,k b o (fun z=>j (by simp [z])) e⟩) (fun _ _ _ _ n=>n)
  (fun b o j e=>⟨o,k b o (fun z=>j (by simp [z])) e⟩) (fun _ _ e=>e) (fun _ _ _ e=>e) (fun b ps e=>⟨#[],by rw [e];simp⟩) (fun m hm=>?_) (fun b u e=>?_) I.bare
 ·have e:b=it:=by simpa using J
  subst e;exact ⟨h1,B,h2,G⟩
 ·obtain ⟨o,es,ep,ho,r⟩:=hm;exact ⟨o,es,ep,k _ o (Ne.symm B) ho,r⟩
 ·refine (I.hok b u e).stay (fun c v j q=>k c v ?_ q) (fun _ q=>q) fun _ _ q=>q
  rcases j with z | z
  ·rw [z];exact nit b u e
  ·exact nit c _ z
theorem Inv.tok (I:Inv X pins σ H s) (t:Nat):Inv X pins σ H { s with toks:=t }:=I.un (h':=s.heap) (t':=t) Un.refl I.hok
theorem Inv.kept {t':Nat} (I:Inv X pins σ H s) (k:∀ b u,s.heap.get? b=some u->h'.get? b=some u):Inv X pins σ H { s with heap:=h',toks:=t' }:=I.un (Un.kept k) (I.hok.kept k)
theorem Inv.laid {a:Addr} {o:HO} {t':Nat} (I:Inv X pins σ H s) (k:∀ b u,s.heap.get? b=some u->h'.get? b=some u) (j:s.heap.objs.size<=a) (new:ObjOk X.prog X.w (upd H a o) h' a o) :
 Inv X pins σ (upd H a o) { s with heap:=h',toks:=t' }:=I.un (Un.laid k j (I.hok.fresh j)) (I.hok.laid k j new)
theorem Inv.write {x e:Addr} {o:HO} {t':Nat} (I:Inv X pins σ H s) (mu:Mut (H x)) (he:e=x∨H e=some (.own x)) (k:∀ b u,b≠e->s.heap.get? b=some u->h'.get? b=some u) (j:∃ u,h'.get? e=some u)
 (new:ObjOk X.prog X.w (upd H x o) h' x o):Inv X pins σ (upd H x o) { s with heap:=h',toks:=t' }:=I.un (Un.write mu he k j) (I.hok.write mu he k j new)
theorem Inv.pins_of {pins':List (Addr×Obj)} (I:Inv X pins σ H s) (h:∀ p∈pins',s.heap.get? p.1=some p.2/\H p.1=none/\p.1≠X.env.locals/\p.1∉X.fs /\ ∀ v,p.2.data ≠ .cell v):Inv X pins' σ H s :=
 ⟨I.ok,I.os,I.bare,I.base,I.loc,I.cell,I.free,I.freeC,fun p j=>(Hu.mp j).elim (fun z=>I.pin p (Iv _ z)) (h p),I.hok,I.len⟩
theorem nv {N:List Str} (q:N.Nodup) {i j:Nat} {x:Str} (a:N[i]? = some x) (b:N[j]? = some x):i=j:=by
 obtain ⟨h1,z⟩:=Hy.mp a;obtain ⟨h2,B⟩:=Hy.mp b;exact (List.getElem_inj q).mp (z.trans B.symm)
theorem tL {M:LS} {A:I0} {E:hH->tv->Prop} {i:Nat} {x:Str} {v:V} {u:hH} {Q:Unit->tv->Prop} (I:Inv X pins σ H s) (hN:X.N.Nodup) (hi:X.N[i]? = some x) (hx:Loc X.env.scope x) (r:RelV v u)
 (h:∀ s',Inv X pins (σ.set i (some v)) H s'->(∃ a,IQ a s.heap s'.heap/\(a=X.env.locals∨X.env.cells.lookup x=some a))->Q () s') (hf:X.fn x=true∨X.env.scope.names.lookup x=some .local:=by first | exact .inl rfl | exact .inr rfl | assumption):Hh M A (storeName X.env x u) Q E s:=by
 obtain ⟨m,hn,hl⟩:=id I.loc;have Z:(X.env.scope.kind == .class || (X.env.scope.kind == .module&&X.env.locals != X.env.globals))=false:=by rw [I.ok.kind];rfl
 have ES:i < σ.length:=by rw [I.len];exact (Hy.mp hi).1
 have cne:=I.cne;have tracked:∀ {a:Addr} {h':Heap},(∃ o,s.heap.get? a=some o/\H a=none)->IQ a s.heap h'->HOk X.prog X.w H h':=fun {a h'} ha hs b ob e=>by
  obtain ⟨_,_,G⟩:=ha;refine (I.hok b ob e).stay (fun c w' F q=>(hs.2 c ?_).trans q) (fun _ q=>q) fun _ _ q=>q;rintro rfl
  rcases F with rfl | F
  ·rw [G] at e;cases e
  ·rw [G] at F;cases F
 rcases hx with L | L
 ·refine wpAny_storeName_local L hn (fun h' EX hs=>?_) Z;obtain ⟨oL,_,_,EY,_⟩:=id hn;refine h _ ⟨I.ok,I.os,I.bare,⟨fun b o e n O hx=>?_,fun b o e n O hx=>?_,I.base.free,fun b o e hx=>?_,I.base.tups,I.base.frzs,I.base.tbls⟩,⟨_,EX,fun j y v' B J e3=>?_⟩,fun y c e=>?_,I.free,I.freeC,fun p hp=>?_,tracked ⟨oL,EY,I.free⟩ hs,by simpa using I.len⟩ ⟨_,hs,.inl rfl⟩
  ·exact (hs.2 b (HJ (HZ (H0 e) I.ok.above))).trans (I.base.keep b o e n O hx)
  ·obtain ⟨sl,B⟩:=I.base.slot b o e n O hx;exact ⟨sl,(hs.2 b (HJ (HZ (H0 e) I.ok.above))).trans B⟩
  ·obtain ⟨o',B⟩:=I.base.there b o e hx;exact ⟨o',(hs.2 b (HJ (HZ (H0 e) I.ok.above))).trans B⟩
  ·by_cases U:j=i
   ·subst U;rw [hi] at B;cases B;rw [Jx ES] at J
    cases J
    exact ⟨u,r,.inl ⟨L,by simp⟩⟩
   ·rw [Ko (Ne.symm U)] at J;obtain ⟨u',r',q⟩:=hl j y v' B J e3;refine ⟨u',r',?_⟩
    rcases q with ⟨k,e⟩ | ⟨k,c,e,z⟩
    ·refine .inl ⟨k,?_⟩;have:y≠x:=fun e=>U (nv hN B (e ▸ hi));simp [this,e]
    ·exact .inr ⟨k,c,e,z.sameBut hs (cne y c e)⟩
  ·obtain ⟨w',z⟩:=I.cell y c e;exact ⟨w',z.sameBut hs (cne y c e)⟩
  ·obtain ⟨e,n,ne,nf,d⟩:=I.pin p hp;exact ⟨(hs.2 p.1 ne).trans e,n,ne,nf,d⟩
 ·have Y:X.fn x=true:=by
   rcases hf with z | z
   ·exact z
   ·rw [z] at L;cases L
  obtain ⟨c,F⟩:=I.ok.has x (.inl L);obtain ⟨w',z⟩:=I.cell x c F;refine wpAny_storeName_cell I.ok.kind L F z (fun h' ET hs=>?_);obtain ⟨oc,EU,EV⟩:=id z;refine h { s with heap:=h' } ⟨I.ok,I.os,I.bare,⟨fun b o e n O hx=>?_,fun b o e n O hx=>?_,I.base.free,fun b o e hx=>?_,I.base.tups,I.base.frzs,I.base.tbls⟩,⟨m,hn.sameBut hs (Ne.symm (cne x c F)),fun j y v' B J e3=>?_⟩,fun y c' e=>?_,I.free,I.freeC,fun p hp=>?_,tracked ⟨oc,EU,I.freeC x c F⟩ hs,by simpa using I.len⟩ ⟨c,hs,.inr F⟩
  ·exact (hs.2 b (HJ (HZ (H0 e) (I.ok.cab x c Y F)))).trans (I.base.keep b o e n O hx)
  ·obtain ⟨sl,B⟩:=I.base.slot b o e n O hx;exact ⟨sl,(hs.2 b (HJ (HZ (H0 e) (I.ok.cab x c Y F)))).trans B⟩
  ·obtain ⟨o',B⟩:=I.base.there b o e hx;exact ⟨o',(hs.2 b (HJ (HZ (H0 e) (I.ok.cab x c Y F)))).trans B⟩
  ·by_cases U:j=i
   ·subst U;rw [hi] at B;cases B;rw [Jx ES] at J
    cases J
    exact ⟨u,r,.inr ⟨.inl L,c,F,ET⟩⟩
   ·rw [Ko (Ne.symm U)] at J;obtain ⟨u',r',q⟩:=hl j y v' B J e3;refine ⟨u',r',?_⟩
    rcases q with q | ⟨k,c',e,z'⟩
    ·exact .inl q
    ·refine .inr ⟨k,c',e,z'.sameBut hs ?_⟩;rintro rfl;exact U (nv hN B (I.ok.inj _ _ _ e F ▸ hi))
  ·by_cases EW:c'=c
   ·subst EW;exact ⟨_,ET⟩
   ·obtain ⟨w2,z2⟩:=I.cell y c' e;exact ⟨w2,z2.sameBut hs EW⟩
  ·obtain ⟨e,n,ne,nf,d⟩:=I.pin p hp;refine ⟨(hs.2 p.1 ?_).trans e,n,ne,nf,d⟩;intro q;rw [q,EU] at e;have q':oc=p.2:=Ju.inj e;exact d w' (by rw [<- q'];exact EV)
theorem iK {M:LS} {A:I0} {E:hH->tv->Prop} {i:Nat} {x:Str} {v:V} {u:hH} {Q:Unit->tv->Prop} (I:Inv X pins σ H s) (j:X.N.Nodup) (hi:X.N[i]? = some x) (hx:Loc X.env.scope x) (r:RelV v u)
 (h:∀ s',Inv X pins (σ.set i (some v)) H s'->Q () s') (hf:X.fn x=true∨X.env.scope.names.lookup x=some .local:=by first | exact .inl rfl | exact .inr rfl | assumption):Hh M A (storeName X.env x u) Q E s :=
 tL I j hi hx r (fun s' I' _=>h s' I') hf
theorem Inv.call' {s':tv} {ch:List Addr} (I:Inv X pins σ H s) (ho:s'.os=s.os) (u:Un (frs X.stack) ch H H' s.heap s'.heap) (hok:HOk X.prog X.w H' s'.heap) (q:NX s'.gens)
 (j:∀ b∈ch,(b∈X.ex∨X.s₀.heap.objs.size<=b)/\b≠X.env.locals/\(∀ x c,X.env.cells.lookup x=some c->c≠b) /\ ∀ p∈X.pn++pins,p.1≠b):Inv X pins σ H' s':=by
 obtain ⟨h',g',d',t',o'⟩:=s';have e:o'=s.os:=ho;subst e;exact I.call (g':=g') (t':=t') (d':=d') u hok q j
end
noncomputable abbrev XK:=hH->Option Addr->Hp->Prop
noncomputable abbrev St:=List (Option V)
noncomputable abbrev VK:=V->Hp->Prop
noncomputable abbrev TE:=St->Hp->VK->Prop
noncomputable abbrev TT:=St->Hp->(Bool->Hp->Prop)->Prop
noncomputable abbrev TA:=St->Hp->(List V->Hp->Prop)->Prop
structure bC where
 nx:St->Hp->Prop
 rt:VK
 bk:St->Hp->Prop:=fun _ _=>False
 ct:St->Hp->Prop:=fun _ _=>False
noncomputable abbrev TS:=bC->St->Hp->Prop
def EP (X:Cx) (pins:List (Addr×Obj)) (σ:St) (Q:VK) (u:hH) (s':tv):Prop:=∃ v H',Inv X pins σ H' s'/\RelV v u/\Q v H'
def TP (X:Cx) (pins:List (Addr×Obj)) (σ:St) (Q:Bool->Hp->Prop) (b:Bool) (s':tv):Prop:=∃ H',Inv X pins σ H' s'/\Q b H'
def AP (X:Cx) (pins:List (Addr×Obj)) (σ:St) (Q:List V->Hp->Prop) (us:List hH) (s':tv):Prop:=∃ vs H',Inv X pins σ H' s'/\Vals vs us/\Q vs H'
def SP (X:Cx) (pins:List (Addr×Obj)) (D:bC) (f:Flow) (s':tv):Prop :=
 match f with
 | .next=>∃ σ' H',Inv X pins σ' H' s'/\D.nx σ' H'
 | .brk=>∃ σ' H',Inv X pins σ' H' s'/\D.bk σ' H'
 | .cont=>∃ σ' H',Inv X pins σ' H' s'/\D.ct σ' H'
 | .ret u=>∃ v σ' H',Inv X pins σ' H' s'/\RelV v u/\D.rt v H'
def PE (X:Cx) (e:Expr) (t:TE):Prop :=
 ∀ (pins:List (Addr×Obj)) (s:tv) (σ:St) (H:Hp) (Q:VK),Inv X pins σ H s->t σ H Q->Hh (model X.prog X.w) X.A (eval e X.env) (EP X pins σ Q) X.xe s
def PT (X:Cx) (e:Expr) (t:TT):Prop :=
 ∀ (pins:List (Addr×Obj)) (s:tv) (σ:St) (H:Hp) (Q:Bool->Hp->Prop),Inv X pins σ H s->t σ H Q->Hh (model X.prog X.w) X.A (isTrue e X.env (eval e X.env)) (TP X pins σ Q) X.xe s
def PW (X:Cx) (e:Expr) (t:TT):Prop :=
 ∀ (whole:Sem hH) (pins:List (Addr×Obj)) (s:tv) (σ:St) (H:Hp) (Q:Bool->Hp->Prop),Inv X pins σ H s->t σ H Q->Hh (model X.prog X.w) X.A (isTrue e X.env whole) (TP X pins σ Q) X.xe s
theorem PW.pt {X:Cx} {e:Expr} {t:TT} (h:PW X e t):PT X e t:=h _
def PA (X:Cx) (es:List Expr) (t:TA):Prop :=
 ∀ (pos:Pos) (pins:List (Addr×Obj)) (s:tv) (σ:St) (H:Hp) (Q:List V->Hp->Prop),Inv X pins σ H s->t σ H Q->Hh (model X.prog X.w) X.A (spliced (LM pos (HP es X.env))) (AP X pins σ Q) X.xe s
def PS (X:Cx) (st:Stmt) (t:TS):Prop :=
 ∀ (pins:List (Addr×Obj)) (s:tv) (σ:St) (H:Hp) (D:bC),Inv X pins σ H s->t D σ H->Hh (model X.prog X.w) X.A (exec st X.env) (SP X pins D) X.xe s
def PSs (X:Cx) (st:List Stmt) (t:TS):Prop :=
 ∀ (pins:List (Addr×Obj)) (s:tv) (σ:St) (H:Hp) (D:bC),Inv X pins σ H s->t D σ H->Hh (model X.prog X.w) X.A (execs st X.env) (SP X pins D) X.xe s
theorem thn {α:Type} {t:Sem α} {Q Q' : α -> tv->Prop} {M:LS} {A:I0} {E:hH->tv->Prop} {s:tv} (h:Hh M A t Q E s) (j:∀ a s,Q a s->Q' a s):Hh M A t Q' E s:=IK h j fun _ _ x=>x
end
section
section
variable {X:Cx}
noncomputable def Ej (i:Nat):TE:=fun σ H Q=>∃ v,σ[i]? = some (some v)/\Q v H
noncomputable def tC (v:V):TE:=fun _ H Q=>Q v H
theorem Bw {i:Nat} {x:Str} {pos:Pos} (F:X.N[i]? = some x) (G:Vis X.env.scope x) (hd:(x==("__debug__":Str))=false:=by decide) (z:(x==("__classdict__":Str))=false:=by decide):PE X (.Name x pos) (Ej i):=by
 intro pins s σ H Q I h;obtain ⟨v,e,h⟩:=h;obtain ⟨m,J,L⟩:=I.loc;obtain ⟨u,r,l⟩:=L i x v F e G;have fin:EP X pins σ Q u s:=⟨v,H,I,r,h⟩
 rcases l with ⟨q,hm⟩ | ⟨q,c,B,j⟩
 ·exact S0 (wpAny_loadName_local I.ok.kind q J hm fin) hd
 ·rcases q with q | q
  ·exact S0 (wpAny_loadName_cell I.ok.kind q B j fin) hd
  ·exact S0 (wpAny_loadName_free I.ok.kind q B j fin z) hd
theorem By {i j pos}:PE X (.Constant (.int i) j pos) (tC (.int i)):=fun _ _ _ H _ I h=>wpAny_Constant_int ⟨.int i,H,I.tok _,⟨_,rfl⟩,h⟩
theorem Dt {b j pos}:PE X (.Constant (.bool b) j pos) (tC (.bl b)):=fun _ _ _ H _ I h=>Constant_bool ⟨.bl b,H,I,rfl,h⟩
theorem Bz {j pos}:PE X (.Constant .none j pos) (tC .non):=fun _ _ _ H _ I h=>Constant_none ⟨.non,H,I,rfl,h⟩
def Gl (X:Cx) (x:Str):Prop:=X.env.kindOf x=some .globalImplicit
theorem qt {E:hH->tv->Prop} {pins:List (Addr×Obj)} {s:tv} {σ:St} {H:Hp} {x:Str} {u:hH} {pos:Pos} {Q:hH->tv->Prop} (I:Inv X pins σ H s) (j:Gl X x) (hm:X.mg x=some u) (h:Q u s)
 (hd:(x==("__debug__":Str))=false:=by decide):Hh (model X.prog X.w) X.A (eval (.Name x pos) X.env) Q E s :=
 ND I.ok.kind j (Calls.loadGlobal_global (by rw [I.ok.glob];exact I.mod.glob.keeps I.bk) hm h) hd
theorem dO {E:hH->tv->Prop} {pins:List (Addr×Obj)} {s:tv} {σ:St} {H:Hp} {x:Str} {u:hH} {pos:Pos} {Q:hH->tv->Prop} (I:Inv X pins σ H s) (j:Gl X x) (hm:X.mg x=none) (q:KQ x=some u) (h:Q u s)
 (z:x ≠ "__name__":=by decide) (hd:(x==("__debug__":Str))=false:=by decide):Hh (model X.prog X.w) X.A (eval (.Name x pos) X.env) Q E s:=by
 obtain ⟨mb,h1,h2⟩:=I.mod.blt;exact ND I.ok.kind j (Calls.loadGlobal_builtin (by rw [I.ok.glob];exact I.mod.glob.keeps I.bk) hm (by rw [I.ok.blt];exact h1.keeps I.bk) ((h2 x z).trans q) h) hd
theorem zQ {x:Str} {v:V} {u:hH} {pos:Pos} (j:Gl X x) (hm:X.mg x=none) (q:KQ x=some u) (r:RelV v u) (z:x ≠ "__name__":=by decide) (hd:(x==("__debug__":Str))=false:=by decide):PE X (.Name x pos) (tC v) :=
 fun _ _ _ H _ I h=>dO I j hm q ⟨v,H,I,r,h⟩ z hd
variable {a b:Expr} {ta tb:TE} {pos:Pos}
variable {tA tB':TT} {rest:List Expr}
noncomputable def Ek (t u:TT):TT:=fun σ H Q=>t σ H fun c H1=>if c=true then u σ H1 Q else Q false H1
noncomputable def tOr (t u:TT):TT:=fun σ H Q=>t σ H fun c H1=>if c=true then Q true H1 else u σ H1 Q
noncomputable def El (t:TT):TT:=fun σ H Q=>t σ H fun c H1=>Q (!c) H1
theorem zR (j:PT X a tA):PW X (.BoolOp .And [a] pos) tA:=by
 intro wh pins s σ H Q I h;refine isTrue_and (thn (j pins s σ H Q I h) fun c s1 e=>?_)
 cases c with
 | true=>exact isTrue_and_nil e
 | false=>exact e
theorem BA (j:PT X a tA):PW X (.BoolOp .Or [a] pos) tA:=by
 intro wh pins s σ H Q I h;refine isTrue_or (thn (j pins s σ H Q I h) fun c s1 e=>?_)
 cases c with
 | false=>exact isTrue_or_nil e
 | true=>exact e
theorem BB (z:PT X a tA) (B:PW X (.BoolOp .And (b::rest) pos) tB'):PW X (.BoolOp .And (a::b::rest) pos) (Ek tA tB'):=by
 intro wh pins s σ H Q I h;refine isTrue_and (thn (z pins s σ H _ I h) fun c s1 ⟨H1,j,q⟩=>?_)
 cases c with
 | true=>exact B wh pins s1 σ H1 Q j q
 | false=>exact ⟨H1,j,q⟩
theorem Du (z:PT X a tA) (B:PW X (.BoolOp .Or (b::rest) pos) tB'):PW X (.BoolOp .Or (a::b::rest) pos) (tOr tA tB'):=by
 intro wh pins s σ H Q I h;refine isTrue_or (thn (z pins s σ H _ I h) fun c s1 ⟨H1,j,q⟩=>?_)
 cases c with
 | true=>exact ⟨H1,j,q⟩
 | false=>exact B wh pins s1 σ H1 Q j q
theorem BC (j:PT X a tA):PT X (.UnaryOp .Not a pos) (El tA):=by
 intro pins s σ H Q I h;exact isTrue_not (j pins s σ H (fun c H1=>Q (!c) H1) I h)
noncomputable def Dv (ta tb:TE):TE:=fun σ H Q=>ta σ H fun x H1=>∃ c,x = .bl c/\if c=true then tb σ H1 Q else Q (.bl false) H1
noncomputable def Em (ta tb:TE):TE:=fun σ H Q=>ta σ H fun x H1=>∃ c,x = .bl c/\if c=true then Q (.bl true) H1 else tb σ H1 Q
noncomputable def Dw (ta:TE):TE:=fun σ H Q=>ta σ H fun x H1=>∃ c,x = .bl c/\Q (.bl (!c)) H1
theorem BD {op} {t:TE} (h:PE X a t):PE X (.BoolOp op [a] pos) t:=fun pins s σ H Q I hw=>BoolOp_one (h pins s σ H Q I hw)
theorem BE (z:PE X a ta) (B:PE X (.BoolOp .And (b::rest) pos) tb):PE X (.BoolOp .And (a::b::rest) pos) (Dv ta tb):=by
 intro pins s σ H Q I h;refine BoolOp_and (thn (z pins s σ H _ I h) fun v s1 ⟨x,H1,q,F,j⟩=>?_);obtain ⟨c,rfl,j⟩:=j
 cases F
 refine Kq ?_
 cases c with
 | true=>exact B pins s1 σ H1 Q q j
 | false=>exact ⟨.bl false,H1,q,rfl,j⟩
theorem Dx (z:PE X a ta) (B:PE X (.BoolOp .Or (b::rest) pos) tb):PE X (.BoolOp .Or (a::b::rest) pos) (Em ta tb):=by
 intro pins s σ H Q I h;refine BoolOp_or (thn (z pins s σ H _ I h) fun v s1 ⟨x,H1,q,F,j⟩=>?_);obtain ⟨c,rfl,j⟩:=j
 cases F
 refine Kq ?_
 cases c with
 | false=>exact B pins s1 σ H1 Q q j
 | true=>exact ⟨.bl true,H1,q,rfl,j⟩
theorem BG (q:PE X a ta):PE X (.UnaryOp .Not a pos) (Dw ta):=by
 intro pins s σ H Q I h;refine UnaryOp_ (thn (q pins s σ H _ I h) fun v s1 ⟨x,H1,z,B,j⟩=>?_);obtain ⟨c,rfl,j⟩:=j
 cases B
 exact not_of (Kq ⟨.bl (!c),H1,z,rfl,j⟩)
noncomputable def tIf (t:TT) (ta tb:TE):TE:=fun σ H Q=>t σ H fun c H1=>if c=true then ta σ H1 Q else tb σ H1 Q
theorem wx {c:Expr} (z:PT X c tA) (B:PE X a ta) (F:PE X b tb):PE X (.IfExp c a b pos) (tIf tA ta tb):=by
 intro pins s σ H Q I h;refine wpAny_IfExp (thn (z pins s σ H _ I h) fun d s1 ⟨H1,j,q⟩=>?_)
 cases d with
 | true=>exact B pins s1 σ H1 Q j q
 | false=>exact F pins s1 σ H1 Q j q
end
end
section
def SqL (K:Frag) (H:Hp) (a:Addr) (xs:List V):Prop :=
 Rd H a (.lst xs) ∨
  ∃ (o:Obj) (its:Array hH) (n:Nat),K.lookup a=some o/\o.cls = .type "list" /\ o.dict=none/\o.data = .seq its n/\its.size<=Hd/\Vals xs its.toList
def SqT (K:Frag) (H:Hp) (a:Addr) (xs:List V):Prop :=
 Rd H a (.tup xs) ∨
  ∃ (o:Obj) (its:Array hH) (n:Nat),K.lookup a=some o/\o.cls = .type "tuple" /\ o.data = .seq its n/\its.size<=Hd/\Vals xs its.toList
noncomputable def Eo:hH->Option V
 | .none=>some .non
 | .bool b=>some (.bl b)
 | .int i _=>some (.int i)
 | .str x _=>some (.str x)
 | .bytes b _=>some (.byt b)
 | .float b _=>some (.flt b)
 | .ref a=>some (.ref a)
 | .type n=>some (.ty n)
 | _=>none
theorem RelV.abs {x:V} {u:hH} (r:RelV x u):Eo u=some x:=by
 cases x with
 | non=>cases r;rfl
 | bl _=>cases r;rfl
 | int _=>obtain ⟨t,rfl⟩:=r;rfl
 | str _=>obtain ⟨t,rfl⟩:=r;rfl
 | byt _=>obtain ⟨t,rfl⟩:=r;rfl
 | flt _=>obtain ⟨t,rfl⟩:=r;rfl
 | ref _=>cases r;rfl
 | ty _=>cases r;rfl
theorem RelV.inj {x y:V} {u:hH} (r:RelV x u) (q:RelV y u):x=y:=Ju.inj (r.abs.symm.trans q.abs)
theorem Vals.inj:∀ {xs ys:List V} {us:List hH},Vals xs us->Vals ys us->xs=ys
 | _,_,_,.nil,.nil=>rfl
 | _,_,_,.cons r t,.cons r' t'=>by rw [r.inj r',Vals.inj t t']
section
variable {X:Cx} {pins:List (Addr×Obj)} {σ:St} {H:Hp} {s:tv} {a:Addr} {xs ys:List V}
theorem SqL.of {K:Frag} (h:H a=some (.lst xs)):SqL K H a xs:=.inl (.inl h)
theorem SqT.of {K:Frag} (h:H a=some (.tup xs)):SqT K H a xs:=.inl (.inl h)
theorem Inv.list (I:Inv X pins σ H s) (h:SqL X.K H a xs):∃ its:List hH,Vals xs its/\PlainL s.heap a its.toArray/\xs.length<=Hd:=by
 rcases h with h | ⟨o,its,n,j,q,hd,hs,hz,r⟩
 ·obtain ⟨z,its,n,r,e⟩:=h.ok I.hok;exact ⟨its,r,⟨_,n,e,rfl,rfl,rfl⟩,z⟩
 ·refine ⟨its.toList,r,⟨o,n,I.kIn a o j,q,hd,by simpa using hs⟩,?_⟩
  have e:=r.length;simp only [HI] at e;omega
theorem Inv.tuple (I:Inv X pins σ H s) (h:SqT X.K H a xs):∃ its:List hH,Vals xs its/\RB s.heap a its.toArray/\xs.length<=Hd:=by
 rcases h with h | ⟨o,its,n,j,q,hs,hz,r⟩
 ·obtain ⟨z,its,r,p⟩:=h.ok I.hok;exact ⟨its,r,p,z⟩
 ·refine ⟨its.toList,r,⟨o,I.kIn a o j,q,n,by simpa using hs⟩,?_⟩
  have e:=r.length;simp only [HI] at e;omega
theorem Inv.list_inj (I:Inv X pins σ H s) (h:SqL X.K H a xs) (h':SqL X.K H a ys):xs=ys:=by
 obtain ⟨its,r,⟨o,n,e,_,_,d⟩,_⟩:=I.list h;obtain ⟨its',r',⟨o',n',e',_,_,d'⟩,_⟩:=I.list h';rw [e] at e';cases e';rw [d] at d'
 injection d' with d1 _
 have:its=its':=by simpa using congrArg OD d1
 subst this;exact r.inj r'
theorem Inv.tuple_inj (I:Inv X pins σ H s) (h:SqT X.K H a xs) (h':SqT X.K H a ys):xs=ys:=by
 obtain ⟨its,r,⟨o,e,_,n,d⟩,_⟩:=I.tuple h;obtain ⟨its',r',⟨o',e',_,n',d'⟩,_⟩:=I.tuple h';rw [e] at e';cases e';rw [d] at d'
 injection d' with d1 _
 have:its=its':=by simpa using congrArg OD d1
 subst this;exact r.inj r'
end
noncomputable abbrev Cx.wish (X:Cx) (E:hH->tv->Prop):Cx:={ X with xe:=E }
noncomputable abbrev Cx.nox (X:Cx):Cx:=X.wish fun _ _=>False
theorem Cx.Ok.wish {X:Cx} (ok:X.Ok) (E:hH->tv->Prop):(X.wish E).Ok :=
 ⟨ok.mod,ok.kind,ok.glob,ok.blt,ok.above,ok.inj,ok.has,ok.cab,ok.hd,ok.frames,ok.stk,ok.exf,ok.bs,ok.bsz,ok.noex,ok.exfs,ok.funs,ok.frf⟩
theorem Cx.Ok.unwish {X:Cx} {E:hH->tv->Prop} (ok:(X.wish E).Ok):X.Ok :=
 ⟨ok.mod,ok.kind,ok.glob,ok.blt,ok.above,ok.inj,ok.has,ok.cab,ok.hd,ok.frames,ok.stk,ok.exf,ok.bs,ok.bsz,ok.noex,ok.exfs,ok.funs,ok.frf⟩
section
variable {X:Cx} {pins:List (Addr×Obj)} {σ:St} {H:Hp} {s:tv} {E:hH->tv->Prop}
theorem Inv.wish (I:Inv X pins σ H s) (E:hH->tv->Prop):Inv (X.wish E) pins σ H s:=⟨I.ok.wish E,I.os,I.bare,I.base,I.loc,I.cell,I.free,I.freeC,I.pin,I.hok,I.len⟩
theorem Inv.unwish (I:Inv (X.wish E) pins σ H s):Inv X pins σ H s:=⟨I.ok.unwish,I.os,I.bare,I.base,I.loc,I.cell,I.free,I.freeC,I.pin,I.hok,I.len⟩
theorem SP.unwish {D:bC} {f:Flow} {s':tv} (h:SP (X.wish E) pins D f s'):SP X pins D f s':=by
 cases f with
 | next=>obtain ⟨σ',H',I,q⟩:=h;exact ⟨σ',H',I.unwish,q⟩
 | brk=>obtain ⟨σ',H',I,q⟩:=h;exact ⟨σ',H',I.unwish,q⟩
 | cont=>obtain ⟨σ',H',I,q⟩:=h;exact ⟨σ',H',I.unwish,q⟩
 | ret u=>obtain ⟨v,σ',H',I,r,q⟩:=h;exact ⟨v,σ',H',I.unwish,r,q⟩
theorem PSs.nox {st:List Stmt} {t:TS} (h:PSs X.nox st t):PSs X st t:=fun pins s σ H D I hw =>
 IK (h pins s σ H D (I.wish _) hw) (fun _ _ q=>q.unwish) fun _ _ z=>False.elim z
end
section
variable {X:Cx} {st:Stmt} {rest:List Stmt} {t u:TS} {e:Expr} {te:TE} {pos:Pos}
noncomputable def rF:TS:=fun D σ H=>D.nx σ H
noncomputable def BH (t u:TS):TS:=fun D σ H=>t { D with nx:=u D } σ H
theorem zS:PSs X [] rF:=fun _ _ σ H _ I h=>OW ⟨σ,H,I,h⟩
theorem wy (h1:PS X st t) (h2:PSs X rest u):PSs X (st::rest) (BH t u):=by
 intro pins s σ H D I h;refine wpAny_execs_cons (thn (h1 pins s σ H { D with nx:=u D } I h) fun f s1 q=>?_)
 cases f with
 | next =>
   obtain ⟨σ',H',I',q⟩:=q;exact h2 pins s1 σ' H' D I' q
 | ret v=>exact q
 | brk=>exact q
 | cont=>exact q
noncomputable def tM:TS:=fun D σ H=>D.bk σ H
noncomputable def ze:TS:=fun D σ H=>D.ct σ H
theorem zT:PS X (.Pass pos) rF:=fun _ _ σ H _ I h=>wpAny_Pass ⟨σ,H,I,h⟩
theorem wz:PS X (.Break pos) tM:=fun _ _ σ H _ I h=>wpAny_Break ⟨σ,H,I,h⟩
theorem qe:PS X (.Continue pos) ze:=fun _ _ σ H _ I h=>wpAny_Continue ⟨σ,H,I,h⟩
theorem Inv.quiet {pins:List (Addr×Obj)} {σ:St} {H:Hp} {s:tv} (I:Inv X pins σ H s):interactive X.env=false:=by simp [interactive,I.ok.kind]
noncomputable def zf (te:TE):TS:=fun D σ H=>te σ H fun _ H1=>D.nx σ H1
theorem zU (he:PE X e te) (hs:LU e none pos.line X.env=pure false:=by rfl):PS X (.Expr e pos) (zf te):=by
 intro pins s σ H D I h;exact wpAny_Expr_any (thn (he pins s σ H _ I h) fun v s1 ⟨x,H1,j,z,q⟩=>⟨σ,H1,j,q⟩) I.quiet hs
noncomputable def BI (te:TE):TS:=fun D σ H=>te σ H D.rt
theorem BJ (he:PE X e te):PS X (.Return (some e) pos) (BI te):=by
 intro pins s σ H D I h;exact wpAny_Return_some (thn (he pins s σ H _ I h) fun v s1 ⟨x,H1,j,q,z⟩=>⟨x,σ,H1,j,q,z⟩)
noncomputable def BK (c:TT) (t u:TS):TS:=fun D σ H=>c σ H fun b H1=>if b=true then t D σ H1 else u D σ H1
theorem Dy {c:Expr} {a b:List Stmt} {tc:TT} (z:PT X c tc) (B:PSs X a t) (F:PSs X b u):PS X (.If c a b pos) (BK tc t u):=by
 intro pins s σ H D I h;refine wpAny_If (thn (z pins s σ H _ I h) fun d s1 ⟨H1,j,q⟩=>?_)
 cases d with
 | true=>exact B pins s1 σ H1 D j q
 | false=>exact F pins s1 σ H1 D j q
end
noncomputable abbrev TG:=V->St->Hp->(St->Hp->Prop)->Prop
noncomputable abbrev TGs:=List V->St->Hp->(St->Hp->Prop)->Prop
def PG (X:Cx) (target:Expr) (t:TG):Prop :=
 ∀ (pins:List (Addr×Obj)) (s:tv) (σ:St) (H:Hp) (v:V) (u:hH) (Q:St->Hp->Prop),Inv X pins σ H s->RelV v u->t v σ H Q ->
  Hh (model X.prog X.w) X.A (assign target X.env u) (fun _ s'=>∃ σ' H',Inv X pins σ' H' s'/\Q σ' H') X.xe s
def PGs (X:Cx) (ts:List Expr) (t:TGs):Prop :=
 ∀ (pins:List (Addr×Obj)) (s:tv) (σ:St) (H:Hp) (vs:List V) (us:List hH) (Q:St->Hp->Prop),Inv X pins σ H s->Vals vs us->t vs σ H Q ->
  Hh (model X.prog X.w) X.A (Q5 ((JH ts X.env).map (·.2)) us) (fun _ s'=>∃ σ' H',Inv X pins σ' H' s'/\Q σ' H') X.xe s
noncomputable abbrev ky:=V->V->V->Hp->(Hp->Prop)->Prop
def PSet (X:Cx) (t:ky):Prop :=
 ∀ (pins:List (Addr×Obj)) (s:tv) (σ:St) (H:Hp) (o i v:V) (ov iv u:hH) (Q:Hp->Prop),Inv X pins σ H s->RelV o ov->RelV i iv->RelV v u->t o i v H Q ->
  Hh (model X.prog X.w) X.A (NY ov iv u) (fun _ s'=>∃ H',Inv X pins σ H' s'/\Q H') X.xe s
noncomputable abbrev TIp:=V->V->Hp->VK->Prop
def PIp (X:Cx) (op:Mc) (t:TIp):Prop :=
 ∀ (pins:List (Addr×Obj)) (s:tv) (σ:St) (H:Hp) (x y:V) (v u:hH) (Q:VK),Inv X pins σ H s->RelV x v->RelV y u->t x y H Q ->
  Hh (model X.prog X.w) X.A (Mv op v u) (EP X pins σ Q) X.xe s
section
variable {X:Cx} {pos:Pos}
noncomputable def jl (i:Nat):TG:=fun v σ H Q=>Q (σ.set i (some v)) H
theorem qu {i:Nat} {x:Str} (j:X.N.Nodup) (hi:X.N[i]? = some x) (hx:Loc X.env.scope x) (hf:X.fn x=true∨X.env.scope.names.lookup x=some .local:=by first | exact .inl rfl | exact .inr rfl | assumption):PG X (.Name x pos) (jl i):=by
 intro pins s σ H v u Q I r h;exact wpAny_assign_Name (iK I j hi hx r (fun s' I'=>⟨_,H,I',h⟩) hf)
noncomputable def Ep:TGs:=fun vs σ H Q=>vs=[]/\Q σ H
noncomputable def Dz (t:TG) (u:TGs):TGs:=fun vs σ H Q=>∃ v r,vs=v::r/\t v σ H fun σ' H'=>u r σ' H' Q
theorem qv:PGs X [] Ep:=by
 intro pins s σ H vs us Q I r h;obtain ⟨e,h⟩:=h;subst e
 cases r
 exact Qz ⟨σ,H,I,h⟩
theorem iL {e:Expr} {es:List Expr} {t:TG} {u:TGs} (h1:PG X e t) (h2:PGs X es u)
 (hs:(JH (e::es) X.env).map (·.2)=assign e X.env::(JH es X.env).map (·.2):=by rfl):PGs X (e::es) (Dz t u):=by
 intro pins s σ H vs us Q I r h;obtain ⟨v,vr,j,h⟩:=h;subst j
 cases r with
 | cons r rr =>
   rw [hs];refine NF (thn (h1 pins s σ H _ _ _ I r h) fun _ s1 ⟨σ1,H1,q,z⟩=>?_);exact h2 pins s1 σ1 H1 _ _ Q q rr z
noncomputable def Er (K:Frag) (n:Nat) (t:TGs):TG:=fun v σ H Q=>∃ a xs,v = .ref a/\SqT K H a xs/\xs.length=n/\t xs σ H Q
theorem tN {es:List Expr} {k:Nat} {t:TGs} {n:Nat} (q:X.calm=true) (h:PGs X es t)
 (z:(JH es X.env).length=n:=by rfl) (j:(JH es X.env).findIdx? (·.1)=none:=by rfl):PG X (.Tuple es k pos) (Er X.K n t):=by
 intro pins s σ H v u Q I r hw;obtain ⟨a,xs,B,F,G,hw⟩:=hw;subst B
 cases r
 obtain ⟨its,rv,J,hz⟩:=I.tuple F;refine assign_Tuple_tuple (I.ok.hd q) J (by simp [z,<- G,rv.length]) j fun h' hx=>?_
 have L:Inv X pins σ H { s with heap:=h' }:=I.kept (t':=s.toks) fun b o e=>hx b o (HJ (H0 e)) e
 exact h pins _ σ H xs _ Q L (by simpa using rv) hw
noncomputable def Es (to ti:TE) (t:ky):TG:=fun v σ H Q=>to σ H fun o H1=>ti σ H1 fun i H2=>t o i v H2 fun H3=>Q σ H3
theorem ny {o i:Expr} {to ti:TE} {t:ky} (ho:PE X o to) (hi:PE X i ti) (hs:PSet X t)
 (j:∀ v,assign (.Subscript o i pos) X.env v=(do
   let ov <- holding [v] (eval o X.env)
   let iv <- holding [v,ov] (eval i X.env)
   MR pos
   holding [v,ov,iv] (NY ov iv v)
   release [v,ov,iv] []):=by intro _;rfl):PG X (.Subscript o i pos) (Es to ti t):=by
 intro pins s σ H v u Q I r h;rw [j];refine gV (I7 (thn (ho pins s σ H _ I h) fun ov s1 ⟨x,H1,q,z,B⟩=>?_));refine gV (I7 (thn (hi pins s1 σ H1 _ q B) fun iv s2 ⟨y,H2,F,G,J⟩=>?_));refine gV (L8 (gV (I7 (thn (hs pins s2 σ H2 x y v ov iv u _ F z G r J) fun _ s3 ⟨L,O,U⟩=>?_))));exact wpAny_release ⟨σ,L,O,U⟩
noncomputable def rG (te:TE) (g:TG):TS:=fun D σ H=>te σ H fun x H1=>g x σ H1 D.nx
theorem nA {tg e:Expr} {te:TE} {g:TG} (he:PE X e te) (j:PG X tg g) (hs:L9 [tg] e pos.line X.env=pure false:=by rfl) (hw:Jv [tg] e X.env=pure none:=by rfl)
 (h1:(JH [tg] X.env).map (·.2)=[assign tg X.env]:=by rfl):PS X (.Assign [tg] e pos) (rG te g):=by
 intro pins s σ H D I h;refine wpAny_Assign_stores (thn (he pins s σ H _ I h) fun v s1 ⟨x,H1,z,B,F⟩=>?_) hs hw;rw [h1];exact thn (j pins s1 σ H1 x v _ z B F) fun _ s2 q=>q
noncomputable def BL (i j:Nat) (ta:TA):TS:=fun D σ H=>ta σ H fun vs H1=>∃ v w,vs=[v,w]/\D.nx ((σ.set i (some v)).set j (some w)) H1
theorem BM {i j:Nat} {x y:Str} {a b:Expr} {ta:TA} {px py pt:Pos} {kt G z} (hc:X.calm=true) (U:X.N.Nodup) (hi:X.N[i]? = some x) (hj:X.N[j]? = some y) (J:i≠j)
 (hx:X.env.scope.names.lookup x=some .local) (Y:X.env.scope.names.lookup y=some .local) (ha:PA X [a,b] ta)
 (hw:Jv [.Tuple [.Name x px,.Name y py] kt pt] (.Tuple [a,b] G z) X.env=pure (some [x,y]))
 (hs:L9 [.Tuple [.Name x px,.Name y py] kt pt] (.Tuple [a,b] G z) pos.line X.env=pure false:=by rfl) :
 PS X (.Assign [.Tuple [.Name x px,.Name y py] kt pt] (.Tuple [a,b] G z) pos) (BL i j ta):=by
 intro pins s σ H D I h;rw [exec_Assign_arm];refine gV (L8 ?_);rw [hs];refine gV (hW ?_);rw [if_neg (by decide)]
 refine gV (Tuple_ (thn (ha _ pins s σ H _ I h) fun us s1 ⟨vs,H1,I1,r1,L⟩=>?_));obtain ⟨v,w,e1,L⟩:=L;subst e1;obtain ⟨B,F,rfl,rv,rw'⟩:∃ B F,us=[B,F]/\RelV v B/\RelV w F:=by
  cases r1 with
  | cons p q =>
    cases q with
    | cons p' q' =>
      cases q'
      exact ⟨_,_,rfl,p,p'⟩
 refine IE ?_ (by show 2<=Hd;decide)
 have I2:Inv X pins σ H1 { s1 with heap:=s1.heap.push { cls:=.type "tuple",data:=.seq [B,F].toArray } }:=I1.kept (t':=s1.toks) fun b o e=>h6 _ e
 rw [hw];refine gV (hW ?_);show Hh (model X.prog X.w) X.A (do rule "assign.swapped-stores";let items <- unpackItems (.ref s1.heap.objs.size) 2 none;Q5 [fun v=>S2 X.env y v,fun v=>S2 X.env x v] items.reverse;pure Flow.next) _ _ _
 refine gV (J6 (gV (unpackItems_tuple (items:=#[B,F]) (I.ok.hd hc) (Mw s1.heap _) fun h' O=>?_)));have I3:=I2.kept (h':=h') (t':=s1.toks) fun b o e=>O b o (HJ (H0 e)) e;show Hh _ _ (Q5 [fun v=>S2 X.env y v,fun v=>S2 X.env x v] [F,B] >>= fun _=>pure Flow.next) _ _ _;refine gV (NF (wpAny_bindName (iK I3 U hj (.inl Y) rw' (fun s2 I4=>?_) (.inr Y))));refine NF (wpAny_bindName (iK I4 U hi (.inl hx) rv (fun s3 Z=>Qz (hW ?_)) (.inr hx)));rw [List.set_comm _ _ (Ne.symm J)] at Z;exact ⟨_,H1,Z,L⟩
noncomputable def DA (to ti te:TE) (tget:V->V->Hp->VK->Prop) (tip:TIp) (tset:ky):TS:=fun D σ H=>to σ H fun o H1=>ti σ H1 fun i H2=>tget o i H2 fun x H3=>te σ H3 fun y H4=>tip x y H4 fun z H5=>tset o i z H5 fun H6=>D.nx σ H6
def BN (X:Cx) (t:V->V->Hp->VK->Prop):Prop :=
 ∀ (pins:List (Addr×Obj)) (s:tv) (σ:St) (H:Hp) (o i:V) (ov iv:hH) (Q:VK),Inv X pins σ H s->RelV o ov->RelV i iv->t o i H Q ->
  Hh (model X.prog X.w) X.A (NZ ov iv) (EP X pins σ Q) X.xe s
theorem zV {o i e:Expr} {to ti te:TE} {tget:V->V->Hp->VK->Prop} {tip:TIp} {tset:ky} {op:Mc} {tpos:Pos} (ho:PE X o to) (hi:PE X i ti) (F:BN X tget) (he:PE X e te) (G:PIp X op tip) (hs:PSet X tset)
 (J:∀ ov iv new,augStore i ov iv new=(do holding [new,ov,iv] (NY ov iv new);release [new,ov,iv] [];pure .next):=by intros;rfl):PS X (.AugAssign (.Subscript o i tpos) op e pos) (DA to ti te tget tip tset):=by
 intro pins s σ H D I h;refine wpAny_AugAssign_SubscriptAny (thn (ho pins s σ H _ I h) fun ov s1 ⟨j,H1,L,q,O⟩=>?_) J;refine thn (hi pins s1 σ H1 _ L O) fun iv s2 ⟨z,H2,U,B,Y⟩=>?_;refine thn (F pins s2 σ H2 j z ov iv _ U q B Y) fun old s3 ⟨Z,H3,I3,r3,q3⟩=>?_;refine thn (he pins s3 σ H3 _ I3 q3) fun v s4 ⟨x4,H4,I4,r4,q4⟩=>?_;refine thn (G pins s4 σ H4 Z x4 old v _ I4 r3 r4 q4) fun new s5 ⟨x5,H5,I5,r5,q5⟩=>?_;exact thn (hs pins s5 σ H5 j z x5 ov iv new _ I5 q B r5 q5) fun _ s6 ⟨H6,I6,q6⟩=>⟨σ,H6,I6,q6⟩
end
section
variable {X:Cx} {pos:Pos}
noncomputable def tO (c:TT) (tb:TS):TS:=fun D σ H=>∃ W:Nat->St->Hp->Prop,(∃ m,W m σ H) /\ ∀ m σ H,W m σ H ->
 c σ H fun b H1=>if b=true then ∃ N:St->Hp->Prop,(∀ σ' H',N σ' H' -> ∃ m',m' < m/\W m' σ' H')/\tb { D with nx:=N,ct:=N,bk:=D.nx } σ H1 else D.nx σ H1
theorem wB {c:Expr} {body:List Stmt} {tc:TT} {tb:TS} (J:PassesOwn (model X.prog X.w) X.A X.env X.xe) (U:PT X c tc) (Y:PSs X body tb):PS X (.While c body [] pos) (tO tc tb):=by
 intro pins s σ H D I h;obtain ⟨W,⟨m0,Z⟩,turn⟩:=h;refine wpAny_While (codeAny_whileLoop (fun n s'=>∃ σ' H',Inv X pins σ' H' s'/\W n σ' H') ?_ m0 ⟨σ,H,I,Z⟩);rintro n s1 ⟨σ1,H1,I1,w1⟩;refine Kn J (thn (U pins s1 σ1 H1 _ I1 (turn n σ1 H1 w1)) fun b s2 ⟨H2,L,q⟩=>?_)
 cases b with
 | true =>
   obtain ⟨N,O,q⟩:=q;rw [if_pos rfl];refine Kn J (thn (Y pins s2 σ1 H2 _ L q) fun f s3 z=>?_)
   cases f with
   | next =>
     obtain ⟨σ3,j,B,F⟩:=z;obtain ⟨m',hm,G⟩:=O σ3 j F;exact ⟨m',hm,σ3,j,B,G⟩
   | cont =>
     obtain ⟨σ3,j,B,F⟩:=z;obtain ⟨m',hm,G⟩:=O σ3 j F;exact ⟨m',hm,σ3,j,B,G⟩
   | brk=>exact z
   | ret v=>exact z
 | false =>
   rw [if_neg Hi];exact OW ⟨σ1,H2,L,q⟩
end
structure It where
 go:Nat->Hp->Prop
 yld:Nat->Hp->V->Hp->Prop
 stop:Nat->Hp->Prop
def bZ (X:Cx) (pins:List (Addr×Obj)) (H:Hp) (b:Addr):Prop :=
 H b=none/\b≠X.env.locals/\b∉X.fs/\(b∈X.ex∨X.s₀.heap.objs.size<=b)/\(∀ x c,X.env.cells.lookup x=some c->c≠b) /\ ∀ p∈X.pn++pins,p.1≠b
theorem Inv.fpOk {X:Cx} {pins:List (Addr×Obj)} {σ:St} {H H':Hp} {s:tv} {b:Addr} (I:Inv X pins σ H s) (j:s.heap.objs.size<=b) (B:H' b=none):bZ X pins H' b:=by
 refine ⟨B,Iu (HZ I.lt j),I.nofs j,.inr (Jp I.sz j),fun x c e z=>?_,fun p F z=>?_⟩
 ·obtain ⟨v,q⟩:=I.cell x c e;exact absurd (HZ q.lt (by rw [z];exact j)) (Ig _)
 ·exact absurd (HZ (H0 (I.pin p F).1) (by rw [z];exact j)) (Ig _)
structure fx (P:HB) (w:HX) (K:Frag) (tg:Expr) (J:It) (fp:List Addr) (it:Addr) (tn:Nat->Heap->Prop):Prop where
 mem:it∈fp
 obj:∀ i h,tn i h -> ∀ b∈fp,∃ o,h.get? b=some o /\ ∀ v,o.data ≠ .cell v
 keep:∀ i h h',tn i h->(∀ b∈fp,∀ o,h.get? b=some o->h'.get? b=some o)->tn i h'
 item:∀ (X:Cx),X.prog=P->X.w=w->X.K=K->X.calm=true -> ∀ (i:Nat) (pins:List (Addr×Obj)) (s:tv) (σ:St) (H:Hp) (E:hH->tv->Prop),Inv X pins σ H s->(∀ b∈fp,bZ X pins H b)->tn i s.heap->J.go i H ->
  Hh (model P w) X.A (JD (.ref it)) (fun r s1=>∃ u,r=some u /\
   Hh (model P w) X.A (N9 tg (.ref it) u) (fun _ s2=>∃ x H',Inv X pins σ H' s2/\RelV x u/\J.yld i H x H'/\tn (i+1) s2.heap /\ ∀ b∈fp,H' b=none) E s1) E s
 done:∀ (X:Cx),X.prog=P->X.w=w->X.K=K->X.calm=true -> ∀ (i:Nat) (pins:List (Addr×Obj)) (s:tv) (σ:St) (H:Hp) (E:hH->tv->Prop),Inv X pins σ H s->(∀ b∈fp,bZ X pins H b)->tn i s.heap->J.stop i H ->
  Hh (model P w) X.A (JD (.ref it)) (fun r s1=>r=none/\Inv X pins σ H s1) E s
 self:∀ (A:I0) (i:Nat) (s:tv) (Q:hH->tv->Prop) (E:hH->tv->Prop),tn i s.heap->Q (.ref it) s->Hh (model P w) A (O8 (.ref it)) Q E s
noncomputable abbrev TI:=St->Hp->(It->Hp->Prop)->Prop
def PIE (X:Cx) (pins:List (Addr×Obj)) (σ:St) (tg:Expr) (R:It->Hp->Prop) (itv:hH) (s2:tv):Prop :=
 ∃ (it:Addr) (fp:List Addr) (tn:Nat->Heap->Prop) (J:It) (H':Hp),itv = .ref it/\Inv X pins σ H' s2/\fx X.prog X.w X.K tg J fp it tn/\tn 0 s2.heap/\(∀ b∈fp,bZ X pins H' b)/\R J H'
def PI (X:Cx) (tg iter:Expr) (wi:TI):Prop :=
 ∀ (pins:List (Addr×Obj)) (s:tv) (σ:St) (H:Hp) (R:It->Hp->Prop),Inv X pins σ H s->wi σ H R ->
  Hh (model X.prog X.w) X.A (eval iter X.env) (fun v s1=>Hh (model X.prog X.w) X.A (O8 v) (PIE X pins σ tg R) X.xe s1) X.xe s
theorem mV {M:LS} {A:I0} {E:hH->tv->Prop} {s:tv} {tg:Expr} {it:Addr} {u:hH} {o:Obj} {n:String} {vs:Array hH} {Q:Unit->tv->Prop} (ho:s.heap.get? it=some o) (q:o.cls = .type n) (hd:o.data = .fields vs)
 (z : ["enumerate","zip","dict_itemiterator","dict_reverseitemiterator","odict_iterator","itertools.zip_longest","itertools.pairwise"].contains n=false) (j:Q () s):Hh M A (N9 tg (.ref it) u) Q E s:=by
 unfold N9
 cases tg <;> first
  | exact hW j
  | (cases u <;> first
      | exact hW j
      | (refine gV (S3 ho ?_)
         rw [q,hd];show Hh M A (if (["enumerate","zip","dict_itemiterator","dict_reverseitemiterator","odict_iterator","itertools.zip_longest","itertools.pairwise"].contains n&&vs[0]? == some (JU _))=true then _ else _) Q E s
         rw [if_neg (by intro h;rw [z,NG] at h;cases h)]
         exact hW j))
noncomputable def Itl (K:Frag) (a:Addr):It :=
 ⟨fun i H=>∃ xs x,SqL K H a xs/\xs[i]? = some x,fun i H x H'=>H'=H /\ ∀ xs,SqL K H a xs->xs[i]? = some x,fun i H=>∃ xs,SqL K H a xs/\xs.length<=i⟩
noncomputable def Itt (K:Frag) (a:Addr):It :=
 ⟨fun i H=>∃ xs x,SqT K H a xs/\xs[i]? = some x,fun i H x H'=>H'=H /\ ∀ xs,SqT K H a xs->xs[i]? = some x,fun i H=>∃ xs,SqT K H a xs/\xs.length<=i⟩
noncomputable def Itr (lo:Int) (n:Nat):It:=⟨fun i _=>i < n,fun i H x H'=>H'=H/\x = .int (lo+i),fun i _=>n<=i⟩
theorem tP {P:HB} {w:HX} {K:Frag} {tg:Expr} (a it:Addr):fx P w K tg (Itl K a) [it] it (fun i h=>h.IsListIter it a i) where
 mem:=by simp
 obj:=fun i h st b j=>by
  have e:b=it:=by simpa using j
  subst e;obtain ⟨o,e,c,d⟩:=st;exact ⟨o,e,fun v z=>by rw [d] at z;cases z⟩
 keep:=fun i h h' st k=>st.at fun o e=>k it (by simp) o e
 item:=by
  intro X B hw F L i pins s σ H E I hf st hg;subst B hw F;obtain ⟨xs,x,q,hx⟩:=hg;obtain ⟨its,rv,p,hz⟩:=I.list q;obtain ⟨u,O,ru⟩:=rv.get hx;obtain ⟨f0,f1,f2,G,f4,J⟩:=hf it (by simp)
  refine OE st p.isList (x:=u) (by simpa using O) fun h' st' sb=>?_
  have U:Inv X pins σ H { s with heap:=h' }:=I.turned (t':=s.toks) (fun b o j e=>(sb.2 b j).trans e) f0 f1 G f4 J
  obtain ⟨o,e,c,d⟩:=id st';exact ⟨u,rfl,mV (s:={ s with heap:=h' }) e c d (by decide) ⟨x,H,U,ru,⟨rfl,fun ys Y=>by rw [I.list_inj Y q];exact hx⟩,st',fun b j=>(hf b j).1⟩⟩
 done:=by
  intro X B hw F L i pins s σ H E I hf st hg;subst B hw F;obtain ⟨xs,q,hx⟩:=hg;obtain ⟨its,rv,p,hz⟩:=I.list q;obtain ⟨f0,f1,f2,G,f4,J⟩:=hf it (by simp)
  have Z:=rv.length;exact P2 (I.ok.hd L) st p.isList (by simp;omega) fun h' eb=>⟨rfl,I.turned (t':=s.toks) (fun b o j e=>eb b o j e) f0 f1 G f4 J⟩
 self:=fun _ _ _ _ _ st h=>wpAny_pyIter_listiter st h
theorem rH {P:HB} {w:HX} {K:Frag} {tg:Expr} (a it:Addr):fx P w K tg (Itt K a) [it] it (fun i h=>h.IsTupleIter it a i) where
 mem:=by simp
 obj:=fun i h st b j=>by
  have e:b=it:=by simpa using j
  subst e;obtain ⟨o,e,c,d⟩:=st;exact ⟨o,e,fun v z=>by rw [d] at z;cases z⟩
 keep:=fun i h h' st k=>st.at fun o e=>k it (by simp) o e
 item:=by
  intro X B hw F L i pins s σ H E I hf st hg;subst B hw F;obtain ⟨xs,x,q,hx⟩:=hg;obtain ⟨its,rv,p,hz⟩:=I.tuple q;obtain ⟨u,O,ru⟩:=rv.get hx;obtain ⟨f0,f1,f2,G,f4,J⟩:=hf it (by simp)
  refine wpAny_pyNext_tuple_item st (show s.heap.IsTuple a its.toArray from p) (x:=u) (by simpa using O) fun h' st' sb=>?_
  have U:Inv X pins σ H { s with heap:=h' }:=I.turned (t':=s.toks) (fun b o j e=>(sb.2 b j).trans e) f0 f1 G f4 J
  obtain ⟨o,e,c,d⟩:=id st';exact ⟨u,rfl,mV (s:={ s with heap:=h' }) e c d (by decide) ⟨x,H,U,ru,⟨rfl,fun ys Y=>by rw [I.tuple_inj Y q];exact hx⟩,st',fun b j=>(hf b j).1⟩⟩
 done:=by
  intro X B hw F L i pins s σ H E I hf st hg;subst B hw F;obtain ⟨xs,q,hx⟩:=hg;obtain ⟨its,rv,p,hz⟩:=I.tuple q;obtain ⟨f0,f1,f2,G,f4,J⟩:=hf it (by simp)
  have Z:=rv.length;exact wpAny_pyNext_tuple_end (I.ok.hd L) st (show s.heap.IsTuple a its.toArray from p) (by simp;omega) fun h' eb=>⟨rfl,I.turned (t':=s.toks) (fun b o j e=>eb b o j e) f0 f1 G f4 J⟩
 self:=fun _ _ _ _ _ st h=>wpAny_pyIter_tupleiter st h
theorem rJ {P:HB} {w:HX} {K:Frag} {tg:Expr} (it:Addr) (lo:Int) (n:Nat):fx P w K tg (Itr lo n) [it] it (fun i h=>IsRangeIter h it (lo+(i:Nat)*1) ((n:Int) - (i:Nat)) 1) where
 mem:=by simp
 obj:=fun i h st b j=>by
  have e:b=it:=by simpa using j
  subst e;exact ⟨_,st,fun v z=>by
   have z':LV _=Data.cell v:=z
   cases z'⟩
 keep:=fun i h h' st k=>k it (by simp) _ st
 item:=by
  intro X q hw B F i pins s σ H E I hf st hg;subst q hw B;obtain ⟨f0,f1,f2,G,f4,J⟩:=hf it (by simp)
  have W:=Walks.range (prog:=X.prog) (w:=X.w) (I.ok.hd F) it lo 1 n;refine W.item i s _ _ hg st fun v h' tk L st' kk=>?_;obtain ⟨t,rfl⟩:=L;have O:Inv X pins σ H { s with heap:=h',toks:=tk }:=I.turned (fun b o j e=>kk b o (by simpa using j) e) f0 f1 G f4 J
  refine ⟨_,rfl,mV (s:={ s with heap:=h',toks:=tk }) (n:="range_iterator") st' rfl rfl (by decide) ⟨.int (lo+i),H,O,⟨t,?_⟩,⟨rfl,rfl⟩,st',fun b j=>(hf b j).1⟩⟩
  rw [Int.mul_one]
 done:=by
  intro X q hw B F i pins s σ H E I hf st hg;subst q hw B;obtain ⟨f0,f1,f2,G,f4,J⟩:=hf it (by simp)
  exact wpAny_pyNext_range_end (I.ok.hd F) st (by have:n<=i:=hg;omega) fun h' eb=>⟨rfl,I.turned (t':=s.toks) (fun b o j e=>eb b o j e) f0 f1 G f4 J⟩
 self:=fun _ _ _ _ _ st h=>wpAny_pyIter_rangeiter st h
end
section
section
variable {X:Cx} {tg:Expr}
theorem wD {pins:List (Addr×Obj)} {σ:St} {H:Hp} {s:tv} {R:It->Hp->Prop} {E:hH->tv->Prop} {lo hi:Int} {t u v:Tok} {tk:Nat} (I:Inv X pins σ H s) (h1 : -(2 ^ 62)<=lo) (h2:lo < 2 ^ 62) (z : -(2 ^ 62)<=hi) (B:hi < 2 ^ 62)
 (q:R (Itr lo (hi - lo).toNat) H):Hh (model X.prog X.w) X.A (O8 (.ref s.heap.objs.size)) (PIE X pins σ tg R) E { s with heap:=s.heap.push { cls:=.type "range",data:=.fields #[.int lo t,.int hi u,.int 1 v] },toks:=tk }:=by
 refine wpAny_pyIter_range (IsRange.new ..) (small_one h1 h2 z B) ?_;have j:Inv X pins σ H { s with heap:=s.heap.push { cls:=.type "range",data:=.fields #[.int lo t,.int hi u,.int 1 v] },toks:=tk }:=I.kept fun b o e=>h6 _ e
 refine ⟨(s.heap.push { cls:=.type "range",data:=.fields #[.int lo t,.int hi u,.int 1 v] }).objs.size,[(s.heap.push { cls:=.type "range",data:=.fields #[.int lo t,.int hi u,.int 1 v] }).objs.size],_,_,H,rfl,
  j.kept (t':=tk) fun b o e=>h6 _ e,rJ _ lo (hi - lo).toNat,?_,fun b F=>?_,q⟩
 ·have G:lo+((0:Nat):Int)*1=lo:=by simp
  have J:(((hi - lo).toNat:Nat):Int) - ((0:Nat):Int)=Builtin.Range.rangeSize lo hi 1:=by rw [rangeSize_one];split <;> omega
  show IsRangeIter _ _ (lo+((0:Nat):Int)*1) ((((hi - lo).toNat:Nat):Int) - ((0:Nat):Int)) 1;rw [G,J];exact GZ _ rfl
 ·have e:b=(s.heap.push { cls:=.type "range",data:=.fields #[.int lo t,.int hi u,.int 1 v] }).objs.size:=by simpa using F
  subst e;exact j.fpOk (Hg _) (j.hok.fresh (Hg _))
noncomputable def DB (ta:TA):TI:=fun σ H R=>ta σ H fun vs H1=>∃ j:Int,vs=[.int j] /\ -(2 ^ 62)<=j/\j < 2 ^ 62/\R (Itr 0 j.toNat) H1
theorem tQ {a:Expr} {ta:TA} {p pos:Pos} (B:Gl X "range") (hm:X.mg "range" = none) (F:PA X [a] ta) (hs:HP [a] X.env=[(false,eval a X.env)]:=by rfl):PI X tg (.Call (.Name "range" p) [a] [] pos) (DB ta):=by
 intro pins s σ H R I h;refine Call_ (dO I B hm boot_range (K6 (thn (F pos pins s σ H _ I h) fun us s1 ⟨vs,H1,G,J,z⟩=>?_) hs rfl));obtain ⟨j,e,z,L,q⟩:=z;subst e
 cases J with
 | cons r rr =>
   cases rr
   obtain ⟨t,rfl⟩:=r;exact call_range_1 (wD G (by omega) (by omega) z L (by simpa using q))
noncomputable def BO (wi:TI) (g:TG) (tb:TS):TS:=fun D σ H=>wi σ H fun J H1=>∃ W:Nat->Nat->St->Hp->Prop,(∃ m,W 0 m σ H1) /\ ∀ i m σ H,W i m σ H ->
 (J.stop i H/\D.nx σ H)∨(J.go i H /\ ∃ N:St->Hp->Prop,(∀ σ' H',N σ' H' -> ∃ m',m' < m/\W (i+1) m' σ' H') /\ ∀ x H',J.yld i H x H'->g x σ H' fun σ2 H2=>tb { D with nx:=N,ct:=N,bk:=D.nx } σ2 H2)
noncomputable def jm (fp:List Addr) (h:Heap):List (Addr×Obj):=fp.filterMap fun b=>(h.get? b).map fun o=>(b,o)
theorem dm {fp:List Addr} {h:Heap} {b:Addr} {o:Obj} (j:b∈fp) (e:h.get? b=some o):(b,o)∈jm fp h:=Qi.mpr ⟨b,j,by rw [e];rfl⟩
theorem tR {fp:List Addr} {h:Heap} {p:Addr×Obj} (j:p∈jm fp h):p.1∈fp/\h.get? p.1=some p.2:=by
 obtain ⟨b,z,e⟩:=Qi.mp j
 cases q:h.get? b with
 | none=>rw [q] at e;cases e
 | some o =>
   rw [q] at e;have e':(b,o)=p:=Ju.inj e;subst e';exact ⟨z,q⟩
theorem Inv.pinned {pins:List (Addr×Obj)} {σ:St} {H:Hp} {s:tv} {fp:List Addr} (I:Inv X pins σ H s) (hf:∀ b∈fp,bZ X pins H b) (ho:∀ b∈fp,∃ o,s.heap.get? b=some o /\ ∀ v,o.data ≠ .cell v):Inv X (pins++jm fp s.heap) σ H s :=
 I.pins_of fun p q=>(Hu.mp q).elim (fun z=>I.pin p (HD _ z)) fun z=>by
  obtain ⟨j,e⟩:=tR z;obtain ⟨f0,f1,f2,_⟩:=hf p.1 j;obtain ⟨o,e',d⟩:=ho p.1 j;rw [e] at e';cases e';exact ⟨e,f0,f1,f2,d⟩
theorem Inv.unpinned {pins pl:List (Addr×Obj)} {σ:St} {H:Hp} {s:tv} (I:Inv X (pins++pl) σ H s):Inv X pins σ H s:=I.pins_of fun p j=>I.pin p (HD _ (Iv _ j))
theorem BP {iter:Expr} {body:List Stmt} {wi:TI} {g:TG} {tb:TS} {pos:Pos} (G:PassesOwn (model X.prog X.w) X.A X.env X.xe) (hc:X.calm=true) (hi:PI X tg iter wi) (hg:PG X tg g) (j:PSs X body tb)
 (hs:∀ x,JS iter X.env x=pure x:=by intro _;rfl):PS X (.For tg iter body [] pos) (BO wi g tb):=by
 intro pins s σ H D I h;refine wpAny_For (thn (hi pins s σ H _ I h) fun v s1 h1=>thn h1 fun itv s2 h2=>?_) hs;obtain ⟨it,fp,tn,J,H2,e,I2,T,Z,f2,W,⟨m0,w0⟩,turn⟩:=h2;subst e;have stat:∀ {H':Hp},(∀ b∈fp,H' b=none) -> ∀ b∈fp,bZ X pins H' b:=fun hn b j=>⟨hn b j,(f2 b j).2⟩;refine codeAny_forLoop_any (fun n s'=>∃ i σ' H',Inv X pins σ' H' s'/\tn i s'.heap/\(∀ b∈fp,H' b=none)/\W i n σ' H') ?_ m0 ⟨0,σ,H2,I2,Z,fun b j=>(f2 b j).1,w0⟩;rintro n s3 ⟨i,σ3,Y,I3,L,O,w3⟩
 rcases turn i n σ3 Y w3 with ⟨stop,qn⟩ | ⟨go,N,hN,step⟩
 ·refine Kn G (thn (T.done X rfl rfl rfl hc i pins s3 σ3 Y X.xe I3 (stat O) L stop) fun r s4 ⟨hr,I4⟩=>?_);subst hr;exact OW ⟨σ3,Y,I4,qn⟩
 ·refine Kn G (thn (T.item X rfl rfl rfl hc i pins s3 σ3 Y X.xe I3 (stat O) L go) fun r s4 ⟨u,hr,h4⟩=>?_);subst hr;refine Kn G (thn h4 fun _ s5 ⟨x,H5,I5,r5,y5,F,ES⟩=>?_);have ET:=I5.pinned (stat ES) (T.obj _ _ F);refine Kn G (thn (hg _ s5 σ3 H5 x u _ ET r5 (step x H5 y5)) fun _ s6 ⟨σ6,H6,I6,q6⟩=>?_);refine Kn G (thn (j _ s6 σ6 H6 _ I6 q6) fun f s7 B=>?_);have again:∀ {σ7:St} {q:Hp},Inv X (pins++jm fp s5.heap) σ7 q s7->N σ7 q -> ∃ m,m < n /\ ∃ i σ' H',Inv X pins σ' H' s7/\tn i s7.heap/\(∀ b∈fp,H' b=none)/\W i m σ' H':=fun {σ7 q} z U=>by
   obtain ⟨m',hm,w7⟩:=hN σ7 q U;refine ⟨m',hm,i+1,σ7,q,z.unpinned,T.keep _ _ _ F fun b j o e=>(z.pin (b,o) (HD _ (HD _ (dm j e)))).1,fun b j=>?_,w7⟩;obtain ⟨o,e,d⟩:=T.obj _ _ F b j;exact (z.pin (b,o) (HD _ (HD _ (dm j e)))).2.1
  cases f with
  | next=>obtain ⟨σ7,q,z,U⟩:=B;exact again z U
  | cont=>obtain ⟨σ7,q,z,U⟩:=B;exact again z U
  | brk=>obtain ⟨σ7,q,z,B⟩:=B;exact ⟨σ7,q,z.unpinned,B⟩
  | ret v=>obtain ⟨x7,σ7,q,z,r7,B⟩:=B;exact ⟨x7,σ7,q,z.unpinned,r7,B⟩
end
end
section
noncomputable abbrev R2:=V->V->Hp->VK->Prop
def OpR (X:Cx) (f:hH->hH->Sem hH) (r:R2):Prop :=
 ∀ (pins:List (Addr×Obj)) (s:tv) (σ:St) (H:Hp) (x y:V) (v u:hH) (Q:VK),Inv X pins σ H s->RelV x v->RelV y u->r x y H Q ->
  Hh (model X.prog X.w) X.A (f v u) (EP X pins σ Q) X.xe s
def UnR (X:Cx) (f:hH->Sem hH) (r:V->Hp->VK->Prop):Prop :=
 ∀ (pins:List (Addr×Obj)) (s:tv) (σ:St) (H:Hp) (x:V) (v:hH) (Q:VK),Inv X pins σ H s->RelV x v->r x H Q ->
  Hh (model X.prog X.w) X.A (f v) (EP X pins σ Q) X.xe s
def CallR (X:Cx) (f:hH) (r:List V->Hp->VK->Prop):Prop :=
 ∀ (pins:List (Addr×Obj)) (s:tv) (σ:St) (H:Hp) (xs:List V) (us:List hH) (Q:VK),Inv X pins σ H s->Vals xs us->r xs H Q ->
  Hh (model X.prog X.w) X.A (call f us) (EP X pins σ Q) X.xe s
def Et (X:Cx) (r:V->Hp->(Bool->Hp->Prop)->Prop):Prop :=
 ∀ (pins:List (Addr×Obj)) (s:tv) (σ:St) (H:Hp) (x:V) (v:hH) (Q:Bool->Hp->Prop),Inv X pins σ H s->RelV x v->r x H Q ->
  Hh (model X.prog X.w) X.A (truthy v) (TP X pins σ Q) X.xe s
noncomputable def tOp (r:R2) (ta tb:TE):TE:=fun σ H Q=>ta σ H fun x H1=>tb σ H1 fun y H2=>r x y H2 Q
noncomputable def tUn (r:V->Hp->VK->Prop) (ta:TE):TE:=fun σ H Q=>ta σ H fun x H1=>r x H1 Q
noncomputable def rI (C:Int->Int->Prop) (g:Int->Int->V):R2:=fun x y H Q=>∃ i j,x = .int i/\y = .int j/\C i j/\Q (g i j) H
noncomputable def rI0 (g:Int->Int->V):R2:=fun x y H Q=>∃ i j,x = .int i/\y = .int j/\Q (g i j) H
noncomputable def rU (g:Int->V):V->Hp->VK->Prop:=fun x H Q=>∃ i,x = .int i/\Q (g i) H
section
variable {X:Cx} {a b c:Expr} {ta tb tc:TE} {pos:Pos}
theorem wF (j:PE X a ta) (q:PE X b tb) {pins:List (Addr×Obj)} {s:tv} {σ:St} {H:Hp} {R:V->V->Hp->Prop} (I:Inv X pins σ H s)
 (h:ta σ H fun x H1=>tb σ H1 fun y H2=>R x y H2) {Q:hH->tv->Prop} {f:hH->hH->Sem hH}
 (hf:∀ v u s2 x y H2,Inv X pins σ H2 s2->RelV x v->RelV y u->R x y H2->Hh (model X.prog X.w) X.A (f v u) Q X.xe s2) :
 Hh (model X.prog X.w) X.A (eval a X.env) (fun v s₁=>Hh (model X.prog X.w) X.A (eval b X.env) (fun u s₂=>Hh (model X.prog X.w) X.A (f v u) Q X.xe s₂) X.xe s₁) X.xe s:=by
 refine thn (j pins s σ H _ I h) fun v s1 ⟨x,H1,z,B,F⟩=>?_;refine thn (q pins s1 σ H1 _ z F) fun u s2 ⟨y,H2,G,J,L⟩=>?_;exact hf v u s2 x y H2 G B J L
theorem DC {op:Mc} {r:R2} (ho:OpR X (Jm op) r) (j:PE X a ta) (z:PE X b tb):PE X (.BinOp a op b pos) (tOp r ta tb):=by
 intro pins s σ H Q I h;exact wpAny_BinOp (wF j z I h fun v u s2 x y H2 B rx ry q=>ho pins s2 σ H2 x y v u Q B rx ry q)
theorem DD {op:UnaryOp} {r:V->Hp->VK->Prop} (ho:UnR X (unaryOp op) r) (j:PE X a ta):PE X (.UnaryOp op a pos) (tUn r ta):=by
 intro pins s σ H Q I h;exact UnaryOp_ (thn (j pins s σ H _ I h) fun v s1 ⟨x,H1,q,z,B⟩=>ho pins s1 σ H1 x v Q q z B)
theorem opI {f:hH->hH->Sem hH} {C:Int->Int->Prop} {g:Int->Int->Int}
 (rule:∀ (i j:Int) (t u:Tok) (s:tv) (Q:hH->tv->Prop) (E:hH->tv->Prop),C i j->Q (.int (g i j) s.toks) { s with toks:=s.toks+1 }->Hh (model X.prog X.w) X.A (f (.int i t) (.int j u)) Q E s) :
 OpR X f (rI C fun i j=>.int (g i j)):=by
 intro pins s σ H x y v u Q I rx ry h;obtain ⟨i,j,rfl,rfl,z,q⟩:=h;obtain ⟨t,rfl⟩:=rx;obtain ⟨t',rfl⟩:=ry;exact rule i j t t' s _ _ z ⟨.int (g i j),H,I.tok _,⟨_,rfl⟩,q⟩
theorem rK {f:hH->hH->Sem hH} {g:Int->Int->Int}
 (rule:∀ (i j:Int) (t u:Tok) (s:tv) (Q:hH->tv->Prop) (E:hH->tv->Prop),Q (.int (g i j) s.toks) { s with toks:=s.toks+1 }->Hh (model X.prog X.w) X.A (f (.int i t) (.int j u)) Q E s) :
 OpR X f (rI0 fun i j=>.int (g i j)):=by
 intro pins s σ H x y v u Q I rx ry h;obtain ⟨i,j,rfl,rfl,q⟩:=h;obtain ⟨t,rfl⟩:=rx;obtain ⟨t',rfl⟩:=ry;exact rule i j t t' s _ _ ⟨.int (g i j),H,I.tok _,⟨_,rfl⟩,q⟩
theorem wG {f:hH->hH->Sem hH} {g:Int->Int->Bool}
 (rule:∀ (i j:Int) (t u:Tok) (s:tv) (Q:hH->tv->Prop) (E:hH->tv->Prop),Q (.bool (g i j)) s->Hh (model X.prog X.w) X.A (f (.int i t) (.int j u)) Q E s) :
 OpR X f (rI0 fun i j=>.bl (g i j)):=by
 intro pins s σ H x y v u Q I rx ry h;obtain ⟨i,j,rfl,rfl,q⟩:=h;obtain ⟨t,rfl⟩:=rx;obtain ⟨t',rfl⟩:=ry;exact rule i j t t' s _ _ ⟨.bl (g i j),H,I,rfl,q⟩
def Eu (i j:Int):Prop:=0<=j/\j<=1000000/\i.natAbs < 2 ^ 64
theorem op_add:OpR X (Jm .Add) (rI0 fun i j=>.int (i+j)):=rK fun _ _ _ _ _ _ _ q=>add_int q
theorem BQ:OpR X (Jm .Sub) (rI0 fun i j=>.int (i - j)):=rK fun _ _ _ _ _ _ _ q=>sub_int q
theorem BR:OpR X (Jm .Mod) (rI (fun _ j=>0 < j) fun i j=>.int (i % j)):=opI fun i j _ _ _ _ _ z q=>by
 have h1:(0:Int) < j:=z;exact mod_int' (by omega) (by rw [Int.fmod_eq_emod_of_nonneg i (by omega)];exact q)
theorem BS:OpR X (Jm .Pow) (rI Eu fun i j=>.int (i ^ j.toNat)):=opI fun _ _ _ _ _ _ _ z q=>pow_int_small z.1 z.2.1 z.2.2 q
theorem zW:OpR X (Mv .Add) (rI0 fun i j=>.int (i+j)):=rK fun _ _ _ _ _ _ _ q=>iadd_int q
theorem zX:OpR X (Mv .Sub) (rI0 fun i j=>.int (i - j)):=rK fun _ _ _ _ _ _ _ q=>isub_int q
theorem unI {f:hH->Sem hH} {g:Int->Int}
 (rule:∀ (i:Int) (t:Tok) (s:tv) (Q:hH->tv->Prop) (E:hH->tv->Prop),Q (.int (g i) s.toks) { s with toks:=s.toks+1 }->Hh (model X.prog X.w) X.A (f (.int i t)) Q E s) :
 UnR X f (rU fun i=>.int (g i)):=by
 intro pins s σ H x v Q I rx h;obtain ⟨i,rfl,q⟩:=h;obtain ⟨t,rfl⟩:=rx;exact rule i t s _ _ ⟨.int (g i),H,I.tok _,⟨_,rfl⟩,q⟩
theorem BU:UnR X (unaryOp .USub) (rU fun i=>.int (-i)):=unI fun _ _ _ _ _ q=>neg_int q
end
section
variable {X:Cx} {a b c:Expr} {ta tb tc:TE} {pos:Pos}
theorem DE:OpR X (IW .Lt) (rI0 fun i j=>.bl (decide (i < j))):=wG fun _ _ _ _ _ _ _ q=>lt_int q
theorem DG:OpR X (IW .Gt) (rI0 fun i j=>.bl (decide (j < i))):=wG fun _ _ _ _ _ _ _ q=>gt_int q
theorem DH:OpR X (IW .GtE) (rI0 fun i j=>.bl (decide (j<=i))):=wG fun _ _ _ _ _ _ _ q=>ge_int q
theorem OpR.or {f:hH->hH->Sem hH} {r r':R2} (h:OpR X f r) (h':OpR X f r'):OpR X f (fun x y H Q=>r x y H Q∨r' x y H Q):=by
 intro pins s σ H x y v u Q I rx ry q
 rcases q with q | q
 ·exact h pins s σ H x y v u Q I rx ry q
 ·exact h' pins s σ H x y v u Q I rx ry q
theorem zY {op:CmpOp} {r:R2} (ho:OpR X (IW op) r) (j:PE X a ta) (z:PE X b tb) (hm:Ly op b=false):PE X (.Compare a [op] [b] pos) (tOp r ta tb):=by
 intro pins s σ H Q I h;exact wpAny_Compare1 (wF j z I h fun v u s2 x y H2 B rx ry q=>ho pins s2 σ H2 x y v u Q B rx ry q) hm
noncomputable def zg (t:TE):TT:=fun σ H Q=>t σ H fun x H'=>∃ k,x = .bl k/\Q k H'
theorem zZ {op:CmpOp} {r:R2} (ho:OpR X (IW op) r) (j:PE X a ta) (q:PE X b tb) (hm:Ly op b=false):PT X (.Compare a [op] [b] pos) (zg (tOp r ta tb)):=by
 intro pins s σ H Q I h;refine wpAny_isTrue_Compare1 (thn (j pins s σ H _ I h) fun v s1 ⟨x,H1,B,F,G⟩=>thn (q pins s1 σ H1 _ B G) fun u s2 ⟨y,H2,J,L,O⟩ =>
  thn (ho pins s2 σ H2 x y v u _ J F L O) fun c s3 ⟨z,U,Y,Z,k,e,q3⟩=>?_) hm
 subst e
 cases Z
 exact Kq ⟨U,Y,q3⟩
def wH (K:Frag) (x:V) (H:Hp) (k:Bool):Prop :=
 match x with
 | .non=>k=false
 | .bl b=>k=b
 | .int i=>k=(i != 0)
 | .str y=>y.length<=Hd/\k=((y.length:Int) != 0)
 | .byt y=>y.size<=Hd/\k=((y.size:Int) != 0)
 | .ref p=>(∃ xs,SqL K H p xs/\k = !xs.isEmpty)∨(∃ xs,SqT K H p xs/\k = !xs.isEmpty)∨∃ kvs,H p=some (.dK kvs)/\k = !kvs.isEmpty
 | _=>False
theorem rL {κ:Type} {kvs:List (κ × V)} {vs:List (κ × hH)} (r:KV kvs vs):(!vs.isEmpty) = !kvs.isEmpty:=by
 cases r <;> rfl
theorem jn {xs:List V} {its:List hH} (r:Vals xs its):(!its.toArray.isEmpty) = !xs.isEmpty:=by
 cases r <;> simp
theorem eV:(Hd:Nat) < 2 ^ 63:=by rw [D2];decide
theorem BV:Et X (fun x H Q=>∃ k,wH X.K x H k/\Q k H):=by
 intro pins s σ H x v Q I rx h;obtain ⟨k,e,q⟩:=h;have B:=eV;have hs:Hd=16777216:=D2
 cases x with
 | non =>
   cases rx
   have e':k=false:=e;subst e';exact truthy_none ⟨H,I,q⟩
 | bl b =>
   cases rx
   have e':k=b:=e;subst e';exact Kq ⟨H,I,q⟩
 | int i =>
   obtain ⟨t,rfl⟩:=rx;have e':k=(i != 0):=e;subst e';exact PySem.P.truthy_int ⟨H,I,q⟩
 | str y =>
   obtain ⟨t,rfl⟩:=rx;obtain ⟨j,e'⟩:y.length<=Hd/\k=((y.length:Int) != 0):=e;subst e';exact PySem.P.truthy_str (by omega) ⟨H,I.tok _,q⟩
 | byt y =>
   obtain ⟨t,rfl⟩:=rx;obtain ⟨j,e'⟩:y.size<=Hd/\k=((y.size:Int) != 0):=e;subst e';exact PySem.W.truthy_bytes (by omega) ⟨H,I.tok _,q⟩
 | ref p =>
   cases rx
   have e':(∃ xs,SqL X.K H p xs/\k = !xs.isEmpty)∨(∃ xs,SqT X.K H p xs/\k = !xs.isEmpty)∨∃ kvs,H p=some (.dK kvs)/\k = !kvs.isEmpty:=e
   rcases e' with ⟨xs,hx,e'⟩ | ⟨xs,hx,e'⟩ | ⟨kvs,hx,e'⟩
   ·subst e';obtain ⟨its,r,pl,hz⟩:=I.list hx;have hlen:=r.length;exact wpAny_truthy_list pl.isList (by simp only [Hn];omega) ⟨H,I.tok _,by rw [jn r];exact q⟩
   ·subst e';obtain ⟨its,r,pl,hz⟩:=I.tuple hx;have hlen:=r.length;exact truthy_tuple pl (by simp only [Hn];omega) ⟨H,I.tok _,by rw [jn r];exact q⟩
   ·subst e';obtain ⟨hz,z,vs,r,m⟩:kvs.length<=Hd/\(p==Ir)=false /\ ∃ vs,KV kvs vs/\s.heap.DictOf (ar X.prog X.w) p vs:=I.hok p _ hx;have hlen:kvs.length=vs.length:=JL r;exact wpAny_truthy_dict z m (by omega) ⟨H,I.tok _,by rw [rL r];exact q⟩
 | _=>exact (show False from e).elim
theorem wJ (j:PE X a ta) (he:∀ whole,isTrue a X.env whole=(do let v <- whole;MR a.pos;holding [v] (truthy v))) :
 PT X a (fun σ H Q=>ta σ H fun x H'=>∃ k,wH X.K x H' k/\Q k H'):=by
 intro pins s σ H Q I h;exact isTrue_plain (thn (j pins s σ H _ I h) fun v s1 ⟨x,H1,q,z,B⟩=>BV pins s1 σ H1 x v Q q z B) (he _)
theorem rM:OpR X (Jm .Add) (fun x y H Q=>∃ i j,x = .str i/\y = .str j/\i.length+j.length<=Hd/\Q (.str (i++j)) H):=by
 intro pins s σ H x y v u Q I rx ry h;obtain ⟨i,j,rfl,rfl,hz,q⟩:=h;obtain ⟨t,rfl⟩:=rx;obtain ⟨t',rfl⟩:=ry;exact add_str (fun t' tk=>⟨.str (i++j),H,I.tok _,⟨_,rfl⟩,q⟩) hz
theorem dq {x:V} {us:List hH} (r:Vals [x] us):∃ u,us=[u]/\RelV x u:=by
 cases r with
 | cons j q=>cases q;exact ⟨_,rfl,j⟩
theorem zh {x y:V} {us:List hH} (r:Vals [x,y] us):∃ u w',us=[u,w']/\RelV x u/\RelV y w':=by
 cases r with
 | cons j q =>
   cases q with
   | cons z B=>cases B;exact ⟨_,_,rfl,j,z⟩
theorem wK:CallR X (.builtin "abs") (fun xs H Q=>∃ i,xs=[.int i]/\Q (.int (if i < 0 then -i else i)) H):=by
 intro pins s σ H xs us Q I r h;obtain ⟨i,rfl,q⟩:=h;obtain ⟨u,rfl,t,rfl⟩:=dq r;exact call_abs_int fun u tk=>⟨.int (if i < 0 then -i else i),H,I.tok _,⟨_,rfl⟩,q⟩
theorem tS (B:X.calm=true):CallR X (.builtin "min") (fun xs H Q=>∃ i j,xs=[.int i,.int j]/\Q (.int (if j < i then j else i)) H):=by
 intro pins s σ H xs us Q I r h;obtain ⟨i,j,rfl,q⟩:=h;obtain ⟨u,w',rfl,⟨t,rfl⟩,⟨t',rfl⟩⟩:=zh r;refine min_two_ints (I.ok.hd B) fun h' tk k=>⟨_,H,I.kept k,?_,q⟩
 by_cases z:j < i
 ·rw [if_pos z,if_pos z];exact ⟨_,rfl⟩
 ·rw [if_neg z,if_neg z];exact ⟨_,rfl⟩
theorem tT:CallR X (.type "int") (fun xs H Q=>(∃ i,xs=[.int i]/\Q (.int i) H)∨∃ k,xs=[.bl k]/\Q (.int (if k then 1 else 0)) H):=by
 intro pins s σ H xs us Q I r h
 rcases h with ⟨i,rfl,q⟩ | ⟨k,rfl,q⟩
 ·obtain ⟨u,rfl,t,rfl⟩:=dq r;exact call_int_int ⟨.int i,H,I,⟨_,rfl⟩,q⟩
 ·obtain ⟨u,rfl,j⟩:=dq r
  cases j
  exact call_int_bool ⟨.int (if k then 1 else 0),H,I.tok _,⟨_,rfl⟩,q⟩
def Ev (K:Frag) (x:V) (H:Hp) (n:Nat):Prop :=
 match x with
 | .str y=>y.length<=Hd/\n=y.length
 | .byt y=>y.size<=Hd/\n=y.size
 | .ref p=>(∃ xs,SqL K H p xs/\n=xs.length)∨∃ xs,SqT K H p xs/\n=xs.length
 | _=>False
theorem wL:CallR X (.builtin "len") (fun xs H Q=>∃ x n,xs=[x]/\Ev X.K x H n/\Q (.int n) H):=by
 intro pins s σ H xs us Q I r h;obtain ⟨x,n,rfl,e,q⟩:=h;obtain ⟨u,rfl,rx⟩:=dq r;have z:=eV;have hs:Hd=16777216:=D2
 cases x with
 | str y =>
   obtain ⟨t,rfl⟩:=rx;obtain ⟨j,e'⟩:y.length<=Hd/\n=y.length:=e;subst e';exact len_str (by omega) ⟨.int _,H,I.tok _,⟨_,rfl⟩,q⟩
 | byt y =>
   obtain ⟨t,rfl⟩:=rx;obtain ⟨j,e'⟩:y.size<=Hd/\n=y.size:=e;subst e';exact PySem.W.len_bytes (by omega) ⟨.int _,H,I.tok _,⟨_,rfl⟩,q⟩
 | ref p =>
   cases rx
   have e':(∃ xs,SqL X.K H p xs/\n=xs.length)∨∃ xs,SqT X.K H p xs/\n=xs.length:=e
   rcases e' with ⟨xs,hx,e'⟩ | ⟨xs,hx,e'⟩
   ·subst e';obtain ⟨its,r',pl,hz⟩:=I.list hx;have hlen:=r'.length;exact Calls.call_len_list pl.isList (by simp only [Hn];omega) ⟨.int xs.length,H,I.tok _,⟨_,by simp only [Hn];rw [hlen]⟩,q⟩
   ·subst e';obtain ⟨its,r',pl,hz⟩:=I.tuple hx;have hlen:=r'.length;exact len_tuple pl (by simp only [Hn];omega) ⟨.int xs.length,H,I.tok _,⟨_,by simp only [Hn];rw [hlen]⟩,q⟩
 | _=>exact (show False from e).elim
end
end
section
structure ObjM (h:Heap) (x dx C:Addr) (mA:Str->Option hH):Prop where
 obj:h.get? x=some (OV C dx)
 ns:h.Ns1 dx mA
 ne:dx≠x
theorem tU {h:Heap} {dx:Addr} {mA:Str->Option hH} (n:h.Ns1 dx mA):∃ od,h.get? dx=some od /\ ∀ name,Pa name od=some (mA name):=by
 obtain ⟨o,es,ep,ho,hd,B,_,hm⟩:=n;refine ⟨o,ho,fun name=>?_⟩;have e:=hm name;unfold nsFind findBy at e;rw [<- Array.find?_toList] at e;unfold Pa;rw [hd];dsimp only
 split
 ·rename_i y q;rw [q] at e;exact congrArg some e
 ·rename_i q;rw [q] at e;have a:es.toList.any (·.refKey)=false:=by
   rw [QA];intro y F;obtain ⟨z,t,j⟩:=B y (Array.mem_toList_iff.mp F);simp [DictEntry.refKey,j]
  have a' : ¬ es.toList.any (·.refKey)=true:=by rw [a];exact Hi
  rw [if_neg a'];exact congrArg some e
theorem ObjM.look {h:Heap} {x dx C:Addr} {mA:Str->Option hH} (I:ObjM h x dx C mA):∃ od,PySem.W.InstAt h x (OV C dx) C (some od) /\ ∀ name,Pa name od=some (mA name) :=
 let ⟨od,ho,j⟩:=tU I.ns
 ⟨od,⟨I.obj,rfl,rfl,ho⟩,j⟩
theorem SV {v:V} {o:Option hH} (r:RelO (some v) o):∃ u,o=some u/\RelV v u:=by
 cases o with
 | none=>exact (show False from r).elim
 | some u=>exact ⟨u,rfl,r⟩
section
variable {P:HB} {w:HX} {H H':Hp} {h h':Heap} {a C dx:Addr} {fs fs':List (Str×V)}
theorem A0 (hok:HOk P w H h) (e:H a=some (.ins C dx fs)):∃ mA,ObjM h a dx C mA/\(∀ f,RelO (fs.lookup f) (mA f))/\PySem.Within mA (fs.map (·.1))/\fs.length<=1000/\H dx=some (.own a):=by
 obtain ⟨d,z,ne,ob,mA,n,r,q⟩:=(show ObjOk P w H h a (.ins C dx fs) from hok a _ e);exact ⟨mA,⟨ob,n,ne⟩,r,q,z,d⟩
end
structure Cls (K:Frag) (C:Addr):Prop where
 pg:R7 K C Str.empty=true
 hd:PySem.W.hasDictIn K C=true
 po:PySem.W.plainOver K C=true
 sa:PySem.W.findIn K (.ref C) "__setattr__" = some (some (.builtin "object.__setattr__"))
theorem Cls.get {K:Frag} {C:Addr} (c:Cls K C) (f:Str):R7 K C f=true:=c.pg
section
variable {X:Cx} {pins:List (Addr×Obj)} {σ:St} {H:Hp} {s:tv} {A:I0} {E:hH->tv->Prop} {Q:hH->tv->Prop} {c:hH} {b:Bool}
inductive cu (K:Frag) (H:Hp):V->hH->Prop where
 | non:cu K H .non (.type "NoneType")
 | bl (x:Bool):cu K H (.bl x) (.type "bool")
 | int (i:Int):cu K H (.int i) (.type "int")
 | str (x:Str):cu K H (.str x) (.type "str")
 | flt (x:UInt64):cu K H (.flt x) (.type "float")
 | lst {a:Addr} {xs:List V} (e:H a=some (.lst xs)):cu K H (.ref a) (.type "list")
 | frz {a:Addr} {o:Obj} {xs:List V} (e:H a=some (.frz o (.lst xs))):cu K H (.ref a) (.type "list")
 | tup {a:Addr} {xs:List V} (e:SqT K H a xs):cu K H (.ref a) (.type "tuple")
 | dK {a:Addr} {kvs:List (Key×V)} (e:H a=some (.dK kvs)):cu K H (.ref a) (.type "dict")
 | dT {a:Addr} {kvs:List (List Key×V)} (e:H a=some (.dT kvs)):cu K H (.ref a) (.type "dict")
 | ins {a C dx:Addr} {fs:List (Str×V)} (e:H a=some (.ins C dx fs)) (cl:Cls K C) (ha:PySem.W.findIn K (.ref C) "__class__" = some (some (.builtin "object.__class__")))
    (hn:PySem.W.specialIn K (.builtin "object.__class__") "__get__" = some (some (.builtin "getset_descriptor.__get__"))) (htk:PySem.W.takesIn K (.builtin "object.__class__")=some true)
    (hm:PySem.W.mroIn K C (.type "object")=some true):cu K H (.ref a) (.ref C)
theorem tV {x:V} {u t:hH} (I:Inv X pins σ H s) (rx:RelV x u) (ty:cu X.K H x t) (e:PySem.W.kitOne X.K t c=some b) (h:∀ tk,Q (.bool b) { s with toks:=tk }) :
 Hh (model X.prog X.w) A (call (.builtin "isinstance") [u,c]) Q E s:=by
 cases ty with
 | non=>cases (show u=Jw from rx);exact Jc PySem.W.kitx_none I.kIn Kf e (fun z=>nomatch z) h
 | bl y=>cases (show u=OC y from rx);exact Jc PySem.W.kitx_bool I.kIn Kf e (fun z=>nomatch z) h
 | int i=>obtain ⟨t,q⟩:=(show ∃ t,u=R4 i t from rx);cases q;exact Jc PySem.W.kitx_int I.kIn Kf e (fun z=>nomatch z) h
 | str y=>obtain ⟨t,q⟩:=(show ∃ t,u=R6 y t from rx);cases q;exact Jc PySem.W.kitx_str I.kIn Kf e (fun z=>nomatch z) h
 | flt y=>obtain ⟨t,q⟩:=(show ∃ t,u=Value.float y t from rx);cases q;exact Jc PySem.W.kitx_float I.kIn Kf e (fun z=>nomatch z) h
 | @lst a xs ea =>
  cases (show u=Ht a from rx)
  obtain ⟨_,_,n,_,h1⟩:=(show ObjOk X.prog X.w H s.heap a (.lst xs) from I.hok a _ ea);exact Jc QB I.kIn ⟨_,h1,rfl⟩ e (fun z=>nomatch z) h
 | @frz a ob xs ea =>
  cases (show u=Ht a from rx)
  obtain ⟨_,_,_,n,_,h1⟩:=(show ObjOk X.prog X.w H s.heap a (.frz ob (.lst xs)) from I.hok a _ ea);exact Jc QB I.kIn ⟨_,h1,rfl⟩ e (fun z=>nomatch z) h
 | @tup a xs ea =>
  cases (show u=Ht a from rx)
  obtain ⟨_,_,p,_⟩:=I.tuple ea;obtain ⟨o,h1,h2,_⟩:=p;exact Jc PySem.W.kitx_tuple I.kIn ⟨o,h1,h2⟩ e (fun z=>nomatch z) h
 | @dK a kvs ea =>
  cases (show u=Ht a from rx)
  obtain ⟨_,_,vs,_,p⟩:=(show ObjOk X.prog X.w H s.heap a (.dK kvs) from I.hok a _ ea);obtain ⟨o,es,ep,h1,h2,_⟩:=p;exact Jc QC I.kIn ⟨o,h1,h2.1⟩ e (fun z=>nomatch z) h
 | @dT a kvs ea =>
  cases (show u=Ht a from rx)
  obtain ⟨_,_,xs,_,o,es,ep,h1,h2,_⟩:=(show ObjOk X.prog X.w H s.heap a (.dT kvs) from I.hok a _ ea);exact Jc QC I.kIn ⟨o,h1,h2.1⟩ e (fun z=>nomatch z) h
 | @ins a C dx fs ea cl ha hn htk hm =>
  cases (show u=Ht a from rx)
  obtain ⟨mA,O,_⟩:=A0 I.hok ea;obtain ⟨od,J,_⟩:=O.look;exact Jc (PySem.W.kitx_own (cl.get _) cl.hd ha hn htk hm) I.kIn J e (fun z=>nomatch z) h
end
end
section
structure Room (k:Nat) (A:I0):Prop where
 hd:A.handled=none
 dp:A.depth+3*k+5 < recursionLimit
 un:A.units+16*k+200 < Js
theorem Room.deeper {k:Nat} {A:I0} (r:Room (k+1) A) (env:Env):Room k (A.deeper env) :=
 ⟨r.hd,by have:=r.dp;show A.depth+1+3*k+5 < _;omega,by have:=r.un;show A.units+3+16*k+200 < _;omega⟩
theorem Room.depth {k:Nat} {A:I0} (r:Room k A):A.depth < recursionLimit:=by have:=r.dp;omega
theorem Room.units {k:Nat} {A:I0} (r:Room k A):A.units+64 < Js:=by have:=r.un;omega
noncomputable def BW:TA:=fun _ H Q=>Q [] H
noncomputable def zi (ta:TE) (tr:TA):TA:=fun σ H Q=>ta σ H fun x H1=>tr σ H1 fun xs H2=>Q (x::xs) H2
section
variable {X:Cx} {e:Expr} {es:List Expr} {te:TE} {t:TA} {pos:Pos}
theorem tW:PA X [] BW:=fun _ _ _ _ H Q I h=>Md ⟨[],H,I,.nil,h⟩
theorem kz (j:PE X e te) (q:PA X es t) (hs:HP (e::es) X.env=(false,eval e X.env)::HP es X.env:=by rfl):PA X (e::es) (zi te t):=by
 intro pos pins s σ H Q I h;rw [hs];show Hh _ _ (spliced ((false,eval e X.env)::LM pos (HP es X.env))) _ _ s;refine Kg (thn (j pins s σ H _ I h) fun u s1 ⟨x,H1,z,B,F⟩=>?_);exact thn (q pos pins s1 σ H1 _ z F) fun us s2 ⟨xs,H2,G,J,L⟩=>⟨x::xs,H2,G,.cons B J,L⟩
noncomputable def Ew (t:TA):TE:=fun σ H Q=>t σ H fun xs H1=>xs.length<=Hd /\ ∀ p,H1 p=none->Q (.ref p) (upd H1 p (.tup xs))
noncomputable def Ex (t:TA):TE:=fun σ H Q=>t σ H fun xs H1=>xs.length<=Hd /\ ∀ p,H1 p=none->Q (.ref p) (upd H1 p (.lst xs))
theorem BX {B} (h:PA X es t):PE X (.Tuple es B pos) (Ew t):=by
 intro pins s σ H Q I hq;refine wpAny_Tuple_spliced (thn (h pos pins s σ H _ I hq) fun us s1 ⟨xs,H1,j,r,z,q⟩=>⟨by rw [<- r.length];exact z,?_⟩)
 have hf:H1 s1.heap.objs.size=none:=j.hok.fresh (Hg _);refine ⟨.ref s1.heap.objs.size,upd H1 s1.heap.objs.size (.tup xs),j.laid (t':=s1.toks) (fun b u e=>h6 _ e) (Hg _) ?_,rfl,q _ hf⟩;exact ⟨z,us,r,⟨_,GZ _ rfl,rfl,_,rfl⟩⟩
theorem BY (h:PA X es t):PE X (.List es pos) (Ex t):=by
 intro pins s σ H Q I hq;refine wpAny_List_spliced (thn (h pos pins s σ H _ I hq) fun us s1 ⟨xs,H1,j,r,z,q⟩=>⟨by rw [<- r.length];exact z,?_⟩)
 have hf:H1 s1.heap.objs.size=none:=j.hok.fresh (Hg _);refine ⟨.ref s1.heap.objs.size,upd H1 s1.heap.objs.size (.lst xs),j.laid (t':=s1.toks) (fun b u e=>h6 _ e) (Hg _) ?_,rfl,q _ hf⟩;exact ⟨z,us,0,r,GZ _ rfl⟩
end
noncomputable abbrev Sp:=List V->Hp->VK->XK->Prop
noncomputable abbrev CXT:=List Env->Hp->tv->XK->hH->tv->Prop
structure rN (P:HB) (w:HX) (K:Frag) (mg:Str->Option hH) (base:Heap) (A:I0) (outer:List Env) (s:tv) (H:Hp):Prop where
 frames:A.frames=some outer
 mod:Mod K mg base
 bs:∀ b o,base.get? b=some o->s.heap.get? b=some o/\H b=none
 bsz:base.objs.size<=s.heap.objs.size
 funs:s.heap.FunFrames base outer
 frf:∀ b∈frs outer,H b=none
 hok:HOk P w H s.heap
 bare:NX s.gens
def CE (outer:List Env) (P:HB) (w:HX) (H:Hp) (s:tv) (Q:VK) (u:hH) (s':tv):Prop :=
 ∃ v H',s'.os=s.os/\NX s'.gens/\Un (frs outer) [] H H' s.heap s'.heap/\HOk P w H' s'.heap/\RelV v u/\Q v H'
def CR (CX:CXT) (outer:List Env) (P:HB) (w:HX) (H:Hp) (s:tv) (Q:VK) (E:XK) (r:Qj) (s':tv):Prop :=
 match r with
 | .ok (.ret u)=>CE outer P w H s Q u s'
 | .ok _=>False
 | .error e=>CX outer H s E e s'
structure dP (P:HB) (w:HX) (K:Frag) (mg:Str->Option hH) (base:Heap) (CX:CXT) (k:Nat) (f:Addr) (fd:Li) (ps:List Str) (sp:Sp):Prop where
 len:∀ vs H Q E,sp vs H Q E->vs.length=ps.length
 run:∀ (A:I0) (outer:List Env) (s:tv) (H:Hp) (args:Args) (us:List hH) (vs:List V) (Q:VK) (E:XK),Room k A->rN P w K mg base A outer s H->QE s fd args (ps.zip us)->Vals vs us->sp vs H Q E ->
  Le (model P w) A (.call (.ref f) args) (CR CX outer P w H s Q E) s
section
variable {X:Cx} {pins:List (Addr×Obj)} {σ:St} {H:Hp} {s s':tv}
theorem Inv.env0 (I:Inv X pins σ H s):rN X.prog X.w X.K X.mg X.base X.A X.stack s H :=
 ⟨I.ok.frames,I.ok.mod,I.bs,Jp I.ok.bsz I.sz,I.stack,I.stkFree,I.hok,I.bare⟩
theorem Inv.after {Q:VK} {u:hH} (I:Inv X pins σ H s) (h:CE X.stack X.prog X.w H s Q u s'):EP X pins σ Q u s':=by
 obtain ⟨v,H',os,bare,un,hok,r,q⟩:=h;obtain ⟨j,g,d,t,os'⟩:=s';obtain rfl:os'=s.os:=os;exact ⟨v,H',I.call (h':=j) (g':=g) (d':=d) (t':=t) (ch:=[]) un hok bare (fun b z=>absurd z (by simp)),r,q⟩
end
noncomputable def zj (sp:Sp) (dvs:List V) (E:XK) (t:TA):TE:=fun σ H Q=>t σ H fun vs H1=>sp (vs++dvs) H1 Q E
def Binds (K:Frag) (fd:Li) (ps:List Str) (ds:List hH):Prop :=
 ∀ (s:tv) (us:List hH),K.In s.heap->(us++ds).length=ps.length->QE s fd ⟨us,[]⟩ (ps.zip (us++ds))
theorem Binds.all {K:Frag} {fd:Li} {ps:List Str} (h:∀ us:List hH,us.length=ps.length->bindArgs fd ⟨us,[]⟩=pure (ps.zip us)):Binds K fd ps []:=fun s us _ j=>by
 rw [IU] at j ⊢;exact .of_eq (h us j)
def jo (CX:CXT) (X:Cx) (E:XK):Prop:=∀ (pins:List (Addr×Obj)) (σ:St) (H:Hp) (s:tv) (e:hH) (s':tv),Inv X pins σ H s->CX X.stack H s E e s'->X.xe e s'
section
variable {X:Cx} {CX:CXT} {k:Nat} {f C:Addr} {fd:Li} {ps:List Str} {sp:Sp} {dvs:List V} {ds:List hH} {E:XK} {x m:Str} {p pos apos:Pos} {e o:Expr} {es:List Expr} {ta:TE} {t:TA}
theorem tX {pins:List (Addr×Obj)} {σ:St} {H:Hp} {s:tv} {Q:VK} {us:List hH} {vs:List V} (F:dP X.prog X.w X.K X.mg X.base CX k f fd ps sp) (z:Room k X.A) (B:Binds X.K fd ps ds) (hd:Vals dvs ds) (hx:jo CX X E)
 (I:Inv X pins σ H s) (r:Vals vs us) (h:sp (vs++dvs) H Q E):Hh (model X.prog X.w) X.A (call (.ref f) us) (EP X pins σ Q) X.xe s:=by
 have q:Vals (vs++dvs) (us++ds):=r.append hd;have G:(us++ds).length=ps.length:=by rw [<- q.length];exact F.len _ _ _ _ h
 refine wpAny_call (Ls (F.run X.A X.stack s H ⟨us,[]⟩ (us++ds) (vs++dvs) Q E z I.env0 (B s us I.kIn G) q h) fun r s' j=>?_)
 cases r with
 | error e=>exact hx pins σ H s e s' I j
 | ok fl =>
   cases fl with
   | ret u=>exact I.after j
   | next=>exact False.elim j
   | brk=>exact False.elim j
   | cont=>exact False.elim j
theorem A1 (F:dP X.prog X.w X.K X.mg X.base CX k f fd ps sp) (G:Room k X.A) (J:Gl X x) (hm:X.mg x=some (.ref f)) (L:Lj X.K (.ref f)=true) (O:Binds X.K fd ps ds) (hd:Vals dvs ds) (hx:jo CX X E)
 (U:PA X (e::es) t) (j:(x==("__debug__":Str))=false:=by decide) (he:HP (e::es) X.env=(false,eval e X.env)::HP es X.env:=by rfl) (z:(LM pos (HP es X.env)).any (·.1)=false:=by rfl) :
 PE X (.Call (.Name x p) (e::es) [] pos) (zj sp dvs E t):=by
 intro pins s σ H Q I h;refine KR (qt I J hm ?_ j);refine PySem.W.callWith_K (h₀:=X.base) I.ok.mod.kin L (thn (U pos pins s σ H _ I h) fun us s1 ⟨vs,H1,B,r,q⟩=>⟨B.kIn,?_⟩) he z;exact tX F G O hd hx B r q
theorem wM (F:dP X.prog X.w X.K X.mg X.base CX k f fd ps sp) (q:Room k X.A) (z:Gl X x) (hm:X.mg x=some (.ref f)) (B:Lj X.K (.ref f)=true) (G:Binds X.K fd ps ds) (hd:Vals dvs ds) (hx:jo CX X E)
 (j:(x==("__debug__":Str))=false:=by decide):PE X (.Call (.Name x p) [] [] pos) (zj sp dvs E BW):=by
 intro pins s σ H Q I h;refine KR (qt I z hm ?_ j);exact PySem.W.callWith_K0 I.kIn B (tX (us:=[]) F q G hd hx I .nil h)
end
structure gK (N P:List Str) (sc:Scope):Prop where
 kind:sc.kind = .function
 co:sc.isCoroutine=false
 gen:sc.isGenerator=false
 nd:N.Nodup
 pre:N.take P.length=P
 par:∀ x∈P,sc.names.lookup x=some .local∨sc.names.lookup x=some .cell
 nofree:∀ y∈sc.names,y.2 ≠ .free
theorem ll {Jh:Str->Option KH} {x:Str}:∀ {binds:List (Str×hH)} {m:Str->Option hH},(∀ v,(x,v)∉binds)->S4 Jh binds m x=m x
 | [],_,_=>rfl
 | (n,v)::r,m,h=>by
  unfold S4;rw [ll fun w hw=>h w (HM _ hw)]
  split
  ·have:x≠n:=by rintro rfl;exact h v Ij
   simp [this]
  ·rfl
theorem lm {Jh:Str->Option KH} {x:Str}:∀ {binds:List (Str×hH)} {m:Str->Option hH},(∀ v,(x,v)∉binds)->S8 Jh binds m x=m x
 | [],_,_=>rfl
 | (n,v)::r,m,h=>by
  unfold S8;rw [lm fun w hw=>h w (HM _ hw)]
  split
  ·rfl
  ·have:x≠n:=by rintro rfl;exact h v Ij
   simp [this]
theorem lq {Jh:Str->Option KH} {x:Str} {v:hH}:∀ {P:List Str} {vs:List hH} {i:Nat} {m:Str->Option hH},P.Nodup->P[i]? = some x->vs[i]? = some v->Jh x=some .local ->
 S4 Jh (P.zip vs) m x=some v
 | [],_,_,_,_,h,_,_=>by simp at h
 | _::_,[],_,_,_,_,h,_=>by simp at h
 | p::P,w::vs,0,m,nd,h1,h2,j=>by
   simp at h1 h2;subst h1;subst h2;show S4 Jh ((p,w)::P.zip vs) m p=_;unfold S4;rw [ll fun v q=>(Ip.mp nd).1 (LH q).1,if_pos j];simp
 | p::P,w::vs,i+1,m,nd,h1,h2,j=>by
   show S4 Jh ((p,w)::P.zip vs) m x=_;unfold S4;exact lq (i:=i) (Ip.mp nd).2 (by simpa using h1) (by simpa using h2) j
theorem lr {Jh:Str->Option KH} {x:Str} {v:hH}:∀ {P:List Str} {vs:List hH} {i:Nat} {m:Str->Option hH},P.Nodup->P[i]? = some x->vs[i]? = some v->Jh x≠some .local ->
 S8 Jh (P.zip vs) m x=some v
 | [],_,_,_,_,h,_,_=>by simp at h
 | _::_,[],_,_,_,_,h,_=>by simp at h
 | p::P,w::vs,0,m,nd,h1,h2,j=>by
   simp at h1 h2;subst h1;subst h2;show S8 Jh ((p,w)::P.zip vs) m p=_;unfold S8;rw [lm fun v q=>(Ip.mp nd).1 (LH q).1,if_neg j];simp
 | p::P,w::vs,i+1,m,nd,h1,h2,j=>by
   show S8 Jh ((p,w)::P.zip vs) m x=_;unfold S8;exact lr (i:=i) (Ip.mp nd).2 (by simpa using h1) (by simpa using h2) j
noncomputable def cQ (N:List Str) (vs:List V):St:=vs.map some++Ha (N.length - vs.length) none
noncomputable def iM (CX:CXT) (P:HB) (w:HX) (K:Frag) (mg:Str->Option hH) (base:Heap) (N:List Str) (qual:Str) (scope:Scope) (f:Addr) (cd:hH) (A:I0) (outer:List Env) (s:tv) (H:Hp) (E:XK):Cx where
 prog:=P
 w:=w
 K:=K
 mg:=mg
 base:=base
 A:=A.deeper (Pb qual scope s.heap.objs.size f cd)
 N:=N
 s₀:=s
 H₀:=H
 env:=Pb qual scope s.heap.objs.size f cd
 outer:=outer
 stack:=Pb qual scope s.heap.objs.size f cd::outer
 ex:=[]
 calm:=true
 fn:=fun _=>true
 pn:=[]
 xe:=fun e s'=>Hh (model P w) (A.deeper (Pb qual scope s.heap.objs.size f cd)) (leaving (Pb qual scope s.heap.objs.size f cd) e) (fun _ s''=>CX outer H s E e s'') (fun e' s''=>CX outer H s E e' s'') s'
theorem nB {sc:Scope} {n:Nat} {x:Str} (h:sc.names.lookup x=some .cell):∃ c,(JT n sc.names []).lookup x=some c:=by
 have q:=Me sc.names n [] (.inl h);exact Kv.mp q
theorem tY {CX:CXT} {P:HB} {w:HX} {K:Frag} {mg:Str->Option hH} {base:Heap} {N ps:List Str} {qual:Str} {scope:Scope} {f:Addr} {cd:hH} {A:I0} {outer:List Env} {s s1:tv} {H:Hp} {E:XK} {us:List hH} {vs:List V}
 (S:gK N ps scope) (hd:A.handled=none) (j:rN P w K mg base A outer s H) (U:vs.length=ps.length) (r:Vals vs us)
 (x:InCallC s s.heap.objs.size (S4 (Pb qual scope s.heap.objs.size f cd).kindOf (ps.zip us) fun _=>none) (JT (s.heap.objs.size+1) scope.names []) (S8 (Pb qual scope s.heap.objs.size f cd).kindOf (ps.zip us) fun _=>none) s1) :
 Inv (iM CX P w K mg base N qual scope f cd A outer s H E) [] (cQ N vs) H s1:=by
 have L:ps.length<=N.length:=by have:=congrArg MX S.pre;rw [HR] at this;omega
 obtain ⟨h1,tk,rfl,G⟩:=x.done;have noA:∀ b:Addr,b∉(iM CX P w K mg base N qual scope f cd A outer s H E).ex:=fun b z=>absurd (show b∈([]:List Addr) from z) (by simp)
 refine ⟨⟨j.mod,S.kind,rfl,rfl,Hg _,fun y z c h1 h2=>?_,fun y B=>?_,fun y c _ h=>?_,fun _=>hd,Around.frames_deeper j.frames,.inr ⟨rfl,rfl⟩,fun b z=>absurd z (noA b),j.bs,j.bsz,fun b _ _=>noA b,fun b z=>absurd z (noA b),j.funs,j.frf⟩,
  rfl,j.bare,Un.kept G,⟨_,x.toInCall.ns,fun i y v h1 h2 Y=>?_⟩,fun y c h=>⟨_,x.cell y c h⟩,j.hok.fresh (Hg _),fun y c h=>?_,fun p F=>absurd (show p∈([]:List (Addr×Obj)) from F) (by simp),j.hok.kept G,?_⟩
 ·exact name_of_addr x.apart (Ji h1) (Ji h2)
 ·have B:scope.names.lookup y=some .cell∨scope.names.lookup y=some .free:=B
  rcases B with B | B
  ·exact nB B
  ·exact absurd rfl (S.nofree _ (Ji B))
 ·exact Lr (x.above y c (Ji h))
 ·have hi:i < vs.length:=by
   unfold cQ at h2
   by_cases hi:i < vs.length
   ·exact hi
   ·rw [D1 (by simpa using hi)] at h2
    rw [LW] at h2
    split at h2 <;> cases h2
  have O:vs[i]? = some v:=by
   unfold cQ at h2;rw [Hq (by simpa using hi),HG] at h2
   cases e:vs[i]? with
   | none=>rw [e] at h2;cases h2
   | some a=>rw [e] at h2;cases h2;rfl
  obtain ⟨u,J,rv⟩:=r.get O;have F:ps[i]? = some y:=by
   rw [<- S.pre,Lz (by omega)];exact h1
  have ndP:ps.Nodup:=by rw [<- S.pre];exact S.nd.sublist (List.take_sublist _ _)
  refine ⟨u,rv,?_⟩
  rcases S.par y (HH F) with k | k
  ·exact .inl ⟨k,lq ndP F J k⟩
  ·obtain ⟨c,e⟩:=nB (n:=s.heap.objs.size+1) k;refine .inr ⟨.inl k,c,e,?_⟩;have q:=x.cell y c e;rw [lr ndP F J (by show scope.names.lookup y≠_;rw [k];decide)] at q
   exact q
 ·exact j.hok.fresh (Lr (x.above y c (Ji h)))
 ·unfold cQ;show _=N.length;rw [H9,H8,Kk];omega
theorem DI {CX:CXT} {P:HB} {w:HX} {K:Frag} {mg:Str->Option hH} {base:Heap} {k:Nat} {f:Addr} {name qual:Str} {params:Arguments} {body:List Stmt} {scope:Scope} {dV kV doc pm cdv ct oc:hH} {an od:Option Addr}
 {osl:Array (Option hH)} {N ps:List Str} {sp:Sp} (lk:K.lookup f=some ⟨oc,od,.func (KS name qual params body scope dV kV doc pm an cdv ct),osl⟩) (G:NH K cdv qual=true) (S:gK N ps scope)
 (len:∀ vs H Q E,sp vs H Q E->vs.length=ps.length)
 (j:∀ (A:I0) (outer:List Env) (s:tv) (H:Hp) (vs:List V) (Q:VK) (E:XK),Room k (A.deeper (Pb qual scope s.heap.objs.size f cdv))->sp vs H Q E ->
   ∃ t,PSs (iM CX P w K mg base N qual scope f cdv A outer s H E) body t/\t { nx:=fun _ H'=>Q .non H',rt:=Q } (cQ N vs) H) :
 dP P w K mg base CX (k+1) f (KS name qual params body scope dV kV doc pm an cdv ct) ps sp:=by
 refine ⟨len,fun A outer s H args us vs Q E L B O r F=>?_⟩;have U:=len _ _ _ _ F;have KX:K.In s.heap:=B.mod.kin.keeps fun b o e=>(B.bs b o e).1;have lim:s.heap.NoLimit:=B.mod.nolimit.keeps fun b o e=>(B.bs b o e).1;have z:∀ y∈ps.zip us,scope.names.lookup y.1=some .local∨(scope.names.lookup y.1=some .cell/\((JT (s.heap.objs.size+1) scope.names []).lookup y.1).isSome=true):=fun ⟨n,v⟩ hy=>by
  rcases S.par n (LH hy).1 with q | q
  ·exact .inl q
  ·exact .inr ⟨q,Me _ _ _ (.inl q)⟩
 refine codeAny_call_function L.depth (KX _ _ lk) rfl S.co S.gen rfl (PySem.W.codeRec_of KX G) (O _ _ _ _ ?_);refine wpAny_newFunctionEnv_cells S.kind z fun env he s1 x=>?_;subst he;refine ⟨lim.keeps x.toInCall.keep,codeAny_func ?_⟩;obtain ⟨t,Y,Z⟩:=j A outer s H vs Q E (L.deeper _) F;have I:Inv (iM CX P w K mg base N qual scope f cdv A outer s H E) [] (cQ N vs) H s1:=tY S L.hd B U r x;refine IK (Y [] s1 (cQ N vs) H _ I Z) (fun fl s' hs=>?_) fun e s' hs=>hs;have fin:∀ {σ':St} {H':Hp} {v:V} {u:hH},Inv (iM CX P w K mg base N qual scope f cdv A outer s H E) [] σ' H' s'->RelV v u->Q v H'->CE outer P w H s Q u s' :=
  fun {σ' H' v u} J rv q=>⟨v,H',J.os,J.bare,J.base,J.hok,rv,q⟩
 cases fl with
 | ret u =>
   obtain ⟨v,σ',H',J,rv,q⟩:=hs;exact fin J rv q
 | next =>
   obtain ⟨σ',H',J,q⟩:=hs;exact fin (v:=V.non) (u:=Jw) J rfl q
 | brk =>
   obtain ⟨_,_,_,q⟩:=hs;exact False.elim q
 | cont =>
   obtain ⟨_,_,_,q⟩:=hs;exact False.elim q
end
section
section
variable {X:Cx} {x:Str} {p pos:Pos} {e:Expr} {es:List Expr} {t:TA} {id T:String} {r:List V->Hp->VK->Prop}
noncomputable def tCB (r:List V->Hp->VK->Prop) (t:TA):TE:=fun σ H Q=>t σ H fun vs H1=>r vs H1 Q
theorem ci (z:CallR X (.builtin id) r) (B:Gl X x) (hm:X.mg x=none) (F:KQ x=some (.builtin id)) (G:PA X (e::es) t) (J:x ≠ "__name__":=by decide) (j:(x==("__debug__":Str))=false:=by decide)
 (he:HP (e::es) X.env=(false,eval e X.env)::HP es X.env:=by rfl) (q:(LM pos (HP es X.env)).any (·.1)=false:=by rfl):PE X (.Call (.Name x p) (e::es) [] pos) (tCB r t):=by
 intro pins s σ H Q I h;refine KR (dO I B hm F ?_ J j);exact Mx (thn (G pos pins s σ H _ I h) fun us s1 ⟨vs,H1,L,O,U⟩=>z pins s1 σ H1 vs us Q L O U) he q
theorem cV (z:CallR X (.type T) r) (B:Gl X x) (hm:X.mg x=none) (F:KQ x=some (.type T)) (G:PA X (e::es) t) (J:x ≠ "__name__":=by decide) (j:(x==("__debug__":Str))=false:=by decide)
 (he:HP (e::es) X.env=(false,eval e X.env)::HP es X.env:=by rfl) (q:(LM pos (HP es X.env)).any (·.1)=false:=by rfl):PE X (.Call (.Name x p) (e::es) [] pos) (tCB r t):=by
 intro pins s σ H Q I h;refine KR (dO I B hm F ?_ J j);exact K6 (thn (G pos pins s σ H _ I h) fun us s1 ⟨vs,H1,L,O,U⟩=>z pins s1 σ H1 vs us Q L O U) he q
end
end
end L2
namespace HT
open PySem PyProof.Rows
noncomputable def lexLt:List Int->List Int->Bool
 | [],[]=>false
 | [],_::_=>true
 | _::_,[]=>false
 | x::xs,y::ys=>if x=y then lexLt xs ys else decide (x < y)
theorem lexLt_cons (x y:Int) (xs ys:List Int):lexLt (x::xs) (y::ys)=if x=y then lexLt xs ys else decide (x < y):=rfl
theorem mM:lexLt [] []=false:=rfl
theorem kA (y:Int) (ys:List Int):lexLt [] (y::ys)=true:=rfl
theorem kB (x:Int) (xs:List Int):lexLt (x::xs) []=false:=rfl
theorem wN (A:I0) (s:tv) (a:Int) (t:Tok) (c:Int) (u:Tok):∃ e,S9 A s (.int a t) (.int c u) e/\(e=true↔a=c) :=
 ⟨(a==c),Qk a t c u,by simp⟩
theorem wP (A:I0) (s:tv) (a:Int) (t:Tok) (c:Int) (u:Tok) (prog:HB) (w:HX) (E:hH->tv->Prop) (Q:hH->tv->Prop) (h:Q (.bool (decide (a < c))) s) :
 Hh (model prog w) A (MY .Lt (.int a t) (.int c u)) Q E s :=
 (PyProof.Rows.lt_int h:Hh (model prog w) A (IW .Lt (.int a t) (.int c u)) Q E s)
section
open PySem.SeqAt
open PySem.AutoSeq1 (wpAny_loadPart')
open PySem.MeetsSeq PySem.MeetsSeq2 PySem.MeetsSeq3
theorem mN (l b:Addr) (items j:Array hH) (n n2:Nat) (dd Z:Option Addr) (sl ES:Array (Option hH)) (ns ms:List Int) (hi:LI items.toList ns) (hj:LI j.toList ms) :
 Meets (IS.«tuple.__lt__» ⟨[.ref l,.ref b],[]⟩)
  (fun _ R s=>s.heap.get? l=some { cls:=.type "tuple",dict:=dd,data:=.seq items n,slots:=sl }/\s.heap.get? b=some { cls:=.type "tuple",dict:=Z,data:=.seq j n2,slots:=ES } /\
    R (.ok (.ret (.bool (lexLt ns ms)))) s) :=
 .of_wp fun prog w A R s h=>by
  obtain ⟨Y,g,d,tk,os⟩:=s;obtain ⟨hl,hb,h⟩:=h;have f2:=AutoSeq1.sub_tuple_tuple;have z1:items.size=ns.length:=by rw [<- hi.length];simp
  have z2:j.size=ms.length:=by rw [<- hj.length];simp
  wp_walk using JV hl,JV hb,Oi _ (fun rest b s'=>b.1=none/\s'=⟨Y,g,d,tk,os⟩ /\ ∃ (vs ws:List hH) (ns' ms':List Int),rest=vs.zip ws /\
   LI vs ns'/\LI ws ms'/\ns'.length+j.size=ms'.length+items.size/\R (.ok (.ret (.bool (lexLt ns' ms')))) ⟨Y,g,d,tk,os⟩) _
  case turn =>
   rintro ⟨y,x⟩ rest b s' ⟨G,rfl,vs,ws,ns',ms',hz,J,z,hlen,B⟩
   cases J with
   | nil=>rw [List.zip_nil_left] at hz;cases hz
   | cons a t O =>
     cases z with
     | nil=>rw [List.zip_nil_right] at hz;cases hz
     | cons c u U =>
       rw [NI] at hz
       injection hz with hyx L
       injection hyx with hy hx
       subst hy hx;rw [lexLt_cons] at B;simp only [Io] at hlen;obtain ⟨e,he,F⟩:=wN A.in1 ⟨Y,g,d,tk,os⟩ a t c u;refine gV (he prog w _ _ ?_)
       cases e with
       | true =>
         rw [if_pos (F.mp rfl)] at B
         wp_walk
         exact ⟨rfl,rfl,_,_,_,_,L,O,U,by omega,B⟩
       | false =>
         rw [if_neg (fun q=>absurd (F.mpr q) Hi)] at B;have ET:=wP A.in1 ⟨Y,g,d,tk,os⟩ a t c u prog w
         wp_walk using ET
         exact ⟨_,rfl,by simpa using B⟩
  case fin =>
   rintro ⟨b1,b2⟩ s' ⟨G,rfl,vs,ws,ns',ms',hz,J,z,hlen,B⟩;simp only at G;subst G;have hv:lexLt ns' ms'=decide (items.size < j.size):=by
    cases J with
    | nil =>
      cases z with
      | nil =>
        simp only [Jd] at hlen;rw [mM];exact (decide_eq_false (by omega)).symm
      | cons c u hw =>
        simp only [Jd,Io] at hlen;rw [kA];exact (decide_eq_true (by omega)).symm
    | cons a t hv =>
      cases z with
      | nil =>
        simp only [Jd,Io] at hlen;rw [kB];exact (decide_eq_false (by omega)).symm
      | cons c u hw =>
        rw [NI] at hz
        cases hz
   rw [hv] at B
   wp_walk
   exact ⟨_,rfl,by simpa [KD] using B⟩
  case h =>
   exact ⟨rfl,rfl,items.toList,j.toList,ns,ms,rfl,hi,hj,by omega,h⟩
end
section
variable {prog:HB} {w:HX} {A:I0} {E:hH->tv->Prop} {s:tv}
theorem lt_tupInts {l b:Addr} {items j:Array hH} {ns ms:List Int} {Q:hH->tv->Prop} (O:RB s.heap l items) (U:RB s.heap b j) (hi:LI items.toList ns) (Y:LI j.toList ms)
 (Z:A.units < Js) (h:Q (.bool (lexLt ns ms)) s):Hh (model prog w) A (IW .Lt (.ref l) (.ref b)) Q E s:=by
 obtain ⟨⟨cls,dd,data,sl⟩,ho,J,n,hd⟩:=id O;obtain ⟨⟨L,B,data2,G⟩,q,z,n2,hd2⟩:=id U;simp only at J hd z hd2;subst J hd z hd2;exact richCompare_meets_room (op:=.Lt) ⟨_,ho,rfl⟩ ⟨_,q,rfl⟩ PySem.F.slot_tuple_lt PySem.F.entry_tuple_lt (PySem.F.args_tuple_lt_2 _ _) (mN l b items j n n2 dd B sl G ns ms hi Y)
  ⟨ho,q,show OC (lexLt ns ms)≠Pc/\Q (.bool (lexLt ns ms)) s from ⟨(fun x=>nomatch x),h⟩⟩ Z
theorem cat_tup {t b:Addr} {vs ws:List hH} {Q:hH->tv->Prop} (U:RB s.heap t vs.toArray) (Y:RB s.heap b ws.toArray) (G:vs≠[])
 (h1:ws=[]->Q (.ref t) s) (h2:ws≠[]->Q (.ref s.heap.objs.size) { s with heap:=s.heap.push { cls:=.type "tuple",data:=.seq (vs++ws).toArray } })
 (hsz:vs.length+ws.length<=Hd):Hh (model prog w) A (Jm .Add (.ref t) (.ref b)) Q E s:=by
 obtain ⟨⟨cls,dd,data,sl⟩,ho,J,n,hd⟩:=id U;obtain ⟨⟨L,q,data2,z⟩,j,B,O,hd2⟩:=id Y;simp only at J hd B hd2;subst J hd B hd2;have e:vs.toArray++ws.toArray=(vs++ws).toArray:=by simp
 by_cases hw:ws=[]
 ·exact QF ⟨_,ho,rfl⟩ ⟨_,j,rfl⟩ Oj Q6 Mf LX (LA _ _)
   (tuple_addW1 t b vs.toArray ws.toArray n O dd q sl z (by simpa using G) (by simp [hw])) ⟨ho,j,h1 hw⟩
 ·refine QF ⟨_,ho,rfl⟩ ⟨_,j,rfl⟩ Oj Q6 Mf LX (LA _ _)
   (tuple_addW2 t b vs.toArray ws.toArray n O dd q sl z (by simpa using G) (by simpa using hw) (by rw [Hn,Hn];exact hsz)) ⟨ho,j,?_⟩
  rw [e];exact h2 hw
noncomputable def sIx (n d:Nat):Option Int->Nat
 | none=>d
 | some v=>if v < 0 then (v+(n:Int)).toNat else min v.toNat n
theorem BZ (n d:Nat) (hd:d<=n) (o:Option Int):sIx n d o<=n:=by
 cases o with
 | none=>exact hd
 | some v =>
   show (if v < 0 then (v+(n:Int)).toNat else min v.toNat n)<=n
   by_cases hv:v < 0
   ·rw [if_pos hv];omega
   ·rw [if_neg hv];exact Nat.min_le_right _ _
theorem qw (v:Int) (n d:Nat):(if v < 0 then max (v+(n:Int)) 0 else min v (n:Int))=((sIx n d (some v):Nat):Int):=by
 show (if v < 0 then max (v+(n:Int)) 0 else min v (n:Int))=(((if v < 0 then (v+(n:Int)).toNat else min v.toNat n):Nat):Int)
 by_cases hv:v < 0
 ·simp only [if_pos hv];omega
 ·simp only [if_neg hv];omega
theorem rO (lo hi:Option Int) (n:Nat):Lv lo hi 1 (n:Int)=(((sIx n 0 lo:Nat):Int),((sIx n n hi:Nat):Int)):=by
 have h1 : ¬ ((1:Int) < 0):=by omega
 unfold Lv;simp only [h1,if_false];refine LB ?_ ?_
 ·cases lo with
  | none=>rfl
  | some v=>exact qw v n 0
 ·cases hi with
  | none=>rfl
  | some v=>exact qw v n n
theorem rP (i j:Nat):Km (i:Int) (j:Int) 1=j - i:=by
 unfold Km;have h1:(1:Int) > 0:=by omega
 simp only [h1,if_true,Int.ediv_one]
 split <;> omega
theorem jq {v:hH} {o:Option Int} {Q:Option Int->tv->Prop} (p:OF v o) (h:Q o s):Hh (model prog w) A (Builtin.Slice.slicePartIndex v) Q E s:=by
 cases p with
 | none=>exact slicePart_none h
 | int i t=>exact slicePart_int h
theorem dQ {sl:Addr} {vl vu:hH} {lo hi:Option Int} {n:Nat} {Q:Int×Int×Nat->tv->Prop} (hs:s.heap.IsSliceOf sl vl vu .none) (pl:OF vl lo) (pu:OF vu hi)
 (h:Q (((sIx n 0 lo:Nat):Int),1,sIx n n hi - sIx n 0 lo) s):Hh (model prog w) A (NJ (.ref sl) (pure (n:Int))) Q E s:=by
 obtain ⟨os,j,z,q⟩:=id hs;unfold NJ Builtin.Slice.sliceFields;refine gV (gV (HW j q (x:=vl) rfl (gV (HW j q (x:=vu) rfl (gV (HW j q (x:=.none) rfl (hW ?_)))))));refine gV (slicePart_none ?_);show Hh _ _ (if ((1:Int)==0)=true then _ else _) _ _ s
 rw [if_neg (by decide)]
 refine gV (jq pl (gV (jq pu (gV (hW ?_)))));show Hh _ _ (match Lv lo hi 1 (n:Int) with | (lo,hi)=>pure (lo,(1:Int),Km lo hi 1)) _ _ s
 rw [rO lo hi n];show Hh _ _ (pure (((sIx n 0 lo:Nat):Int),(1:Int),Km ((sIx n 0 lo:Nat):Int) ((sIx n n hi:Nat):Int) 1)) _ _ s;rw [rP];exact hW h
theorem wQ (xs:Array hH) (i k:Nat):((IV k).filterMap fun (m:Nat)=>xs[((i:Int)+(m:Int)*1).toNat]?).toArray=((xs.toList.drop i).take k).toArray:=by
 have e:(fun (m:Nat)=>xs[((i:Int)+(m:Int)*1).toNat]?)=fun m=>xs[i+m]?:=by
  funext m
  have:((i:Int)+(m:Int)*1).toNat=i+m:=by omega
  rw [this]
 rw [e];have:=pick_run xs i k;rw [List.filterMap_map] at this;have j:((fun x=>xs[x]?) ∘ fun x=>i+x)=fun m=>xs[i+m]?:=rfl;rw [j] at this;rw [this]
theorem getItem_tuple_cut {t sl:Addr} {items:Array hH} {vl vu:hH} {lo hi:Option Int} {Q:hH->tv->Prop} (z:RB s.heap t items) (hs:s.heap.IsSliceOf sl vl vu .none) (pl:OF vl lo) (pu:OF vu hi)
 (hw : ¬ (sIx items.size 0 lo=0/\sIx items.size items.size hi=items.size))
 (h:Q (.ref s.heap.objs.size) { s with heap:=s.heap.push { cls:=.type "tuple",data:=.seq ((items.toList.drop (sIx items.size 0 lo)).take (sIx items.size items.size hi - sIx items.size 0 lo)).toArray } })
 (hsz:items.size<=Hd):Hh (model prog w) A (NZ (.ref t) (.ref sl)) Q E s:=by
 have j:sizeOk (.seq ((items.toList.drop (sIx items.size 0 lo)).take (sIx items.size items.size hi - sIx items.size 0 lo)).toArray):=by
  show ((items.toList.drop (sIx items.size 0 lo)).take (sIx items.size items.size hi - sIx items.size 0 lo)).toArray.size<=Hd;rw [Hn,HR,My,HI];omega
 have O:sIx items.size items.size hi<=items.size:=BZ _ _ (Hg _) hi;obtain ⟨os,B,F,L⟩:=id hs;have G:s.TypeIs (.ref sl) "slice":=⟨os,B,F⟩;unfold NZ
 try with_reducible refine I7 ?_
 first | refine gV (hW ?_) | skip
 refine gV (QG z.typeIs (by decide) ?_)
 refine gV (HN (name:=Iy "__getitem__") z.typeIs JE
  (HK JE z.typeIs PU ?_ (Ql _ _)))
 show Hh _ _ (NK (.ref t) >>= _) _ _ s;refine gV (tupleItemsOf_ z ?_);refine gV (Jy G ?_);rw [if_pos (by decide)]
 refine gV (dQ hs pl pu ?_);have J : ¬ ((((sIx items.size 0 lo:Nat):Int)==0&&(1:Int)==1&&(sIx items.size items.size hi - sIx items.size 0 lo)==items.size)=true):=by
  intro q;rw [z4,z4] at q;have U:((sIx items.size 0 lo:Nat):Int)=0:=KI q.1.1;have Y:sIx items.size items.size hi - sIx items.size 0 lo=items.size:=KI q.2;exact hw ⟨by omega,by omega⟩
 show Hh _ _ (if (((sIx items.size 0 lo:Nat):Int)==0&&(1:Int)==1&&(sIx items.size items.size hi - sIx items.size 0 lo)==items.size)=true then _ else _) _ _ s
 rw [if_neg J,wQ]
 first
  | exact gV (m:=Kw _) (IE (hW ⟨_,rfl,hW h⟩) j)
  | exact gV (m:=Kw _) (IE (gV (hW (hW ⟨_,rfl,hW h⟩))) j)
  | exact gV (gV (m:=Kw _) (IE (hW (hW ⟨_,rfl,hW h⟩)) j))
  | exact gV (gV (m:=Kw _) (IE (hW ⟨_,rfl,hW h⟩) j))
end
end HT
namespace L2
open PySem PySem.Spec PyProof.Rows
section
noncomputable abbrev TO:=St->Hp->(Option Int->Hp->Prop)->Prop
def PO (X:Cx) (e:Option Expr) (t:TO):Prop :=
 ∀ (pins:List (Addr×Obj)) (s:tv) (σ:St) (H:Hp) (Q:Option Int->Hp->Prop),Inv X pins σ H s->t σ H Q ->
  Hh (model X.prog X.w) X.A (evalPart e X.env) (fun u s'=>∃ o H',Inv X pins σ H' s'/\OF u o/\Q o H') X.xe s
noncomputable def A3:TO:=fun _ H Q=>Q none H
noncomputable def DJ (t:TE):TO:=fun σ H Q=>t σ H fun x H1=>∃ i,x = .int i/\Q (some i) H1
theorem rQ {ns:List Int}:∀ {us:List hH},Vals (ns.map V.int) us->LI us ns:=by
 induction ns with
 | nil=>intro us r;rw [Mg] at r;cases r;exact .nil
 | cons n ns ih =>
   intro us r;rw [Hj] at r
   cases r with
   | cons j q =>
     obtain ⟨t,e⟩:=j;subst e;exact .cons n t (ih q)
section
variable {X:Cx} {e:Expr} {te:TE} {lo hi:Option Expr} {tl th:TO} {pos p2:Pos}
theorem A4:PO X none A3:=by
 intro pins s σ H Q I h;rw [evalPart_none];exact hW ⟨none,H,I,.none,h⟩
theorem A5 (h:PE X e te):PO X (some e) (DJ te):=by
 intro pins s σ H Q I hw;rw [evalPart_some];refine thn (h pins s σ H _ I hw) fun u s1 ⟨x,H1,j,z,B⟩=>?_;obtain ⟨i,rfl,q⟩:=B;obtain ⟨t,rfl⟩:=z;exact ⟨some i,H1,j,.int i t,q⟩
def SlR (X:Cx) (r:V->Option Int->Option Int->Hp->VK->Prop):Prop :=
 ∀ (pins:List (Addr×Obj)) (s:tv) (σ:St) (H:Hp) (x:V) (v vl vu:hH) (lo hi:Option Int) (sl:Addr) (Q:VK),Inv X pins σ H s->RelV x v->s.heap.IsSliceOf sl vl vu .none->OF vl lo->OF vu hi->r x lo hi H Q ->
  ∃ T id,typeLookup (.type T) "__getitem__" = pure (some (.builtin id))/\s.TypeIs v T/\Hh (model X.prog X.w) X.A (NZ v (.ref sl)) (EP X pins σ Q) X.xe s
theorem SlR.or {r r':V->Option Int->Option Int->Hp->VK->Prop} (h:SlR X r) (h':SlR X r'):SlR X (fun x lo hi H Q=>r x lo hi H Q∨r' x lo hi H Q):=by
 intro pins s σ H x v vl vu lo hi sl Q I rx hs pl pu q
 rcases q with q | q
 ·exact h pins s σ H x v vl vu lo hi sl Q I rx hs pl pu q
 ·exact h' pins s σ H x v vl vu lo hi sl Q I rx hs pl pu q
noncomputable def tSl (r:V->Option Int->Option Int->Hp->VK->Prop) (te:TE) (tl th:TO):TE:=fun σ H Q=>te σ H fun x H1=>tl σ H1 fun l H2=>th σ H2 fun u H3=>r x l u H3 Q
theorem wR {r:V->Option Int->Option Int->Hp->VK->Prop} (z:SlR X r) (he:PE X e te) (B:PO X lo tl) (F:PO X hi th):PE X (.Subscript e (.Slice lo hi none p2) pos) (tSl r te tl th):=by
 intro pins s σ H Q I h;refine Subscript_ (thn (he pins s σ H _ I h) fun v s1 ⟨x,H1,G,J,L⟩=>?_);refine wpAny_Slice (thn (B pins s1 σ H1 _ G L) fun vl s2 ⟨l,H2,O,pl,U⟩=>thn (F pins s2 σ H2 _ O U) fun vu s3 ⟨u,j,Y,pu,Z⟩=>?_);rw [evalPart_none];refine hW ?_;have I4:Inv X pins σ j { s3 with heap:=s3.heap.push { cls:=.type "slice",data:=.fields #[vl,vu,.none] } }:=Y.kept (t':=s3.toks) fun b ob q=>h6 _ q
 obtain ⟨T,id,hT,ht,hg⟩:=z pins { s3 with heap:=s3.heap.push { cls:=.type "slice",data:=.fields #[vl,vu,.none] } } σ j x v vl vu l u s3.heap.objs.size Q I4 J (Heap.IsSliceOf.new ..) pl pu Z
 show Hh (model X.prog X.w) X.A (subscriptTail e (.Slice lo hi none p2) v (.ref s3.heap.objs.size)) (EP X pins σ Q) X.xe { s3 with heap:=s3.heap.push { cls:=.type "slice",data:=.fields #[vl,vu,.none] } }
 exact tail_any (ops:=[.ref s3.heap.objs.size,v]) ht hT hg (by with_unfolding_all rfl)
noncomputable def fV (xs:List V) (lo hi:Option Int):List V:=(xs.drop (HT.sIx xs.length 0 lo)).take (HT.sIx xs.length xs.length hi - HT.sIx xs.length 0 lo)
theorem iB (xs:List V) (lo hi:Option Int):(fV xs lo hi).length<=xs.length:=by
 unfold fV;rw [HR,My];omega
noncomputable def Ey (K:Frag):V->Option Int->Option Int->Hp->VK->Prop:=fun x lo hi H Q=>∃ a xs,x = .ref a/\SqT K H a xs /\
 ¬ (HT.sIx xs.length 0 lo=0/\HT.sIx xs.length xs.length hi=xs.length) /\ ∀ p,H p=none->Q (.ref p) (upd H p (.tup (fV xs lo hi)))
theorem sl_tup:SlR X (Ey X.K):=by
 intro pins s σ H x v vl vu lo hi sl Q I rx hs pl pu h;obtain ⟨a,xs,rfl,hx,hw,q⟩:=h
 cases rx
 obtain ⟨its,r,j,hz⟩:=I.tuple hx;have hlen:its.toArray.size=xs.length:=by rw [Hn];exact r.length.symm
 refine ⟨"tuple",_,PyProof.Rows.slot_tuple_getitem.lookup,j.typeIs,?_⟩;refine HT.getItem_tuple_cut j hs pl pu (by rw [hlen];exact hw) ?_ (by rw [hlen];exact hz)
 rw [hlen];refine ⟨.ref s.heap.objs.size,_,I.laid (t':=s.toks) (o:=.tup (fV xs lo hi)) (fun b ob q=>h6 _ q) (Hg _) ?_,rfl,q _ (I.hok.fresh (Hg _))⟩;exact ⟨Jp (iB xs lo hi) hz,_,(r.drop (HT.sIx xs.length 0 lo)).take (HT.sIx xs.length xs.length hi - HT.sIx xs.length 0 lo),Mw _ _⟩
noncomputable def zk (K:Frag):R2:=fun x y H Q=>∃ a b xs ys,x = .ref a/\y = .ref b/\SqT K H a xs/\SqT K H b ys/\xs≠[]/\xs.length+ys.length<=Hd /\
 (ys=[]->Q (.ref a) H)/\(ys≠[] -> ∀ p,H p=none->Q (.ref p) (upd H p (.tup (xs++ys))))
theorem Vals.nil_iff {xs:List V} {us:List hH} (r:Vals xs us):us=[]↔xs=[]:=by
 cases r with
 | nil=>simp
 | cons _ _=>simp
theorem op_catT:OpR X (Jm .Add) (zk X.K):=by
 intro pins s σ H x y v u Q I rx ry h;obtain ⟨a,b,xs,ys,rfl,rfl,G,J,hx,hz,L,O⟩:=h
 cases rx
 cases ry
 obtain ⟨its,B,U,_⟩:=I.tuple G;obtain ⟨F,j,p2,_⟩:=I.tuple J;refine HT.cat_tup U p2 (fun z=>hx (B.nil_iff.mp z)) (fun z=>⟨.ref a,H,I,rfl,L (j.nil_iff.mp z)⟩) (fun z=>?_) (by rw [<- B.length,<- j.length];exact hz)
 refine ⟨.ref s.heap.objs.size,_,I.laid (t':=s.toks) (o:=.tup (xs++ys)) (fun b ob q=>h6 _ q) (Hg _) ?_,rfl,O (fun w=>z (j.nil_iff.mpr w)) _ (I.hok.fresh (Hg _))⟩;exact ⟨by rw [H9];exact hz,_,B.append j,Mw _ _⟩
end
end
section
noncomputable def ixN (n:Nat) (i:Int):Option Nat:=if 0<=i then (if i < n then some i.toNat else none) else if -(n:Int)<=i then some (i+n).toNat else none
noncomputable def atI {α:Type} (xs:List α) (i:Int):Option α:=(ixN xs.length i).bind fun j=>xs[j]?
theorem qz {n:Nat} {i:Int} {j:Nat} (h:ixN n i=some j):seqIndex? i n=some j/\j < n /\ -(n:Int)<=i/\i < n:=by
 unfold ixN at h
 by_cases h0 : 0<=i
 ·rw [if_pos h0] at h
  by_cases h1:i < n
  ·rw [if_pos h1] at h;have e:i.toNat=j:=Ju.inj h;exact ⟨by rw [Pe h0 h1,e],by omega,by omega,h1⟩
  ·rw [if_neg h1] at h;cases h
 ·rw [if_neg h0] at h
  by_cases h1 : -(n:Int)<=i
  ·rw [if_pos h1] at h;have e:(i+n).toNat=j:=Ju.inj h;exact ⟨by rw [OG (by omega) h1,e],by omega,h1,by omega⟩
  ·rw [if_neg h1] at h;cases h
theorem kC {α:Type} {xs:List α} {i:Int} {v : α} (h:atI xs i=some v):∃ j,seqIndex? i xs.length=some j/\xs[j]? = some v/\j < xs.length /\ -(xs.length:Int)<=i/\i < xs.length:=by
 unfold atI at h
 cases e:ixN xs.length i with
 | none=>rw [e] at h;cases h
 | some j =>
   rw [e] at h;obtain ⟨h1,h2,q,z⟩:=qz e;exact ⟨j,h1,h,h2,q,z⟩
def kD (b:Expr):Prop:=∀ o i,subscripted b false o i=operate [o,i] (NZ o i)
def IxR (X:Cx) (r:R2):Prop :=
 ∀ (value slice:Expr) (pins:List (Addr×Obj)) (s:tv) (σ:St) (H:Hp) (x y:V) (v u:hH) (Q:VK),Inv X pins σ H s->RelV x v->RelV y u->r x y H Q ->
  subscripted slice false v u=operate [v,u] (NZ v u)->Hh (model X.prog X.w) X.A (subscriptTail value slice v u) (EP X pins σ Q) X.xe s
def MtR (X:Cx) (id:String) (r:V->List V->Hp->VK->Prop):Prop :=
 ∀ (pins:List (Addr×Obj)) (s:tv) (σ:St) (H:Hp) (x:V) (xs:List V) (v:hH) (us:List hH) (Q:VK),Inv X pins σ H s->RelV x v->Vals xs us->r x xs H Q ->
  Hh (model X.prog X.w) X.A (call (.builtin id) (v::us)) (EP X pins σ Q) X.xe s
section
variable {X:Cx} {a b:Expr} {ta tb:TE} {pos:Pos}
theorem IxR.or {r r':R2} (h:IxR X r) (h':IxR X r'):IxR X (fun x y H Q=>r x y H Q∨r' x y H Q):=by
 intro value slice pins s σ H x y v u Q I rx ry q hs
 rcases q with q | q
 ·exact h value slice pins s σ H x y v u Q I rx ry q hs
 ·exact h' value slice pins s σ H x y v u Q I rx ry q hs
theorem DK {r:R2} (j:IxR X r) (z:PE X a ta) (B:PE X b tb) (hs:kD b):PE X (.Subscript a b pos) (tOp r ta tb):=by
 intro pins s σ H Q I h;exact Subscript_ (wF z B I h fun v u s2 x y H2 F rx ry q=>j a b pins s2 σ H2 x y v u Q F rx ry q (hs _ _))
noncomputable def Ez (K:Frag):R2:=fun x y H Q=>∃ p xs i v,x = .ref p/\y = .int i/\SqL K H p xs/\atI xs i=some v/\Q v H
noncomputable def EA (K:Frag):R2:=fun x y H Q=>∃ p xs i v,x = .ref p/\y = .int i/\SqT K H p xs/\atI xs i=some v/\Q v H
theorem ix_list:IxR X (Ez X.K):=by
 intro value slice pins s σ H x y v u Q I rx ry h hs;obtain ⟨p,xs,i,z,rfl,rfl,F,he,q⟩:=h
 cases rx
 obtain ⟨t,rfl⟩:=ry;obtain ⟨its,r,pl,hz⟩:=I.list F;obtain ⟨j,h1,h2,O,G,J⟩:=kC he;obtain ⟨w,ew,rw'⟩:=r.get h2;have L:=r.length;have U:=eV;have fin:EP X pins σ Q w s:=⟨z,H,I,rw',q⟩
 by_cases h0 : 0<=i
 ·have B:i.toNat=j:=by
   rw [Pe h0 J] at h1;exact Ju.inj h1
  exact item_listR pl.isList h0 (by omega) (by rw [B];simpa using ew) fin hs
 ·have B:(i+(its.toArray.size:Int)).toNat=j:=by
   rw [OG (by omega) G] at h1
   rw [Hn,<- L];exact Ju.inj h1
  exact OH (x:=w) pl.isList.typeIs slot_list_getitem.lookup
   (OI (Q:=fun r s'=>r=w/\EP X pins σ Q r s') pl.isList (by omega) (by rw [Hn] <;> omega) (by omega) (by rw [B];simpa using ew) ⟨rfl,fin⟩) hs
theorem ix_tup:IxR X (EA X.K):=by
 intro value slice pins s σ H x y v u Q I rx ry h hs;obtain ⟨p,xs,i,z,rfl,rfl,B,he,q⟩:=h
 cases rx
 obtain ⟨t,rfl⟩:=ry;obtain ⟨its,r,pl,hz⟩:=I.tuple B;obtain ⟨j,h1,h2,G,J,L⟩:=kC he;obtain ⟨w,ew,rw'⟩:=r.get h2;have F:=r.length;have O:=eV;have fin:EP X pins σ Q w s:=⟨z,H,I,rw',q⟩;exact OH (x:=w) pl.typeIs slot_tuple_getitem.lookup
  (getItem_tuple (j:=j) (Q:=fun r s'=>r=w/\EP X pins σ Q r s') pl (by omega) (by omega) (by rw [Hn,<- F];exact h1) (by simpa using ew) ⟨rfl,fin⟩) hs
theorem rR (its:List hH) (n j:Nat) (u:hH):Ja (·.setIfInBounds j u) { cls:=.type "list",data:=.seq its.toArray n } = { cls:=.type "list",data:=.seq (its.set j u).toArray n }:=by
 simp [Ja]
theorem Inv.lst {pins:List (Addr×Obj)} {σ:St} {H:Hp} {s:tv} {p:Addr} {xs:List V} (I:Inv X pins σ H s) (h:H p=some (.lst xs)) :
 ∃ (its:List hH) (n:Nat),Vals xs its/\s.heap.get? p=some { cls:=.type "list",data:=.seq its.toArray n }/\xs.length<=Hd:=by
 obtain ⟨z,its,n,r,e⟩:=I.hok p _ h;exact ⟨its,n,r,e,z⟩
theorem Inv.lstUpd {pins:List (Addr×Obj)} {σ:St} {H:Hp} {s:tv} {p:Addr} {xs ys:List V} {its its':List hH} {n n':Nat} {f:Obj->Obj} (I:Inv X pins σ H s) (h:H p=some (.lst xs))
 (ho:s.heap.get? p=some { cls:=.type "list",data:=.seq its.toArray n }) (hf:f { cls:=.type "list",data:=.seq its.toArray n } = { cls:=.type "list",data:=.seq its'.toArray n' }) (r:Vals ys its') (hz:ys.length<=Hd) (t:Nat) :
 Inv X pins σ (upd H p (.lst ys)) { s with heap:=s.heap.update p f,toks:=t }:=by
 have e:(s.heap.update p f).get? p=some { cls:=.type "list",data:=.seq its'.toArray n' }:=by
  rw [Jl f ho (by rw [hf] <;> rfl),hf]
 refine I.write (x:=p) (e:=p) (by rw [h];trivial) (.inl rfl) (fun b u j q=>(IF _ _ (Ne.symm j)).trans q) ⟨_,e⟩ ?_
 exact ⟨hz,its',n',r,e⟩
noncomputable def zm:V->V->V->Hp->(Hp->Prop)->Prop:=fun o i v H Q=>∃ p xs k j,o = .ref p/\i = .int k/\H p=some (.lst xs)/\ixN xs.length k=some j/\Q (upd H p (.lst (xs.set j v)))
theorem iN:PSet X zm:=by
 intro pins s σ H o i v ov iv u Q I ro ri rv h;obtain ⟨p,xs,k,j,rfl,rfl,F,L,q⟩:=h
 cases ro
 obtain ⟨t,rfl⟩:=ri;obtain ⟨its,n,r,ho,hz⟩:=I.lst F;obtain ⟨h1,h2,G,J⟩:=qz L;have z:=r.length;have O:=eV;have I':Inv X pins σ (upd H p (.lst (xs.set j v))) { s with heap:=s.heap.update p (Ja (·.setIfInBounds j u)) } :=
  I.lstUpd F ho (rR its n j u) (r.set rv j) (by rw [OX];exact hz) s.toks
 by_cases h0 : 0<=k
 ·have B:k.toNat=j:=by
   rw [Pe h0 J] at h1;exact Ju.inj h1
  exact PySem.W.ki_setAt ho h0 (by omega) (by rw [Hn,<- z];exact J) (by rw [B];exact ⟨_,I',q⟩)
 ·have B:(k+(its.toArray.size:Int)).toNat=j:=by
   rw [OG (by omega) G] at h1
   rw [Hn,<- z];exact Ju.inj h1
  exact PySem.W.ki_setBack ho (by omega) (by rw [Hn,<- z];exact G) (by omega) (by rw [B];exact ⟨_,I',q⟩)
theorem nC (lo hi:Option Int) (n:Nat):(LY lo hi none n).1=((HT.sIx n 0 lo:Nat):Int)/\(LY lo hi none n).2.1=((HT.sIx n n hi:Nat):Int)/\(LY lo hi none n).2.2=1:=by
 refine ⟨?_,?_,rfl⟩
 ·cases lo with
  | none=>simp [LY,HT.sIx]
  | some i =>
    simp only [LY,HT.sIx,R8,show (1:Int) > 0 by decide,if_true]
    by_cases h:i < 0
    ·simp only [h,if_true] <;> omega
    ·simp only [h,if_false] <;> omega
 ·cases hi with
  | none=>simp [LY,HT.sIx]
  | some i =>
    simp only [LY,HT.sIx,R8,show (1:Int) > 0 by decide,if_true]
    by_cases h:i < 0
    ·simp only [h,if_true] <;> omega
    ·simp only [h,if_false] <;> omega
theorem mP (its:List hH) (lo hi:Option Int):slicePick its.toArray lo hi none=((its.drop (HT.sIx its.length 0 lo)).take (HT.sIx its.length its.length hi - HT.sIx its.length 0 lo)).toArray:=by
 obtain ⟨h1,h2,j⟩:=nC lo hi its.toArray.size;unfold slicePick;rw [h1,h2,j];simp only [sliceRange_one,pick_run,Hn] <;> rfl
noncomputable def EB (K:Frag):V->Option Int->Option Int->Hp->VK->Prop:=fun x lo hi H Q=>∃ a xs,x = .ref a/\SqL K H a xs /\ ∀ p,H p=none->Q (.ref p) (upd H p (.lst (fV xs lo hi)))
theorem sl_list:SlR X (EB X.K):=by
 intro pins s σ H x v vl vu lo hi sl Q I rx hs pl pu h;obtain ⟨a,xs,rfl,hx,q⟩:=h
 cases rx
 obtain ⟨its,r,j,hz⟩:=I.list hx;have hlen:=r.length;refine ⟨"list",_,slot_list_getitem.lookup,j.isList.typeIs,?_⟩;refine wpAny_getItem_list_slice j.isList hs pl pu .none (by simp) ?_ (by rw [Hn] <;> omega)
 rw [mP,<- hlen];refine ⟨.ref s.heap.objs.size,_,I.laid (t':=s.toks) (o:=.lst (fV xs lo hi)) (fun b ob q=>h6 _ q) (Hg _) ?_,rfl,q _ (I.hok.fresh (Hg _))⟩;exact ⟨Jp (iB xs lo hi) hz,_,0,(r.drop (HT.sIx xs.length 0 lo)).take (HT.sIx xs.length xs.length hi - HT.sIx xs.length 0 lo),GZ _ rfl⟩
theorem mQ:CallR X (.type "tuple") (fun xs H Q=>∃ p ys,xs=[.ref p]/\((SqL X.K H p ys /\ ∀ l,H l=none->Q (.ref l) (upd H l (.tup ys)))∨(SqT X.K H p ys/\Q (.ref p) H))):=by
 intro pins s σ H xs us Q I r h;obtain ⟨p,ys,rfl,h⟩:=h;obtain ⟨u,rfl,rx⟩:=dq r
 cases rx
 rcases h with ⟨j,q⟩ | ⟨j,q⟩
 ·obtain ⟨its,r',pl,hz⟩:=I.list j;have hlen:=r'.length;refine call_tuple_list pl.isList (fun h' kp=>?_) (by simp only [Hn] <;> omega)
  have z:Inv X pins σ H { s with heap:=h' }:=I.kept (t':=s.toks) kp
  have B:Inv X pins σ (upd H h'.objs.size (.tup ys)) { s with heap:=h'.push { cls:=.type "tuple",data:=.seq its.toArray } } :=
   z.laid (t':=s.toks) (fun b o e=>h6 _ e) (Hg _) (show ObjOk X.prog X.w _ _ _ (.tup ys) from ⟨hz,its,r',Mw _ _⟩)
  exact ⟨.ref h'.objs.size,_,B,rfl,q _ (z.hok.fresh (Hg _))⟩
 ·obtain ⟨its,r',pl,hz⟩:=I.tuple j;exact call_tuple_same pl ⟨.ref p,H,I,rfl,q⟩
def tyV (K:Frag) (T:String) (x:V) (H:Hp):Prop:=match x with
 | .str _=>T = "str"
 | .int _=>T = "int"
 | .ref p=>(T = "list" /\ ∃ xs,SqL K H p xs)∨(T = "tuple" /\ ∃ o,K.lookup p=some o/\o.cls = .type "tuple" /\ o.dict=none) ∨
  (T = "dict" /\ ((∃ kvs,H p=some (.dK kvs))∨∃ kvs,H p=some (.dT kvs)))∨(T = "set" /\ ∃ S n,H p=some (.set S n))
 | _=>False
theorem C0 {pins:List (Addr×Obj)} {σ:St} {H:Hp} {s:tv} {T:String} {x:V} {v:hH} (I:Inv X pins σ H s) (r:RelV x v) (ty:tyV X.K T x H) :
 s.TypeIs v T /\ ∀ a,v = .ref a -> ∃ ob,s.heap.get? a=some ob/\ob.dict=none:=by
 cases x with
 | str z =>
   obtain ⟨t,rfl⟩:=r
   cases (show T = "str" from ty)
   exact ⟨typeIs_str s z t,fun _ e=>nomatch e⟩
 | int i =>
   obtain ⟨t,rfl⟩:=r
   cases (show T = "int" from ty)
   exact ⟨OJ s i t,fun _ e=>nomatch e⟩
 | ref p =>
   cases r
   rcases ty with ⟨rfl,xs,B⟩ | ⟨rfl,o,j,F,hd⟩ | ⟨rfl,j⟩ | ⟨rfl,S,n,j⟩
   ·obtain ⟨its,_,pl,_⟩:=I.list B;refine ⟨pl.isList.typeIs,fun a e=>?_⟩
    cases e
    obtain ⟨o,n,e,c,hd,_⟩:=pl;exact ⟨o,e,hd⟩
   ·refine ⟨⟨o,I.kIn p o j,F⟩,fun a e=>?_⟩
    cases e
    exact ⟨o,I.kIn _ o j,hd⟩
   ·have z:∃ o,s.heap.get? p=some o/\o.ExactDict:=by
     rcases j with ⟨kvs,j⟩ | ⟨kvs,j⟩
     ·obtain ⟨_,_,_,_,o,_,_,e,ex,_⟩:=I.hok p _ j;exact ⟨o,e,ex⟩
     ·obtain ⟨_,_,_,_,o,_,_,e,ex,_⟩:=I.hok p _ j;exact ⟨o,e,ex⟩
    obtain ⟨o,e,ex⟩:=z;refine ⟨⟨o,e,ex.1⟩,fun a q=>?_⟩
    cases q
    exact ⟨o,e,ex.2.1⟩
   ·obtain ⟨o,_,_,_,e,ex,_⟩:=I.hok p _ j;refine ⟨⟨o,e,ex.1⟩,fun a q=>?_⟩
    cases q
    exact ⟨o,e,ex.2.1⟩
 | _=>exact False.elim ty
noncomputable def tBM (K:Frag) (T:String) (r:V->List V->Hp->VK->Prop) (to:TE) (t:TA):TE:=fun σ H Q=>to σ H fun x H1=>tyV K T x H1/\t σ H1 fun xs H2=>r x xs H2 Q
variable {o e:Expr} {es:List Expr} {to:TE} {t:TA} {name:Str} {apos cpos:Pos} {T id:String} {r:V->List V->Hp->VK->Prop}
theorem DL (pa:PlainAttrs T) (slot:Slot T name id) (F:typeOf (.builtin id)=pure (.type "method_descriptor")) (hm:MtR X id r) (ho:PE X o to) (O:PA X (e::es) t)
 (q:MU o name X.env (eval o X.env)=eval o X.env:=by rfl)
 (B:((LM cpos (HP (e::es) X.env)).all (fun x=>!x.1)&&(backToKw cpos (RC [] X.env)).all (fun x=>x.1.isSome)
   && decide ((e::es).length+([]:List OK).length+(if ([]:List OK).isEmpty then 0 else 1) < 30))=true:=by rfl)
 (z:(apos.endLine==cpos.line)=true:=by rfl) (hs:HP (e::es) X.env=(false,eval e X.env)::HP es X.env:=by rfl) (j:(LM cpos (HP es X.env)).any (·.1)=false:=by rfl) :
 PE X (.Call (.Attribute o name apos) (e::es) [] cpos) (tBM X.K T r to t):=by
 intro pins s σ H Q I h;refine wpAny_Call_method_late q B z rfl (thn (ho pins s σ H _ I h) fun v s1 ⟨x,H1,G,J,ty,U⟩=>?_);obtain ⟨h1,h2⟩:=C0 G J ty;refine ⟨T,id,pa,slot,F,h1,h2,?_⟩;have L:=O cpos pins s1 σ H1 _ G U;rw [hs] at L ⊢;refine K7 (by show (false || (LM cpos (HP es X.env)).any (·.1))=false;rw [j] <;> rfl) (MZ ?_)
 exact thn L fun us s2 ⟨vs,H2,Y,Z,q2⟩=>hm pins s2 σ H2 x vs v us Q Y J Z q2
end
end
section
def MtM (X:Cx) (id:String) (r:V->List V->Hp->VK->Prop):Prop :=
 ∀ (pins:List (Addr×Obj)) (s:tv) (σ:St) (H:Hp) (x:V) (xs:List V) (v:hH) (us:List hH) (Q:VK),Inv X pins σ H s->RelV x v->Vals xs us->r x xs H Q ->
  Hh (model X.prog X.w) X.A (call (.builtin id) (v::us)) (EP X pins σ Q) X.xe s
theorem Vals.one:∀ {x:V} {us:List hH},Vals [x] us -> ∃ u,us=[u]/\RelV x u
 | _,_,.cons r .nil=>⟨_,rfl,r⟩
theorem Vals.rep {xs:List V} {us:List hH} (h:Vals xs us):∀ k:Nat,Vals (Ha k xs).flatten (Ha k us).flatten
 | 0=>.nil
 | k+1=>by
   rw [J4,J4,IG,IG];exact Vals.append h (Vals.rep h k)
theorem fW (its:List hH):∀ (k:Nat) (acc:List hH),
 MA (fun j q=>j++q) acc.toArray (Ha k its.toArray)=(acc++(Ha k its).flatten).toArray
 | 0,acc=>by simp
 | k+1,acc=>by
   have e:acc.toArray++its.toArray=(acc++its).toArray:=by simp
   have z:(acc++its)++(Ha k its).flatten=acc++(Ha (k+1) its).flatten:=by
    rw [J4,IG,Ho]
   rw [<- z,<- fW its k (acc++its),<- e,J4,LJ]
section
variable {X:Cx} {pins:List (Addr×Obj)} {σ:St} {H:Hp} {s:tv} {l b:Addr} {xs ys zs:List V}
theorem Inv.lset {its its':List hH} {n:Nat} {f:Array hH->Array hH} {t':Nat} (I:Inv X pins σ H s) (j:H l=some (.lst xs))
 (e:s.heap.get? l=some { cls:=.type "list",data:=.seq its.toArray n }) (hf:f its.toArray=its'.toArray) (z:Vals ys its') (hz:ys.length<=Hd) :
 Inv X pins σ (upd H l (.lst ys)) { s with heap:=s.heap.update l (Ja f),toks:=t' }:=by
 have q:=PySem.IsL.update e f;rw [hf] at q;refine I.write (x:=l) (e:=l) (by rw [j];exact trivial) (.inl rfl) (fun b' u B F=>(IF s.heap (Ja f) (Ne.symm B)).trans F) ⟨_,q⟩ ?_
 exact ⟨hz,its',_,z,q⟩
theorem Inv.lnew {its:List hH} {t':Nat} (I:Inv X pins σ H s) (j:Vals ys its) (hz:ys.length<=Hd) :
 Inv X pins σ (upd H s.heap.objs.size (.lst ys)) { s with heap:=s.heap.push { cls:=.type "list",data:=.seq its.toArray },toks:=t' } :=
 I.laid (fun _ _ q=>h6 _ q) (Hg _) ⟨hz,its,0,j,GZ _ rfl⟩
theorem Inv.fresh (I:Inv X pins σ H s):H s.heap.objs.size=none:=I.hok.fresh (Hg _)
theorem Inv.lstM (I:Inv X pins σ H s) (j:H l=some (.lst xs)):xs.length<=Hd /\ ∃ (its:List hH) (n:Nat),Vals xs its/\xs.length=its.length/\s.heap.get? l=some { cls:=.type "list",data:=.seq its.toArray n }:=by
 obtain ⟨z,its,n,r,e⟩:=I.hok l _ j;exact ⟨z,its,n,r,r.length,e⟩
theorem wU {n:Nat} (h:n<=Hd):LC n=false:=by
 unfold LC;exact decide_eq_false (by omega)
end
section
variable {X:Cx}
noncomputable def qA:V->List V->Hp->VK->Prop:=fun x vs H Q=>∃ l xs y,x = .ref l/\vs=[y]/\H l=some (.lst xs)/\xs.length < Hd/\Q .non (upd H l (.lst (xs++[y])))
theorem lu:MtM X "list.append" qA:=by
 intro pins s σ H x vs v us Q I rx rv h;obtain ⟨l,xs,y,rfl,rfl,j,hz,q⟩:=h
 cases rx
 obtain ⟨u,rfl,ru⟩:=rv.one;obtain ⟨z,its,n,r,B,e⟩:=I.lstM j;refine OL F.slot_list_append ⟨_,e,rfl⟩ F.entry_list_append (F.args_list_append_2 _ _) (PySem.list_append l its.toArray n u (by rw [Hn];omega)) ⟨e,?_⟩
 refine ⟨.non,_,I.lset (its':=its++[u]) j e (by simp) (r.append (.cons ru .nil)) ?_,rfl,q⟩
 rw [H9,J7];omega
noncomputable def EC:R2:=fun x y H Q=>∃ l b xs zs,x = .ref l/\y = .ref b/\H l=some (.lst xs)/\H b=some (.lst zs)/\xs.length+zs.length<=Hd /\ ∀ p,H p=none->Q (.ref p) (upd H p (.lst (xs++zs)))
theorem op_cat:OpR X (Jm .Add) EC:=by
 intro pins s σ H x y v u Q I rx ry h;obtain ⟨l,b,xs,zs,rfl,rfl,B,F,hz,q⟩:=h
 cases rx
 cases ry
 obtain ⟨z,its,n,r,O,e⟩:=I.lstM B;obtain ⟨U,j,Y,G,J,L⟩:=I.lstM F;refine PySem.P.add_list e L ?_ (by rw [Hn,Hn];omega)
 have ea:its.toArray++j.toArray=(its++j).toArray:=by simp
 rw [ea];exact ⟨.ref _,_,I.lnew (t':=s.toks) (r.append G) (by rw [H9];omega),rfl,q _ I.fresh⟩
noncomputable def ED:R2:=fun x y H Q=>∃ l k xs,x = .ref l/\y = .int k/\H l=some (.lst xs) /\ -(2 ^ 63)<=k/\k < 2 ^ 63/\xs.length*k.toNat<=Hd /\
 ∀ p,H p=none->Q (.ref p) (upd H p (.lst (Ha k.toNat xs).flatten))
theorem qB {α:Type} (xs:List α) (k:Nat):(Ha k xs).flatten.length=k*xs.length:=by
 induction k with
 | zero=>simp
 | succ k ih=>rw [J4,IG,H9,ih,Jq,Nat.add_comm]
theorem op_rep:OpR X (Jm .Mult) ED:=by
 intro pins s σ H x y v u Q I rx ry h;obtain ⟨l,k,xs,rfl,rfl,Y,h1,h2,hz,q⟩:=h
 cases rx
 obtain ⟨t,rfl⟩:=ry;obtain ⟨z,its,n,r,Z,e⟩:=I.lstM Y;have hlen:its.toArray.size*k.toNat<=Hd:=by rw [Hn,<- Z];exact hz
 have B : ¬ its.toArray.size*k.toNat > (2 ^ 63 - 1) / 8:=by
  have:(Hd:Nat)<=(2 ^ 63 - 1) / 8:=by decide
  omega
 have G : ¬ (!Builtin.List.listFitsIndex k)=true:=by
  rw [fitsIndex_both h1 h2];exact Hi
 have j : ¬ LC (its.toArray.size*k.toNat)=true:=by
  rw [wU hlen];exact Hi
 have J:MA (fun L O=>L++O) #[] (Ha (if its.toArray.isEmpty=true then 0 else k.toNat) its.toArray)=(Ha k.toNat its).flatten.toArray:=by
  have f0:∀ m:Nat,MA (fun L O=>L++O) #[] (Ha m its.toArray)=(Ha m its).flatten.toArray:=fun m=>by
   have:=fW its m [];rw [Na] at this;exact this
  rw [f0]
  cases its with
  | nil=>simp
  | cons a r'=>rw [if_neg (by simp)]
 refine NT (T:="list") (U:="int") (by decide) ⟨_,e,rfl⟩ (fun s'=>OJ s' k t) noFill_list_mul RP Nb repeat_list F.slot_int_index.lookup
  (OL Nb (OJ s k t) R9 (QH _ _) (int___rmul___int_list k t l its.toArray n)
    ⟨e,rfl,⟨_,e,rfl⟩,OL F.slot_list_mul ⟨_,e,rfl⟩ F.entry_list_mul (F.args_list_mul_2 _ _) (AutoListH.list___mul___list_int_3 l its.toArray n k t G B j) ⟨e,?_⟩⟩)
 rw [J];exact ⟨.ref _,_,I.lnew (t':=s.toks) (r.rep k.toNat) (by rw [qB,Nat.mul_comm];exact hz),rfl,q _ I.fresh⟩
end
end
end L2
namespace Att
open PySem PySem.W PySem.Calls PyProof.Rows
theorem jr {P:Params} {h:Heap}:∀ (ns:List Int) (vs:List hH),WellAll P h vs (ns.map WData.int)->LI vs ns:=by
 intro ns
 induction ns with
 | nil =>
   intro vs w;rw [Mg] at w
   cases w
   exact .nil
 | cons n ns ih =>
   intro vs w;rw [Hj] at w
   cases w with
   | cons a b =>
     cases a
     exact .cons _ _ (ih _ b)
theorem tZ {l:OpenLaw} {n:Nat} (O:l.most=some n) {P:Params} {h:Heap} {args:List WData} {vals:List hH}
 (j:l.row.toRowW.claim.pre args=true) (G:WellAll P h vals args) :
 ∃ a vs ns,vals=[Ht a]/\args=[WData.list (ns.map WData.int)]/\h.get? a=some { cls:=.type "list",data:=.seq vs.toArray }/\LI vs ns/\ns.length<=n:=by
 have J:WShape.hasAll [] args [.list .int]=true:=(pre_splitW j).1;have L:l.pre.holds [] { args:=args }=true:=(pre_splitW j).2;obtain ⟨d,r,rfl,h1,h2⟩:=hasAllW_cons J;obtain rfl:=hasAllW_nil h2;obtain ⟨xs,rfl,U⟩:=hasW_list h1;obtain ⟨ns,rfl⟩:=items_int U;have hlen:ns.length<=n:=by
  unfold OpenLaw.pre at L;have B:(WTm.not (.lt (.lit (.int (n:Int))) (.len (.arg 0)))).holds [] { args:=[.list (ns.map .int)] }=true:=by
   have B:=(holds_andW L).1;rw [O] at B;exact B
  have F:=condW_of B (w_not (w_lt w_lit (w_len_list (w_arg rfl))));rw [H8] at F;refine Nat.le_of_not_lt fun q=>?_;have q':(n:Int) < ((ns.length:Nat):Int):=by omega
  first
   | (rw [decide_eq_true q'] at F;exact absurd F (by decide))
   | (simp at F;omega)
 cases G with
 | cons Y Z =>
   cases Z
   cases Y with
   | list ho z=>exact ⟨_,_,ns,rfl,rfl,ho,jr ns _ z,hlen⟩
theorem u4 (l:OpenLaw) (args:List WData):l.row.toRowW.claim.post args (.bool true) args=true :=
 postW_of (r:=l.row.toRowW) (X:=(true==true))
  (show WShape.has [] (.bool true) .bool=true by first | rfl | decide | simp [WShape.has,WShape.arms,WShape.armsAll])
  (show (WTm.eq .res (.lit (.bool true))).value [] { args:=args,res:=some (.bool true),after:=args }=some (.bool (true==true)) from w_eq_bool (w_res rfl) w_lit) rfl
theorem attach_call {l:OpenLaw} {n:Nat} {q:HB} {loose:List Str} {XP:(Str->Option hH)->Heap->Prop} {YP:HX->Heap->Prop} {d:DefRec}
 (Z:l.most=some n) (B:d.params.defaults=[])
 (call:∀ (w:HX) (s₀ s₁:tv) (mg mb:Str->Option hH) (fa:Addr) (o:Obj) (pm cd doc:hH) (a:Addr) (vs:List hH) (ns:List Int),
   Ground q loose [] XP w s₀ mg mb s₁.heap->YP w s₁.heap ->
   s₁.heap.get? fa=some o->o.data = .func (docDef d.name d.params d.body d.scope pm cd doc)->s₁.heap.CodeRec cd d.name->mg d.name=some (.ref fa) ->
   s₁.heap.get? a=some { cls:=.type "list",data:=.seq vs.toArray }->LI vs ns->ns.length<=n->s₁.gens = #[] ->
   Le (model l.prog w) PN (.call (.ref fa) ⟨[.ref a],[]⟩) (fun r s'=>r = .ok (.ret (.bool true))/\OldK s₁.heap s'.heap/\s'.os=s₁.os/\NX s'.gens) s₁) :
 WalkO q loose XP YP l.row.toRowW d [] (fun f vs=>Sa f vs):=by
 intro w s₀ s₁ mg mb G Y fa o pm cd doc dV kV ho hd F O J hg args vals as j U ES L ET;obtain rfl:dV = .none:=Dflts.none O B;obtain rfl:kV = .none:=Dflts.noKw O;obtain ⟨a,vs,ns,rfl,rfl,z,hints,hlen⟩:=tZ Z j L;refine enter_call (Ls (call w s₀ s₁ mg mb fa o pm cd doc a vs ns G Y ho (fd_plain hd) F J z hints hlen hg) fun r s' hq=>?_);obtain ⟨rfl,h2,h3,h4⟩:=hq;exact ⟨.inl ⟨.bool true,.bool true,[],rfl,fun _=>rfl,.bool true,u4 l _,fun _=>⟨O0,fun _ hm=>(nomatch hm)⟩⟩,h2,h3,h4⟩
section
variable {prog:HB} {w:HX} {A:I0} {E:hH->tv->Prop} {s:tv} {K:Frag}
noncomputable def ER (h:Heap) (L d:Addr):List (Addr×Obj):=(IV h.objs.size).filterMap fun a=>if a=L∨a=d then none else (h.get? a).map fun o=>(a,o)
end
end Att
namespace L2
open PySem PySem.Spec PyProof.Rows
section
theorem lv:∀ {vs:List hH} {ns:List Int},LI vs ns->Vals (ns.map V.int) vs
 | _,_,.nil=>.nil
 | _,_,.cons n t h=>.cons ⟨t,rfl⟩ (lv h)
def rS (H:Hp):Prop:=∀ b,H b=none∨∃ o xs,H b=some (.frz o (.lst xs))
theorem wV {P:HB} {w:HX} {K:Frag} {mg mb:Str->Option hH} {CX:CXT} {k:Nat} {fa a:Addr} {fd:Li} {x:Str} {sp:Sp} {s₁:tv} {vs:List hH} {ns:List Int}
 (KX:K.In s₁.heap) (G:s₁.heap.Ns J3 mg) (j:s₁.heap.Ns RZ mb) (Y:∀ x:Str,x ≠ "__name__" -> mb x=KQ x) (J:s₁.heap.NoLimit) (hg:s₁.gens = #[])
 (U:s₁.heap.get? a=some { cls:=.type "list",data:=.seq vs.toArray }) (hi:LI vs ns) (hl:ns.length<=Hd) (hr:Room k PN)
 (F:∀ base:Heap,K.In base->base.Ns J3 mg->dP P w K mg base CX k fa fd [x] sp) (B:∀ (s:tv) (u:hH),QE s fd ⟨[u],[]⟩ [(x,u)])
 (Z:∀ H:Hp,rS H->SqL K H a (ns.map V.int)->sp [.ref a] H (fun v _=>v = .bl true) fun _ _ _=>False)
 (ES:∀ H e s',CX [] H s₁ (fun _ _ _=>False) e s'->False) :
 Le (model P w) PN (.call (.ref fa) ⟨[.ref a],[]⟩) (fun r s'=>r = .ok (.ret (.bool true))/\OldK s₁.heap s'.heap/\s'.os=s₁.os/\NX s'.gens) s₁:=by
 have rv:=lv hi;have lenV:=hi.length;have core:∀ H:Hp,rS H->SqL K H a (ns.map V.int)->HOk P w H s₁.heap->(∀ b,H b≠none->b=a)->(H a≠none->K.lookup a=none) ->
  Le (model P w) PN (.call (.ref fa) ⟨[.ref a],[]⟩) (fun r s'=>r = .ok (.ret (.bool true))/\OldK s₁.heap s'.heap/\s'.os=s₁.os/\NX s'.gens) s₁:=by
  intro H hO hS hok hA hK;have base_of:∀ {b:Addr} {o:Obj},s₁.heap.get? b=some o->H b=none->(fw s₁.heap H).get? b=some o:=fun e n=>ww e n;have noA:∀ {b:Addr} {o:Obj} {es:Array HS} {ep:Nat},s₁.heap.get? b=some o->o.data = .dict es ep->H b=none:=fun {b o es ep} e d=>by
   cases q:H b with
   | none=>rfl
   | some u =>
     have e':b=a:=hA b (by rw [q];simp)
     subst e';rw [U] at e;cases e;have d':KJ vs.toArray _=Data.dict es ep:=d
     cases d'
  have nsK:∀ {b:Addr} {m:Str->Option hH},s₁.heap.Ns b m->(fw s₁.heap H).Ns b m:=fun {b m} ⟨o,es,ep,e,d,r⟩=>⟨o,es,ep,base_of e (noA e d),d,r⟩;have L:K.In (fw s₁.heap H):=fun b o e=>base_of (KX b o e) (by
   cases q:H b with
   | none=>rfl
   | some u =>
     have e':b=a:=hA b (by rw [q];simp)
     subst e';rw [hK (by rw [q];simp)] at e;cases e)
  have hM:Mod K mg (fw s₁.heap H):=⟨L,nsK G,⟨mb,nsK j,Y⟩,let ⟨mc,h1,h2⟩:=J; ⟨mc,nsK h1,h2⟩⟩;have e0:rN P w K mg (fw s₁.heap H) PN [] s₁ H:=⟨rfl,hM,fun b o e=>zO e,Nat.le_of_eq (tK _ _),trivial,fun b j=>absurd (show b∈([]:List Addr) from j) (by simp),hok,.of_eq hg⟩
  refine Ls ((F _ L (nsK G)).run PN [] s₁ H ⟨[.ref a],[]⟩ [.ref a] [.ref a] _ _ hr e0 (B s₁ (.ref a)) (.cons rfl .nil) (Z H hO hS)) fun r s' h=>?_
  cases r with
  | error e=>exact (ES H e s' h).elim
  | ok fl =>
    cases fl with
    | next=>exact False.elim h
    | brk=>exact False.elim h
    | cont=>exact False.elim h
    | ret u =>
      obtain ⟨v,H',os,bare,un,O,r',q⟩:=h;have q':v = .bl true:=q;subst q';obtain rfl:u=OC true:=r';refine ⟨rfl,OldK.of_keep fun b o e=>?_,os,bare⟩
      cases q:H b with
      | none=>exact un.keep b o e q (by intro z;exact absurd (show b∈([]:List Addr) from z) (by simp)) (by simp)
      | some u =>
        rcases hO b with z | ⟨ob,xs,z⟩
        ·rw [q] at z;cases z
        ·have z2:=un.frzs b ob _ z;obtain ⟨e1,_⟩:=hok b _ z;obtain ⟨e2,_⟩:=O b _ z2;rw [e] at e1;cases e1;exact e2
 cases hk:K.lookup a with
 | some o =>
   have e:=KX a o hk;rw [U] at e
   cases e
   refine core (fun _=>none) (fun _=>.inl rfl) (.inr ⟨_,vs.toArray,_,hk,rfl,rfl,rfl,by rw [Hn,lenV];exact hl,by simpa using rv⟩) (fun b u z=>by have z':(none:Option HO)=some u:=z;cases z') (fun b z=>absurd rfl z) fun z=>absurd rfl z
 | none =>
   refine core (fun b=>if b=a then some (.frz { cls:=.type "list",data:=.seq vs.toArray } (.lst (ns.map V.int))) else none) (fun b=>?_) (.inl (.inr ⟨{ cls:=.type "list",data:=.seq vs.toArray },if_pos rfl⟩)) (fun b u z=>?_) (fun b z=>?_) fun _=>hk
   ·by_cases j:b=a
    ·exact .inr ⟨_,_,if_pos j⟩
    ·exact .inl (if_neg j)
   ·by_cases j:b=a
    ·have z':=(if_pos j).symm.trans z
     cases z'
     subst j;exact ⟨U,by rw [H8];exact hl,vs,_,rv,U⟩
    ·have z':=(if_neg j).symm.trans z
     cases z'
   ·by_cases j:b=a
    ·exact j
    ·exact absurd (if_neg j) z
end
section
theorem walk_of {l:OY} {n k:Nat} {q:HB} {loose:List Str} {XP:(Str->Option hH)->Heap->Prop} {YP:HX->Heap->Prop} {d:DefRec} {K:Params->Frag} {CX:HX->CXT} {sp:HX->Sp} {x:Str}
 (U:l.most=some n) (z:n<=Hd) (B:d.params.defaults=[]) (Z:Room k PN)
 (hY:∀ (w:HX) (h:Heap),YP w h->(K w.params).In h)
 (F:∀ (w:HX) (mg:Str->Option hH) (fa:Addr) (h:Heap),(K w.params).In h->h.Ns J3 mg->mg d.name=some (.ref fa) ->
   ∃ fd:Li,(∀ (s:tv) (u:hH),QE s fd ⟨[u],[]⟩ [(x,u)]) /\
    ∀ base:Heap,(K w.params).In base->base.Ns J3 mg->dP l.prog w (K w.params) mg base (CX w) k fa fd [x] (sp w))
 (J:∀ (w:HX) (H:Hp) (a:Addr) (ns:List Int),ns.length<=n->rS H->SqL (K w.params) H a (ns.map V.int)->sp w [.ref a] H (fun v _=>v = .bl true) fun _ _ _=>False)
 (L:∀ (w:HX) (H:Hp) (s:tv) (e:hH) (s':tv),CX w [] H s (fun _ _ _=>False) e s'->False) :
 PySem.W.WalkO q loose XP YP l.row.toRowW d [] (fun f vs=>Sa f vs):=by
 refine Att.attach_call U B fun w s₀ s₁ mg mb fa o pm cd doc a vs ns G Y ho hd ES O j hints hlen hg=>?_;have KX:=hY w _ Y;obtain ⟨fd,hb,hF⟩:=F w mg fa _ KX G.T.g O;exact wV KX G.T.g G.T.b G.T.builtins G.T.nolimit hg j hints (Jp hlen z) Z hF hb (fun H hO hS=>J w H a ns hlen hO hS) fun H e s'=>L w H s₁ e s'
end
section
noncomputable def dC (s:Stmt):Arguments:=match s with
 | .FunctionDef _ a _ _ _ _ _ _ _ _=>a
 | _=>{ posonlyargs:=[],args:=[],vararg:=none,kwonlyargs:=[],kw_defaults:=[],kwarg:=none,defaults:=[] }
noncomputable def bU (s:Stmt):List Stmt:=match s with
 | .FunctionDef _ _ b _ _ _ _ _ _ _=>b
 | _=>[]
noncomputable def aw (s:Stmt):Scope:=match s with
 | .FunctionDef _ _ _ _ _ _ sc _ _ _=>sc
 | _=>{ kind:=.function,names:=[],isGenerator:=false,isCoroutine:=false }
noncomputable abbrev CX0:CXT:=fun _ _ _ _ _ _=>False
noncomputable abbrev E0:XK:=fun _ _ _=>False
theorem zn {X:Cx}:jo CX0 X E0:=fun _ _ _ _ _ _ _ h=>h.elim
structure Fun (K:Frag) (x qual:Str) (st:Stmt) (f:Addr) (fd:Li):Prop where
 ex:∃ (oc:hH) (od:Option Addr) (kV doc pm:hH) (an:Option Addr) (cdv ct:hH) (osl:Array (Option hH)),
  fd=KS x qual (dC st) (bU st) (aw st) .none kV doc pm an cdv ct/\K.lookup f=some ⟨oc,od,.func fd,osl⟩/\NH K cdv qual=true
 kp:Lj K (.ref f)=true
section
variable {P:HB} {w:HX} {K:Frag} {mg:Str->Option hH} {base:Heap}
theorem Fun.ok {x qual:Str} {st:Stmt} {f:Addr} {fd:Li} {N ps:List Str} {k:Nat} {sp:Sp} (F:Fun K x qual st f fd) (S:gK N ps (aw st)) (len:∀ vs H Q E,sp vs H Q E->vs.length=ps.length)
 (j:∀ (cdv:hH) (A:I0) (outer:List Env) (s:tv) (H:Hp) (vs:List V) (Q:VK) (E:XK),Room k (A.deeper (Pb qual (aw st) s.heap.objs.size f cdv))->sp vs H Q E ->
   ∃ t,PSs (iM CX0 P w K mg base N qual (aw st) f cdv A outer s H E).nox (bU st) t/\t { nx:=fun _ H'=>Q .non H',rt:=Q } (cQ N vs) H):dP P w K mg base CX0 (k+1) f fd ps sp:=by
 obtain ⟨oc,od,kV,doc,pm,an,cdv,ct,osl,rfl,lk,z⟩:=F.ex;refine DI lk z S len fun A outer s H vs Q E G B=>?_;obtain ⟨t,h,q⟩:=j cdv A outer s H vs Q E G B;exact ⟨t,h.nox,q⟩
theorem Fun.binds {x qual:Str} {st:Stmt} {f:Addr} {fd:Li} {ps:List Str} (F:Fun K x qual st f fd)
 (h:∀ (kV doc pm:hH) (an:Option Addr) (cdv ct:hH) (us:List hH),us.length=ps.length->bindArgs (KS x qual (dC st) (bU st) (aw st) .none kV doc pm an cdv ct) ⟨us,[]⟩=pure (ps.zip us)):Binds K fd ps []:=by
 obtain ⟨oc,od,kV,doc,pm,an,cdv,ct,osl,rfl,lk,j⟩:=F.ex;exact .all (h kV doc pm an cdv ct)
theorem ai {x qual:Str} {st:Stmt} {f:Addr} {oc:hH} {od an:Option Addr} {osl:Array (Option hH)} {kV doc pm cdv ct:hH} (l:K.lookup f=some ⟨oc,od,.func (KS x qual (dC st) (bU st) (aw st) .none kV doc pm an cdv ct),osl⟩)
 (c:NH K cdv qual=true) (k:Lj K (.ref f)=true):Fun K x qual st f (KS x qual (dC st) (bU st) (aw st) .none kV doc pm an cdv ct):=⟨⟨oc,od,kV,doc,pm,an,cdv,ct,osl,rfl,l,c⟩,k⟩
end
end
end L2
namespace HT
open PySem PySem.Spec PyProof.Rows
section
variable {prog:HB} {w:HX} {A:I0} {E:hH->tv->Prop} {s:tv}
theorem getItem_tuple_whole {t sl:Addr} {items:Array hH} {vl vu:hH} {lo hi:Option Int} {Q:hH->tv->Prop} (j:RB s.heap t items) (hs:s.heap.IsSliceOf sl vl vu .none) (pl:OF vl lo) (pu:OF vu hi)
 (hw:sIx items.size 0 lo=0/\sIx items.size items.size hi=items.size) (h:Q (.ref t) s):Hh (model prog w) A (NZ (.ref t) (.ref sl)) Q E s:=by
 obtain ⟨os,q,z,G⟩:=id hs;have B:s.TypeIs (.ref sl) "slice":=⟨os,q,z⟩;unfold NZ
 try with_reducible refine I7 ?_
 first | refine gV (hW ?_) | skip
 refine gV (QG j.typeIs (by decide) ?_)
 refine gV (HN (name:=Iy "__getitem__") j.typeIs JE
  (HK JE j.typeIs PU ?_ (Ql _ _)))
 show Hh _ _ (NK (.ref t) >>= _) _ _ s;refine gV (tupleItemsOf_ j ?_);refine gV (Jy B ?_);rw [if_pos (by decide)]
 refine gV (dQ hs pl pu ?_);have F:(((sIx items.size 0 lo:Nat):Int)==0&&(1:Int)==1&&(sIx items.size items.size hi - sIx items.size 0 lo)==items.size)=true:=by
  rw [hw.1,hw.2];simp
 show Hh _ _ (if (((sIx items.size 0 lo:Nat):Int)==0&&(1:Int)==1&&(sIx items.size items.size hi - sIx items.size 0 lo)==items.size)=true then _ else _) _ _ s
 rw [if_pos F];refine gV (m:=NL (.ref t)) ?_;unfold NL;refine gV (Jy j.typeIs (hW ?_));show Hh _ _ (if true=true then _ else _) _ _ s
 rw [if_pos rfl];exact gV (J6 (hW ⟨_,rfl,hW h⟩))
end
end HT
namespace L2
open PySem PySem.Spec PyProof.Rows
section
section
variable {X:Cx}
noncomputable def EE (K:Frag):V->Option Int->Option Int->Hp->VK->Prop:=fun x lo hi H Q=>∃ a xs,x = .ref a/\SqT K H a xs/\(HT.sIx xs.length 0 lo=0/\HT.sIx xs.length xs.length hi=xs.length)/\Q x H
theorem wW:SlR X (EE X.K):=by
 intro pins s σ H x v vl vu lo hi sl Q I rx hs pl pu h;obtain ⟨a,xs,rfl,hx,hw,q⟩:=h
 cases rx
 obtain ⟨its,r,j,hz⟩:=I.tuple hx;have hlen:=r.length;refine ⟨"tuple",_,slot_tuple_getitem.lookup,j.typeIs,?_⟩;refine HT.getItem_tuple_whole j hs pl pu (by rw [Hn,<- hlen];exact hw) ⟨.ref a,H,I,rfl,q⟩
end
end
section
section
variable {κ:Type} [DecidableEq κ]
noncomputable def be (kvs:List (κ × V)) (k : κ):Option V:=(kvs.find? fun kv=>decide (kv.1=k)).map (·.2)
noncomputable def bf (kvs:List (κ × V)) (k : κ) (v:V):List (κ × V) :=
 if (kvs.any fun kv=>decide (kv.1=k))=true then kvs.map (fun kv=>if kv.1=k then (kv.1,v) else kv) else kvs++[(k,v)]
noncomputable def cR (kvs:List (κ × V)) (k : κ):List (κ × V):=kvs.filter fun kv=>decide (kv.1≠k)
theorem fy {p : κ × V} {r:List (κ × V)} {k : κ} (e:p.1=k):be (p::r) k=some p.2:=by simp [be,Je,e]
theorem fA {p : κ × V} {r:List (κ × V)} {k : κ} (e : ¬ p.1=k):be (p::r) k=be r k:=by simp [be,Je,e]
theorem iP (k : κ):∀ kvs:List (κ × V),(kvs.any fun kv=>decide (kv.1=k))=(be kvs k).isSome
 | []=>rfl
 | p::r=>by
   rw [La]
   by_cases e:p.1=k
   ·simp only [fy e,decide_eq_true e,Bool.true_or,Qm]
   ·rw [fA e,decide_eq_false e,O9];exact iP k r
theorem cS (kvs:List (κ × V)) (k : κ) (v:V):(bf kvs k v).length<=kvs.length+1:=by
 unfold bf
 split
 ·rw [H8];omega
 ·rw [H9,Io,Jd];omega
theorem RelO.isSome_eq {o:Option V} {u:Option hH} (r:RelO o u):o.isSome=u.isSome:=by
 cases o with
 | none=>cases u with
   | none=>rfl
   | some _=>exact (show False from r).elim
 | some _=>cases u with
   | none=>exact (show False from r).elim
   | some _=>rfl
theorem RelO.getD {o:Option V} {u:Option hH} {d:V} {d':hH} (r:RelO o u) (rd:RelV d d'):RelV (o.getD d) (u.getD d'):=by
 cases o with
 | none=>cases u with
   | none=>exact rd
   | some _=>exact (show False from r).elim
 | some _=>cases u with
   | none=>exact (show False from r).elim
   | some _=>exact r
theorem KV.val {kvs:List (κ × V)} {vs:List (κ × hH)} (r:KV kvs vs) (k : κ):RelO (be kvs k) (PQ vs k):=by
 unfold KV at r
 induction r with
 | nil=>exact Kf
 | @cons p q ps qs h t ih =>
  obtain ⟨h1,h2⟩:=h
  by_cases e:p.1=k
  ·have e':q.1=k:=h1.symm.trans e;have b:PQ (q::qs) k=some q.2:=by simp [PQ,Je,e']
   rw [fy e,b];exact h2
  ·have e' : ¬ q.1=k:=fun z=>e (h1.trans z);have b:PQ (q::qs) k=PQ qs k:=by simp [PQ,Je,e']
   rw [fA e,b];exact ih
theorem KV.any {kvs:List (κ × V)} {vs:List (κ × hH)} (r:KV kvs vs) (k : κ):(kvs.any fun kv=>decide (kv.1=k))=vs.any fun kv=>decide (kv.1=k):=by
 unfold KV at r
 induction r with
 | nil=>rfl
 | cons h t ih=>rw [La,La,ih,h.1]
theorem KV.repl {kvs:List (κ × V)} {vs:List (κ × hH)} (r:KV kvs vs) (k : κ) {y:V} {u:hH} (ry:RelV y u) :
 KV (kvs.map fun kv=>if kv.1=k then (kv.1,y) else kv) (vs.map fun kv=>if kv.1=k then (kv.1,u) else kv):=by
 unfold KV at r ⊢
 induction r with
 | nil=>exact .nil
 | @cons p q ps qs h t ih =>
  rw [Hj,Hj];refine .cons ?_ ih;obtain ⟨h1,h2⟩:=h
  by_cases e:p.1=k
  ·rw [if_pos e,if_pos (h1.symm.trans e)];exact ⟨h1,ry⟩
  ·rw [if_neg e,if_neg (fun z=>e (h1.trans z))];exact ⟨h1,h2⟩
theorem KV.put {kvs:List (κ × V)} {vs:List (κ × hH)} (r:KV kvs vs) (k : κ) {y:V} {u:hH} (ry:RelV y u):KV (bf kvs k y) (stored vs k u):=by
 unfold bf stored;rw [r.any k]
 by_cases e:(vs.any fun kv=>decide (kv.1=k))=true
 ·rw [if_pos e,if_pos e];exact r.repl k ry
 ·rw [if_neg e,if_neg e];exact Paired.snoc r ⟨rfl,ry⟩
theorem KV.length {kvs:List (κ × V)} {vs:List (κ × hH)} (r:KV kvs vs):kvs.length=vs.length:=JL r
theorem wX (kvs:List (κ × V)) (k : κ):(cR kvs k).length<=kvs.length:=HU _ _
end
theorem jt {P:HB} {w:HX} {k:Key} {u:hH} (r:RelV (kV k) u):(ar P w).is k u=true:=by
 cases k with
 | inl i=>obtain ⟨t,e⟩:=(show ∃ t,u=R4 i t from r);subst e;exact qc P w i t
 | inr x=>obtain ⟨t,e⟩:=(show ∃ t,u=R6 x t from r);subst e;exact qd P w x t
theorem lw {P:HB} {w:HX}:∀ {ks:List Key} {us:List hH},Vals (ks.map kV) us->ItemsAre (ar P w) ks us
 | [],_,r=>by rw [Mg] at r;cases r;exact .nil
 | k::ks,_,r=>by
   rw [Hj] at r
   cases r with
   | cons h t=>exact .cons (jt h) (lw t)
noncomputable abbrev KT (H:Hp):List (List Key×V)->List (List Key×Addr×hH)->Prop:=I8 fun p q=>p.1=q.1/\H q.2.1=some (.tup (p.1.map kV))/\RelV p.2 q.2.2
theorem KT.val {H:Hp} {kvs:List (List Key×V)} {xs:List (List Key×Addr×hH)} (r:KT H kvs xs) (k:List Key):RelO (be kvs k) ((Pg xs k).map (·.2)):=by
 induction r with
 | nil=>exact Kf
 | @cons p q ps qs h t ih =>
  obtain ⟨h1,_,h2⟩:=h
  by_cases e:p.1=k
  ·have e':q.1=k:=h1.symm.trans e;have b:Pg (q::qs) k=some q.2:=by simp [Pg,Je,e']
   rw [fy e,b];exact h2
  ·have e' : ¬ q.1=k:=fun z=>e (h1.trans z);have b:Pg (q::qs) k=Pg qs k:=by simp [Pg,Je,e']
   rw [fA e,b];exact ih
theorem KT.repl {H:Hp} {kvs:List (List Key×V)} {xs:List (List Key×Addr×hH)} (r:KT H kvs xs) (k:List Key) {y:V} {u:hH} (ry:RelV y u) :
 KT H (kvs.map fun kv=>if kv.1=k then (kv.1,y) else kv) (xs.map (putAt k u)):=by
 induction r with
 | nil=>exact .nil
 | @cons p q ps qs h t ih =>
  rw [Hj,Hj];refine .cons ?_ ih;obtain ⟨h1,h2,j⟩:=h;unfold putAt
  by_cases e:p.1=k
  ·rw [if_pos e,if_pos (h1.symm.trans e)];exact ⟨h1,h2,ry⟩
  ·rw [if_neg e,if_neg (fun z=>e (h1.trans z))];exact ⟨h1,h2,j⟩
theorem KT.put {H:Hp} {kvs:List (List Key×V)} {xs:List (List Key×Addr×hH)} (r:KT H kvs xs) (k:List Key) {b:Addr} {y:V} {u:hH} (j:H b=some (.tup (k.map kV))) (ry:RelV y u) :
 KT H (bf kvs k y) (storedH xs k b u):=by
 have e:(kvs.any fun kv=>decide (kv.1=k))=(Pg xs k).isSome:=by
  rw [iP,(r.val k).isSome_eq,QI]
 unfold bf storedH;rw [e]
 by_cases q:(Pg xs k).isSome=true
 ·rw [if_pos q,if_pos q];exact r.repl k ry
 ·rw [if_neg q,if_neg q];exact Paired.snoc r ⟨rfl,j,ry⟩
theorem KT.keeps {H H':Hp} {kvs:List (List Key×V)} {xs:List (List Key×Addr×hH)} (r:KT H kvs xs) (j:∀ b ys,H b=some (.tup ys)->H' b=some (.tup ys)):KT H' kvs xs :=
 SH r fun _ _ z=>⟨z.1,j _ _ z.2.1,z.2.2⟩
section
variable {P:HB} {w:HX} {H:Hp} {h:Heap} {a:Addr}
theorem zo {u:HO} (ok:HOk P w H h) (e:Rd H a u):ObjOk P w H h a u:=e.ok ok
theorem ju {kvs:List (Key×V)} (ok:HOk P w H h) (e:Rd H a (.dK kvs)):kvs.length<=Hd/\(a==Ir)=false /\ ∃ vs,KV kvs vs/\h.DictOf (ar P w) a vs :=
 show ObjOk P w H h a (.dK kvs) from zo ok e
theorem DM {kvs:List (Key×V)} (ok:HOk P w H h) (e:H a=some (.dK kvs)):kvs.length<=Hd/\(a==Ir)=false /\ ∃ vs,KV kvs vs/\h.DictOf (ar P w) a vs:=ju ok (.inl e)
theorem dR {ks:List Key} (ok:HOk P w H h) (e:H a=some (.tup (ks.map kV))):(IP (ar P w)).is h ks a:=by
 obtain ⟨_,its,r,o,h1,h2,n,j⟩:=(show ObjOk P w H h a (.tup (ks.map kV)) from ok a _ e);exact ⟨o,its.toArray,n,h1,h2,j,by simpa using lw r⟩
theorem eE {kvs:List (List Key×V)} (ok:HOk P w H h) (e:Rd H a (.dT kvs)):kvs.length<=Hd/\(a==Ir)=false /\
 ∃ xs,KT H kvs xs/\h.DictOfH (IP (ar P w)) a xs:=by
 obtain ⟨z,y,xs,r,o,es,ep,h1,h2,j,B,F⟩:=(show ObjOk P w H h a (.dT kvs) from zo ok e);refine ⟨z,y,xs,r,o,es,ep,h1,h2,j,B,fun x hx=>?_,F⟩;have all:∀ {l:List (List Key×V)} {m:List (List Key×Addr×hH)},KT H l m -> ∀ x∈m,(IP (ar P w)).is h x.1 x.2.1:=by
  intro l m q
  induction q with
  | nil=>intro x hx;exact nomatch hx
  | @cons p q ps qs hq t ih =>
   intro x hx
   rcases He.mp hx with e | hx
   ·subst e;exact dR ok (by rw [<- hq.1];exact hq.2.1)
   ·exact ih x hx
 exact all r x hx
theorem rT {kvs:List (List Key×V)} (ok:HOk P w H h) (e:H a=some (.dT kvs)):kvs.length<=Hd/\(a==Ir)=false /\
 ∃ xs,KT H kvs xs/\h.DictOfH (IP (ar P w)) a xs:=eE ok (.inl e)
end
def DGet (H:Hp) (a:Addr) (y:V) (r:Option V):Prop :=
 (∃ kvs k,Rd H a (.dK kvs)/\y=kV k/\r=be kvs k)∨∃ kvs k b,Rd H a (.dT kvs)/\y = .ref b/\H b=some (.tup (k.map kV))/\r=be kvs k
def DPut (H:Hp) (a:Addr) (y v:V) (H':Hp):Prop :=
 (∃ kvs k,H a=some (.dK kvs)/\y=kV k/\kvs.length < Hd/\H'=upd H a (.dK (bf kvs k v))) ∨
 ∃ kvs k b,H a=some (.dT kvs)/\y = .ref b/\H b=some (.tup (k.map kV))/\kvs.length < Hd/\H'=upd H a (.dT (bf kvs k v))
theorem DGet.k {H:Hp} {a:Addr} {kvs:List (Key×V)} {k:Key} (e:H a=some (.dK kvs)):DGet H a (kV k) (be kvs k):=.inl ⟨kvs,k,.inl e,rfl,rfl⟩
theorem DPut.k {H:Hp} {a:Addr} {kvs:List (Key×V)} {k:Key} {v:V} (e:H a=some (.dK kvs)) (j:kvs.length < Hd):DPut H a (kV k) v (upd H a (.dK (bf kvs k v))):=.inl ⟨kvs,k,e,rfl,j,rfl⟩
theorem DPut.t {H:Hp} {a b:Addr} {kvs:List (List Key×V)} {k:List Key} {v:V} (e:H a=some (.dT kvs)) (eb:H b=some (.tup (k.map kV))) (j:kvs.length < Hd) :
 DPut H a (.ref b) v (upd H a (.dT (bf kvs k v))):=.inr ⟨kvs,k,b,e,rfl,eb,j,rfl⟩
section
variable {X:Cx} {pins:List (Addr×Obj)} {σ:St} {H:Hp} {s:tv} {a:Addr} {y v:V} {u r:hH} {o:Option V} {A:I0} {E:hH->tv->Prop}
theorem Inv.big (I:Inv X pins σ H s):Ir < s.heap.objs.size:=by
 have h:J3 < s.heap.objs.size:=(I.mod.glob.keeps I.bk).lt;exact Nat.lt_trans (by decide) h
theorem u5 {Q:hH->tv->Prop} (q:A.units+1 < Js) (I:Inv X pins σ H s) (g:DGet H a y (some v)) (ry:RelV y u) (h:∀ w' s',Inv X pins σ H s'->RelV v w'->Q w' s') :
 Hh (model X.prog X.w) A (NZ (.ref a) u) Q E s:=by
 rcases g with ⟨kvs,k,e,ey,l⟩ | ⟨kvs,k,b,e,ey,eb,l⟩
 ·subst ey;obtain ⟨z,hd,vs,rel,dd⟩:=ju I.hok e;obtain ⟨w',hw,rw'⟩:=SV (v:=v) (o:=PQ vs k) (by rw [l];exact rel.val k)
  exact wpAny_getItem_of (jt ry) dd.mapOf hw (h w' _ (I.tok _) rw')
 ·subst ey
  cases (show u=Ht b from ry)
  obtain ⟨z,hd,xs,rel,dd⟩:=eE I.hok e;obtain ⟨w',hw,rw'⟩:=SV (v:=v) (o:=(Pg xs k).map (·.2)) (by rw [l];exact rel.val k)
  obtain ⟨p,B,j⟩:=Mh.mp hw;refine wpAny_getItem_heap (JI q) (dR I.hok eb) dd B ?_;rw [j];exact h w' _ (I.tok _) rw'
theorem A6 {Q:hH->tv->Prop} (j:A.units+1 < Js) (I:Inv X pins σ H s) (g:DGet H a y o) (ry:RelV y u) (h:∀ s',Inv X pins σ H s'->Q (.bool (!o.isSome)) s') :
 Hh (model X.prog X.w) A (IW .NotIn u (.ref a)) Q E s:=by
 rcases g with ⟨kvs,k,e,ey,l⟩ | ⟨kvs,k,b,e,ey,eb,l⟩
 ·subst ey;obtain ⟨z,hd,vs,rel,dd⟩:=ju I.hok e;refine wpAny_notIn_of (jt ry) hd dd.mapOf ?_;rw [<- (rel.val k).isSome_eq,<- l];exact h _ (I.tok _)
 ·subst ey
  cases (show u=Ht b from ry)
  obtain ⟨z,hd,xs,rel,dd⟩:=eE I.hok e;refine wpAny_notIn_heap (JI j) (dR I.hok eb) hd dd ?_;have q:=(rel.val k).isSome_eq;rw [QI] at q;rw [<- q,<- l];exact h _ (I.tok _)
theorem gL {h':Heap} {t':Nat} {ob:HO} (I:Inv X pins σ H s) (mu:Mut (H a)) (hs:IQ a s.heap h') (he:∃ q,h'.get? a=some q) (new:ObjOk X.prog X.w (upd H a ob) h' a ob) :
 Inv X pins σ (upd H a ob) { s with heap:=h',toks:=t' } :=
 I.write (x:=a) (e:=a) mu (.inl rfl) (fun b q j z=>(hs.2 b j).trans z) he new
theorem C1 {P:HB} {w:HX} {H':Hp} {h':Heap} {kvs:List (Key×V)} {vs:List (Key×hH)} (z:kvs.length<=Hd) (hd:(a==Ir)=false) (rel:KV kvs vs) (dd:h'.DictOf (ar P w) a vs) :
 ObjOk P w H' h' a (.dK kvs):=⟨z,hd,vs,rel,dd⟩
theorem u6 {H':Hp} {Q:Unit->tv->Prop} (F:A.units+1 < Js) (I:Inv X pins σ H s) (g:DPut H a y v H') (ry:RelV y u) (rv:RelV v r) (h:∀ s',Inv X pins σ H' s'->Q () s') :
 Hh (model X.prog X.w) A (NY (.ref a) u r) Q E s:=by
 rcases g with ⟨kvs,k,e,ey,l,eH⟩ | ⟨kvs,k,b,e,ey,eb,l,eH⟩
 ·subst ey eH;obtain ⟨z,hd,vs,rel,dd⟩:=DM I.hok e;have hz:vs.length<=Hd:=by rw [<- rel.length];exact z
  have B:(bf kvs k v).length<=Hd:=by have:=cS kvs k v;omega
  refine wpAny_setItem_pairs (hsz:=hz) (jt ry) dd fun h' dd' hs=>h _ ?_;have he:∃ q,h'.get? a=some q:=let ⟨q,_,_,j,_⟩:=dd'; ⟨q,j⟩;exact gL I (by rw [e];exact Kf) hs he (C1 B hd (rel.put k rv) dd')
 ·subst ey eH
  cases (show u=Ht b from ry)
  obtain ⟨z,hd,xs,rel,dd⟩:=rT I.hok e;have hz:xs.length<=Hd:=by rw [<- JL rel];exact z
  have B:(bf kvs k v).length<=Hd:=by have:=cS kvs k v;omega
  refine wpAny_setItem_heap (hsz:=hz) (JI F) (dR I.hok eb) dd fun h' dd' hs=>h _ ?_;obtain ⟨q,es,ep,j,h2,G,J,_,L⟩:=dd';refine gL I (by rw [e];exact Kf) hs ⟨q,j⟩ ⟨B,hd,_,(rel.put k eb rv).keeps fun c ys ec=>?_,q,es,ep,j,h2,G,J,L⟩
  rw [ah (rE ec e (fun z=>nomatch z))];exact ec
end
theorem wY {P:HB} {w:HX} {H:Hp} (h:Heap) (j:Ir < h.objs.size):ObjOk P w H (h.push { cls:=.type "dict",data:=.dict #[] }) h.objs.size (.dK []) :=
 ⟨Jj _,beq_eq_false_iff_ne.mpr (Ne.symm (HJ j)),[],.nil,Heap.DictOf.new h⟩
theorem nD {P:HB} {w:HX} {H:Hp} (h:Heap) (j:Ir < h.objs.size):ObjOk P w H (h.push { cls:=.type "dict",data:=.dict #[] }) h.objs.size (.dT []) :=
 ⟨Jj _,beq_eq_false_iff_ne.mpr (Ne.symm (HJ j)),[],.nil,_,#[],0,GZ _ rfl,⟨rfl,rfl,rfl⟩,rfl,rfl,List.nodup_nil⟩
noncomputable def C2:TE:=fun _ H Q=>∀ p,H p=none->Q (.ref p) (upd H p (.dK []))
noncomputable def C3:TE:=fun _ H Q=>∀ p,H p=none->Q (.ref p) (upd H p (.dT []))
section
variable {X:Cx} {pos:Pos}
theorem wZ:PE X (.Dict [] [] pos) C2:=fun pins s σ H Q I h =>
 Ra ⟨.ref s.heap.objs.size,_,I.laid (a:=s.heap.objs.size) (o:=.dK []) (t':=s.toks) (fun _ _ q=>h6 _ q) (Hg _) (wY s.heap I.big),rfl,h _ (I.hok.fresh (Hg _))⟩
theorem xc:PE X (.Dict [] [] pos) C3:=fun pins s σ H Q I h =>
 Ra ⟨.ref s.heap.objs.size,_,I.laid (a:=s.heap.objs.size) (o:=.dT []) (t':=s.toks) (fun _ _ q=>h6 _ q) (Hg _) (nD s.heap I.big),rfl,h _ (I.hok.fresh (Hg _))⟩
end
structure M2 (X:Cx) (o:Expr) (m:Str) (apos:Pos) (e f:Expr) (cpos:Pos):Prop where
 base:MU o m X.env (eval o X.env)=eval o X.env
 few:((LM cpos (HP [e,f] X.env)).all (fun x=>!x.1)&&(backToKw cpos (RC [] X.env)).all (fun x=>x.1.isSome)
  && decide (([e,f]:List Expr).length+([]:List OK).length+(if ([]:List OK).isEmpty then 0 else 1) < 30))=true
 line:(apos.endLine==cpos.line)=true
 trees:LM cpos (HP [e,f] X.env)=[(false,eval e X.env),(false,eval f X.env)]
def IsD (H:Hp) (a:Addr):Prop:=(∃ kvs,Rd H a (.dK kvs))∨∃ kvs,Rd H a (.dT kvs)
theorem cW {X:Cx} {pins:List (Addr×Obj)} {σ:St} {H:Hp} {s:tv} {a:Addr} (I:Inv X pins σ H s) (d:IsD H a) :
 s.TypeIs (.ref a) "dict" /\ (∀ b,Ht a = .ref b -> ∃ ob,s.heap.get? b=some ob/\ob.dict=none)/\(a==Ir)=false:=by
 rcases d with ⟨kvs,e⟩ | ⟨kvs,e⟩
 ·obtain ⟨_,hd,vs,_,dd⟩:=ju I.hok e;refine ⟨dd.typeIs,fun b q=>?_,hd⟩
  cases q
  obtain ⟨ob,_,_,h1,h2,_⟩:=dd;exact ⟨ob,h1,h2.2.1⟩
 ·obtain ⟨_,hd,xs,_,dd⟩:=eE I.hok e;refine ⟨dd.typeIs,fun b q=>?_,hd⟩
  cases q
  obtain ⟨ob,_,_,h1,h2,_⟩:=dd;exact ⟨ob,h1,h2.2.1⟩
section
variable {X:Cx} {pins:List (Addr×Obj)} {σ:St} {H:Hp} {s:tv} {a:Addr} {y d:V} {u r:hH} {o:Option V} {A:I0} {E:hH->tv->Prop}
theorem C4 {Q:hH->tv->Prop} (j:A.units+1 < Js) (I:Inv X pins σ H s) (g:DGet H a y o) (ry:RelV y u) (rd:RelV d r) (h:∀ w' s',Inv X pins σ H s'->RelV (o.getD d) w'->Q w' s') :
 Hh (model X.prog X.w) A (call (.builtin "dict.get") [.ref a,u,r]) Q E s:=by
 rcases g with ⟨kvs,k,e,ey,l⟩ | ⟨kvs,k,b,e,ey,eb,l⟩
 ·subst ey;obtain ⟨z,hd,vs,rel,dd⟩:=ju I.hok e;refine QJ Mt dd.typeIs OM (Ol _ _ _) (meets_dict_get_default (ar X.prog X.w) a (jt ry) hd r) ⟨_,dd.mapOf,h _ _ (I.tok _) ?_⟩;rw [l];exact (rel.val k).getD rd
 ·subst ey
  cases (show u=Ht b from ry)
  obtain ⟨z,hd,xs,rel,dd⟩:=eE I.hok e;refine QJ Mt dd.typeIs OM (Ol _ _ _) (meetsH_dict_get_default (IP (ar X.prog X.w)) a b hd r) ⟨JI j,k,xs,dR I.hok eb,dd,h _ _ (I.tok _) ?_⟩;rw [l];exact (rel.val k).getD rd
end
noncomputable def C5 (td ty tx:TE):TE:=fun σ H Q=>td σ H fun x H1=>∃ a,x = .ref a/\IsD H1 a/\ty σ H1 fun y H2=>tx σ H2 fun z H3=>∃ o,DGet H3 a y o/\Q (o.getD z) H3
section
variable {X:Cx} {o e f:Expr} {apos cpos:Pos} {td ty tx:TE}
theorem xf (q:X.A.units+1 < Js) (ho:PE X o td) (he:PE X e ty) (hf:PE X f tx) (m:M2 X o "get" apos e f cpos):PE X (.Call (.Attribute o "get" apos) [e,f] [] cpos) (C5 td ty tx):=by
 intro pins s σ H Q I h;refine QK m.base m.few m.line Lk Mt PySem.F.type_dict_get (thn (ho pins s σ H _ I h) fun u s1 ⟨x,H1,j,rx,a,ex,d,B⟩=>?_);subst ex;obtain rfl:u=Ht a:=rx;obtain ⟨t1,G,_⟩:=cW j d;refine ⟨t1,G,?_⟩;rw [m.trees];refine K7 rfl (MZ (Kg (thn (he pins s1 σ H1 _ j B) fun iv s2 ⟨y,H2,J,ry,L⟩ =>
  Kg (thn (hf pins s2 σ H2 _ J L) fun fv s3 ⟨z,O,U,rz,ov,g,Y⟩=>Md ?_))))
 exact C4 q U g ry rz fun w' s4 Z rw'=>⟨_,O,Z,rw',Y⟩
end
end
section
noncomputable def aZ (elt:Expr) (gens:List ID) (scope:Scope) (pos:Pos) (d:Nat) (acc:hH) (env:Env) (k:Sem Fin):Sem Fin :=
 match gens[d+1]? with
 | some g'=>eval g'.iter env >>= fun x=>MR g'.iter.pos >>= fun _=>JS g'.iter env x >>= fun x=>holding [x] (O8 x) >>= fun it' =>
    runOwn (.compStart (.ListComp elt gens scope pos) (d+1) it' acc env) env >>= fun _=>k
 | none=>(eval elt env >>= fun x=>call (.builtin "list.append") [acc,x] >>= fun _=>pure ()) >>= fun _=>k
noncomputable def bh (ifs:List Expr) (env:Env):Sem Bool :=
 forIn ifs true fun c r=>if r=true then do let ok <- isTrue c env (eval c env);pure (KY ok) else pure (KY r)
theorem nE (elt target iter:Expr) (ifs:List Expr) (gens:List ID) (scope:Scope) (pos:Pos) (d:Nat) (it acc:hH) (env:Env)
 (hd:gens[d]? = some ⟨target,iter,ifs,0⟩) (j:∀ g',gens[d+1]? = some g'->g'.is_async=0) :
 compTurn (.ListComp elt gens scope pos) d it acc env=(MR iter.pos >>= fun _=>JD it >>= fun r=>match r with
  | none=>pure (.done .next)
  | some v=>N9 target it v >>= fun _=>assign target env v >>= fun _=>bh ifs env >>= fun ok =>
    (if ok=true then aZ elt gens scope pos d acc env (again (.compLoop (.ListComp elt gens scope pos) d it acc env)) else again (.compLoop (.ListComp elt gens scope pos) d it acc env))):=by
 unfold compTurn;simp only [hd];unfold aZ bh
 cases hn:gens[d+1]? with
 | none=>rfl
 | some g' =>
   obtain ⟨t',i',f',a'⟩:=g';have e:a'=0:=j _ hn;subst e;rfl
noncomputable abbrev TC:=St->Hp->(St->Hp->Prop)->Prop
def cv (J:It) (g:TG) (tb:TC) (N:St->Hp->Prop) (σ:St) (H:Hp):Prop :=
 ∃ W:Nat->Nat->St->Hp->Prop,(∃ m,W 0 m σ H) /\ ∀ i m σ H,W i m σ H ->
  (J.stop i H/\N σ H)∨(J.go i H /\ ∃ N':St->Hp->Prop,(∀ σ' H',N' σ' H' -> ∃ m',m' < m/\W (i+1) m' σ' H') /\ ∀ x H',J.yld i H x H'->g x σ H' fun σ2 H2=>tb σ2 H2 N')
def PB (X:Cx) (F:Sem Fin->Sem Fin) (t:TC):Prop :=
 ∀ (pins:List (Addr×Obj)) (s:tv) (σ:St) (H:Hp) (N:St->Hp->Prop) (k:Sem Fin) (Q:Fin->tv->Prop) (E:hH->tv->Prop),Inv X pins σ H s->t σ H N ->
  (∀ s' σ' H',Inv X pins σ' H' s'->N σ' H'->Hh (model X.prog X.w) X.A k Q E s')->Hh (model X.prog X.w) X.A (F k) Q E s
section
variable {X:Cx}
theorem nox {α:Type} {m:Sem α} {Q : α -> tv->Prop} {E:hH->tv->Prop} {s:tv} (hx:∀ e s,X.xe e s->False) (h:Hh (model X.prog X.w) X.A m Q X.xe s):Hh (model X.prog X.w) X.A m Q E s :=
 IK h (fun _ _ q=>q) fun e s' q=>(hx e s' q).elim
noncomputable def jv (ts:List TT) (tb:TC):TC:=match ts with
 | []=>tb
 | t::r=>fun σ H N=>t σ H fun b H1=>if b=true then jv r tb σ H1 N else N σ H1
theorem jw {env:Env} {M:LS} {A:I0} {Q:Bool->tv->Prop} {E:hH->tv->Prop} {s:tv} (h:Q false s):∀ ifs:List Expr,
 Hh M A (forIn ifs false fun c r=>if r=true then do let ok <- isTrue c env (eval c env);pure (KY ok) else pure (KY r)) Q E s
 | []=>hW h
 | c::r=>by
   rw [KZ];simp only [Iw,if_false];exact gV (hW (jw h r))
theorem nF (hx:∀ e s,X.xe e s->False) {tb:TC} {N:St->Hp->Prop}:∀ {ifs:List Expr} {ts:List TT},I8 (fun c t=>PT X c t) ifs ts ->
 ∀ (pins:List (Addr×Obj)) (s:tv) (σ:St) (H:Hp) (E:hH->tv->Prop),Inv X pins σ H s->jv ts tb σ H N ->
 Hh (model X.prog X.w) X.A (bh ifs X.env) (fun ok s'=>∃ H',Inv X pins σ H' s'/\if ok=true then tb σ H' N else N σ H') E s
 | _,_,.nil=>fun pins s σ H E I h=>hW ⟨H,I,by rw [if_pos rfl];exact h⟩
 | c::ifs,_,.cons (b:=t) z hr=>by
   intro pins s σ H E I h;have ih:=nF hx hr (tb:=tb) (N:=N) pins;unfold bh at ih ⊢;rw [KZ];simp only [if_true];refine gV (gV (nox hx (thn (z pins s σ H _ I h) fun b s1 ⟨H1,q,j⟩=>hW ?_)))
   cases b with
   | false =>
     rw [if_neg Hi] at j;exact jw ⟨H1,q,by rw [if_neg Hi];exact j⟩ ifs
   | true =>
     rw [if_pos rfl] at j;exact ih s1 σ H1 E q j
theorem xg (hx:∀ e s,X.xe e s->False) {F:Sem Fin->Sem Fin} {tb:TC} (z:PB X F tb) {ifs:List Expr} {ts:List TT} (B:I8 (fun c t=>PT X c t) ifs ts) :
 PB X (fun k=>bh ifs X.env >>= fun ok=>if ok=true then F k else k) (jv ts tb):=by
 intro pins s σ H N k Q E I h hk;refine gV (thn (nF hx B pins s σ H E I h) fun ok s1 ⟨H1,q,j⟩=>?_)
 cases ok with
 | false =>
   rw [if_neg Hi] at j ⊢;exact hk s1 σ H1 q j
 | true =>
   rw [if_pos rfl] at j ⊢;exact z pins s1 σ H1 N k Q E q j hk
noncomputable def zp (p:Addr) (te:TE):TC:=fun σ H N=>te σ H fun x H1=>∃ xs,H1 p=some (.lst xs)/\xs.length < Hd/\N σ (upd H1 p (.lst (xs++[x])))
theorem kE (hx:∀ e s,X.xe e s->False) {elt:Expr} {gens:List ID} {scope:Scope} {pos:Pos} {d:Nat} {p:Addr} {te:TE} (he:PE X elt te) (hd:gens[d+1]? = none) :
 PB X (aZ elt gens scope pos d (.ref p) X.env) (zp p te):=by
 intro pins s σ H N k Q E I h j;unfold aZ;rw [hd];refine gV (gV (nox hx (thn (he pins s σ H _ I h) fun u s1 ⟨x,H1,q,z,xs,B,l1,F⟩=>?_)));refine gV (nox hx (thn (lu (X:=X) pins s1 σ H1 (.ref p) [x] (.ref p) [u] (fun _ H2=>N σ H2) q rfl (.cons z .nil) ⟨p,xs,x,rfl,rfl,B,l1,F⟩) fun v s2 ⟨_,H2,G,_,J⟩=>?_));exact hW (j s2 σ H2 G J)
theorem lB (hx:∀ e s,X.xe e s->False) (Y:X.calm=true) {elt target iter:Expr} {ifs:List Expr} {gens:List ID} {scope:Scope} {pos:Pos} {d:Nat} {acc:hH}
 (hd:gens[d]? = some ⟨target,iter,ifs,0⟩) (ha:∀ g',gens[d+1]? = some g'->g'.is_async=0) {g:TG} (hg:PG X target g) {tb:TC}
 (j:PB X (fun k=>bh ifs X.env >>= fun ok=>if ok=true then aZ elt gens scope pos d acc X.env k else k) tb)
 {pins:List (Addr×Obj)} {s:tv} {σ:St} {H:Hp} {N:St->Hp->Prop} {it:Addr} {fp:List Addr} {tn:Nat->Heap->Prop} {J:It} (I:Inv X pins σ H s) (T:fx X.prog X.w X.K target J fp it tn)
 (t0:tn 0 s.heap) (f2:∀ b∈fp,bZ X pins H b) (h:cv J g tb N σ H) :
 Le (model X.prog X.w) X.A (.compLoop (.ListComp elt gens scope pos) d (.ref it) acc X.env) (fun r s'=>match r with | .ok _=>∃ σ' H',Inv X pins σ' H' s'/\N σ' H' | .error _=>False) s:=by
 obtain ⟨W,⟨m0,w0⟩,turn⟩:=h;have stat:∀ {H':Hp},(∀ b∈fp,H' b=none) -> ∀ b∈fp,bZ X pins H' b:=fun hn b j=>⟨hn b j,(f2 b j).2⟩;refine codeAny_loop rfl (fun n s'=>∃ i σ' H',Inv X pins σ' H' s'/\tn i s'.heap/\(∀ b∈fp,H' b=none)/\W i n σ' H') ?_ m0 ⟨0,σ,H,I,t0,fun b j=>(f2 b j).1,w0⟩;rintro n s3 ⟨i,σ3,F,Z,z,B,w3⟩;show Hh _ _ ((compTurn (.ListComp elt gens scope pos) d (.ref it) acc X.env).onRaise (fun x=>do noteFrame x X.env;theTreesLotGoes x)) _ _ s3
 refine wpAny_noted ?_;rw [nE elt target iter ifs gens scope pos d (.ref it) acc X.env hd ha];refine gV (L8 (gV ?_));show Hh (model X.prog X.w) X.A _ _ _ s3
 rcases turn i n σ3 F w3 with ⟨stop,qn⟩ | ⟨go,N',hN,step⟩
 ·refine thn (T.done X rfl rfl rfl Y i pins s3 σ3 F _ Z (stat B) z stop) fun r s4 ⟨G,I4⟩=>?_;subst G;exact hW ⟨σ3,F,I4,qn⟩
 ·refine thn (T.item X rfl rfl rfl Y i pins s3 σ3 F _ Z (stat B) z go) fun r s4 ⟨u,G,h4⟩=>?_;subst G;refine gV (thn h4 fun _ s5 ⟨x,H5,I5,r5,y5,q,L⟩=>?_);have O:=I5.pinned (stat L) (T.obj _ _ q);refine gV (nox hx (thn (hg _ s5 σ3 H5 x u _ O r5 (step x H5 y5)) fun _ s6 ⟨σ6,H6,I6,q6⟩=>?_));refine j _ s6 σ6 H6 N' (again (.compLoop (.ListComp elt gens scope pos) d (.ref it) acc X.env)) _ _ I6 q6 fun s7 σ7 H7 U n7=>?_;obtain ⟨m',hm,w7⟩:=hN σ7 H7 n7;refine hW ⟨rfl,m',hm,i+1,σ7,H7,U.unpinned,T.keep _ _ _ q fun b j o e=>(U.pin (b,o) (HD _ (HD _ (dm j e)))).1,fun b j=>?_,w7⟩;obtain ⟨o,e,dd⟩:=T.obj _ _ q b j;exact (U.pin (b,o) (HD _ (HD _ (dm j e)))).2.1
theorem jx {elt target iter:Expr} {ifs:List Expr} {gens:List ID} {scope:Scope} {pos:Pos} {d:Nat} {it acc:hH} {env:Env} {prog:HB} {w:HX} {A:I0} {R:Qj->tv->Prop} {s:tv}
 (hd:gens[d]? = some ⟨target,iter,ifs,0⟩)
 (h0:Le (model prog w) A (.compLoop (.ListComp elt gens scope pos) d it acc env) R s)
 (h:Hh (model prog w) A (O8 it) (fun it' s'=>Le (model prog w) A (.compLoop (.ListComp elt gens scope pos) d it' acc env) R s')
   (notedBy (model prog w) A env fun x s'=>R (.error x) s') s) :
 Le (model prog w) A (.compStart (.ListComp elt gens scope pos) d it acc env) R s:=by
 refine codeAny_of_tree ?_;show Hh _ _ ((compStart (.ListComp elt gens scope pos) d it acc env).onRaise (fun x=>do noteFrame x env;MR theWindowsPlace)) _ _ s
 refine wpAny_notedAt ?_;unfold compStart;have j:(clausesOf (.ListComp elt gens scope pos))[d]? = some ⟨target,iter,ifs,0⟩:=hd;rw [j];show Hh _ _ (ask >>= _) _ _ s;refine gV (wpAny_askSetting (wpAny_ite ?_))
 split
 ·first
   | exact gV (hW (hW (MB rfl h0)))
   | exact hW (MB rfl h0)
 ·first
   | exact gV (J6 (gV (L8 (gV (IK h (fun it' s' h'=>hW (MB rfl h')) fun _ _ x=>x)))))
   | (refine gV (J6 ?_);show Hh _ _ (MR iter.pos >>= _) _ _ s;exact gV (L8 (gV (IK h (fun it' s' h'=>hW (MB rfl h')) fun _ _ x=>x))))
theorem lD (hx:∀ e s,X.xe e s->False) (z:X.calm=true) {elt target iter:Expr} {ifs:List Expr} {gens:List ID} {scope:Scope} {pos:Pos} {d:Nat} {acc:hH}
 (hd:gens[d+1]? = some ⟨target,iter,ifs,0⟩) (B:∀ g',gens[d+1+1]? = some g'->g'.is_async=0) {wi:TI} (hi:PI X target iter wi) {g:TG} (F:PG X target g) {tb:TC}
 (G:PB X (fun k=>bh ifs X.env >>= fun ok=>if ok=true then aZ elt gens scope pos (d+1) acc X.env k else k) tb)
 (hs:∀ x,JS iter X.env x=pure x) :
 PB X (aZ elt gens scope pos d acc X.env) (fun σ H N=>wi σ H fun J H1=>cv J g tb N σ H1):=by
 intro pins s σ H N k Q E I h hk;unfold aZ;rw [hd];refine gV (nox hx (thn (hi pins s σ H _ I h) fun v s1 h1=>?_));refine gV (L8 (gV (JO (hs v) ?_)));refine gV (I7 (nox hx (thn h1 fun itv s2 h2=>?_)));obtain ⟨it,fp,tn,J,H2,e,L,T,j,f2,hw⟩:=h2;subst e;have loop:=lB (acc:=acc) hx z hd B F G L T j f2 hw;refine gV (wpAny_runOwn (Ls (jx (R:=fun r s'=>match r with | .ok _=>∃ σ' H',Inv X pins σ' H' s'/\N σ' H' | .error _=>False) hd loop (T.self _ 0 _ _ _ j loop)) fun r s3 q=>?_))
 cases r with
 | error e=>exact q.elim
 | ok f =>
   obtain ⟨σ3,O,U,Y⟩:=q;exact hk s3 σ3 O U Y
noncomputable def aT (cells:List (Str×Addr)):List (Str×KH)->List (Str×Addr)->List (Str×Addr)
 | [],acc=>acc
 | (n,k)::r,acc=>if k == .free then (match cells.lookup n with | some c=>aT cells r ((n,c)::acc) | none=>aT cells r acc) else aT cells r acc
theorem iC {env:Env}:∀ (names:List (Str×KH)) (acc:List (Str×Addr)),(∀ x∈names,x.2 = .free->(env.cells.lookup x.1).isSome=true) ->
 (forIn names acc fun (x:Str×KH) (r:List (Str×Addr))=>(match x with | (name,kind)=>if (kind==Ib)=true then do let c <- cellOf env name;pure (KY ((name,c)::r)) else pure (KY r):Sem (ForInStep (List (Str×Addr)))))=(pure (aT env.cells names acc):Sem (List (Str×Addr)))
 | [],acc,_=>rfl
 | (n,k)::r,acc,h=>by
  rw [KZ];have ih:=fun acc'=>iC r acc' fun x hx=>h x (HM _ hx);unfold aT
  by_cases hk:(k==Ib)=true
  ·obtain ⟨c,q⟩:=Kv.mp (h (n,k) Ij (beq_iff_eq.mp hk));have j:env.cells.lookup n=some c:=q;have z:cellOf env n=pure c:=by unfold cellOf;rw [j]
   simp only [hk,if_true,z,j,pure_bind];exact ih _
  ·simp only [hk,if_false,pure_bind];exact ih _
theorem jy {scope:Scope} {env:Env} (h:∀ x∈scope.names,x.2 = .free->(env.cells.lookup x.1).isSome=true):closureFor scope env=pure (aT env.cells scope.names []):=by
 unfold closureFor;have e:=iC (env:=env) scope.names [] h;simp only [bind_pure];exact e
theorem dr {cells:List (Str×Addr)} {y:Str} {c:Addr}:∀ {names:List (Str×KH)} {acc:List (Str×Addr)},(y,c)∈aT cells names acc->(y,c)∈acc∨(cells.lookup y=some c/\(y,Ib)∈names)
 | [],acc,h=>.inl h
 | (n,k)::r,acc,h=>by
  unfold aT at h
  by_cases hk:(k==Ib)=true
  ·rw [if_pos hk] at h;have B:k = .free:=beq_iff_eq.mp hk;subst B
   cases F:cells.lookup n with
   | none =>
     rw [F] at h
     rcases dr h with z | ⟨j,q⟩
     ·exact .inl z
     ·exact .inr ⟨j,HM _ q⟩
   | some c' =>
     rw [F] at h
     rcases dr h with z | ⟨j,q⟩
     ·rcases He.mp z with e | z
      ·cases e
       exact .inr ⟨F,Ij⟩
      ·exact .inl z
     ·exact .inr ⟨j,HM _ q⟩
  ·rw [if_neg hk] at h
   rcases dr h with z | ⟨j,q⟩
   ·exact .inl z
   ·exact .inr ⟨j,HM _ q⟩
theorem du {cells:List (Str×Addr)} {y:Str} {c:Addr} (j:cells.lookup y=some c):∀ {names:List (Str×KH)} {acc:List (Str×Addr)},((y,c)∈acc∨(y,Ib)∈names)->(y,c)∈aT cells names acc
 | [],acc,h=>by
  rcases h with h | h
  ·exact h
  ·simp at h
 | (n,k)::r,acc,h=>by
  unfold aT
  by_cases hk:(k==Ib)=true
  ·rw [if_pos hk];have q:k = .free:=beq_iff_eq.mp hk;subst q
   cases hl:cells.lookup n with
   | none =>
     refine du j ?_
     rcases h with h | h
     ·exact .inl h
     ·rcases He.mp h with e | h
      ·cases e;rw [hl] at j;cases j
      ·exact .inr h
   | some c' =>
     refine du j ?_
     rcases h with h | h
     ·exact .inl (HM _ h)
     ·rcases He.mp h with e | h
      ·cases e;rw [hl] at j;cases j;exact .inl Ij
      ·exact .inr h
  ·rw [if_neg hk];refine du j ?_
   rcases h with h | h
   ·exact .inl h
   ·rcases He.mp h with e | h
    ·cases e;exact absurd rfl hk
    ·exact .inr h
theorem di:∀ (names:List (Str×KH)) (n:Nat) (acc acc':List (Str×Addr)),JT n names (acc++acc')=JT n names acc++acc'
 | [],_,_,_=>rfl
 | (x,k)::r,n,acc,acc'=>by
  unfold JT
  by_cases j:(k==JM)=true
  ·rw [if_pos j,if_pos j];exact di r (n+1) ((x,n)::acc) acc'
  ·rw [if_neg j,if_neg j];exact di r n acc acc'
theorem dj:∀ {names:List (Str×KH)} {n:Nat} {acc:List (Str×Addr)} {y:Str} {c:Addr},(y,c)∈JT n names acc->(y,c)∈acc∨(n<=c/\(y,JM)∈names)
 | [],_,_,_,_,h=>.inl h
 | (x,k)::r,n,acc,y,c,h=>by
  unfold JT at h
  by_cases hk:(k==JM)=true
  ·rw [if_pos hk] at h;have j:k = .cell:=beq_iff_eq.mp hk;subst j
   rcases dj h with z | ⟨q,B⟩
   ·rcases He.mp z with e | z
    ·cases e;exact .inr ⟨Hg _,Ij⟩
    ·exact .inl z
   ·exact .inr ⟨Nat.le_of_succ_le q,HM _ B⟩
  ·rw [if_neg hk] at h
   rcases dj h with z | ⟨q,B⟩
   ·exact .inl z
   ·exact .inr ⟨q,HM _ B⟩
structure b4 (sc osc:Scope) (oN N':List Str) (fr:List (Option Nat)):Prop where
 kind:sc.kind = .function
 nd:(sc.names.map (·.1)).Nodup
 ndN:N'.Nodup
 free:∀ x∈sc.names,x.2 = .free->osc.names.lookup x.1=some .cell∨osc.names.lookup x.1=some .free
 len:fr.length=N'.length
 fr:∀ (i j:Nat) (x:Str),N'[i]? = some x->fr[i]? = some (some j)->oN[j]? = some x/\(x,Ib)∈sc.names
noncomputable def inh (fr:List (Option Nat)) (σ:St):St:=fr.map fun o=>o.bind fun j=>(σ[j]?).join
noncomputable def b5 (X:Cx) (sc:Scope) (L:Addr):Env :=
 { scope:=relabel sc X.env,locals:=L,globals:=X.env.globals,cells:=JT (L+1) sc.names (aT X.env.cells sc.names []),qual:=X.env.qual,func:=none,code:=X.env.code,frame:=X.env.frame,builtins:=X.env.builtins }
noncomputable def aG (X:Cx) (sc:Scope) (N':List Str) (s:tv) (H:Hp) (fp:List Addr):Cx :=
 { X with N:=N',s₀:=s,H₀:=H,env:=b5 X sc s.heap.objs.size,outer:=X.stack,stack:=X.stack,ex:=fp,fn:=fun x=>sc.names.lookup x==some .cell,pn:=[],xe:=fun _ _=>False }
theorem aS:∀ {l:List (Str×KH)} {x:Str} {k:KH},(l.map (·.1)).Nodup->(x,k)∈l->l.lookup x=some k
 | (y,k')::r,x,k,nd,h=>by
  have nd':(y::r.map (·.1)).Nodup:=nd;obtain ⟨q,z⟩:=Ip.mp nd';rw [Kc]
  rcases He.mp h with e | hm
  ·cases e;simp
  ·have j:(x==y)=false:=by
    refine beq_eq_false_iff_ne.mpr fun e=>?_;subst e;exact q (Hk.mpr ⟨(x,k),hm,rfl⟩)
   rw [j];exact aS z hm
theorem cw {env:Env}:∀ {names:List (Str×KH)} {x:Str},
 (names.map fun (n,k)=>if (k==Ib&&env.scope.kind == .function&&env.kindOf n==some .cell) then (n,JM) else (n,k)).lookup x =
   (names.lookup x).map fun k=>if (k==Ib&&env.scope.kind == .function&&env.kindOf x==some .cell) then JM else k
 | [],_=>rfl
 | (n,k)::r,x=>by
  have ih:=cw (env:=env) (names:=r) (x:=x);show List.lookup x ((if (k==Ib&&env.scope.kind == .function&&env.kindOf n==some .cell)=true then (n,JM) else (n,k))::_)=_
  rw [Kc (a:=x) (b:=k)]
  by_cases hx:x=n
  ·subst hx;simp only [beq_self_eq_true];show _=some (if (k==Ib&&env.scope.kind == .function&&env.kindOf x==some .cell)=true then JM else k)
   by_cases j:(k==Ib&&env.scope.kind == .function&&env.kindOf x==some .cell)=true
   ·rw [if_pos j,if_pos j,Kc];simp only [beq_self_eq_true]
   ·rw [if_neg j,if_neg j,Kc];simp only [beq_self_eq_true]
  ·have q:(x==n)=false:=beq_eq_false_iff_ne.mpr hx;rw [q]
   by_cases j:(k==Ib&&env.scope.kind == .function&&env.kindOf n==some .cell)=true
   ·rw [if_pos j,Kc,q];exact ih
   ·rw [if_neg j,Kc,q];exact ih
section
variable {pins:List (Addr×Obj)} {σ:St} {H:Hp} {s:tv} {sc:Scope} {N':List Str} {fr:List (Option Nat)} {fp:List Addr}
theorem fX (I:Inv X pins σ H s) (B:b4 sc X.env.scope X.N N' fr):∀ x∈sc.names,x.2 = .free->(X.env.cells.lookup x.1).isSome=true:=fun x hx e=>by
 obtain ⟨c,j⟩:=I.ok.has x.1 (B.free x hx e);rw [j];rfl
theorem u7 (I:Inv X pins σ H s) (f2:∀ b∈fp,bZ X pins H b) (Z:∀ b∈fp,b < s.heap.objs.size) (B:b4 sc X.env.scope X.N N' fr) :
 Inv (aG X sc N' s H fp) [] (inh fr σ) H { s with heap:=Rb (s.heap.push { cls:=.type "dict",data:=.dict #[] }) sc.names }:=by
 have G:∀ b o,s.heap.get? b=some o->(Rb (s.heap.push { cls:=.type "dict",data:=.dict #[] }) sc.names).get? b=some o:=fun b o e=>OZ _ _ b o (h6 _ e);have ok:=cellsFrom_ok sc.names (s.heap.push { cls:=.type "dict",data:=.dict #[] }) (s.heap.objs.size+1) [] ⟨fun _ _ hm=>(nomatch hm),O0⟩ (by rw [IX];exact Hg _)
 rw [IX] at ok;have capp:JT (s.heap.objs.size+1) sc.names (aT X.env.cells sc.names [])=JT (s.heap.objs.size+1) sc.names []++aT X.env.cells sc.names []:=di sc.names _ [] _;have cof:∀ x c,(b5 X sc s.heap.objs.size).cells.lookup x=some c->((x,c)∈JT (s.heap.objs.size+1) sc.names []/\s.heap.objs.size < c)∨(X.env.cells.lookup x=some c/\(x,Ib)∈sc.names):=fun x c e=>by
  have m:=Ji e;have m':(x,c)∈JT (s.heap.objs.size+1) sc.names (aT X.env.cells sc.names []):=m;rw [capp] at m'
  rcases Hu.mp m' with z | z
  ·exact .inl ⟨z,(ok.empty x c z).2⟩
  ·rcases dr z with q | q
   ·simp at q
   ·exact .inr q
 have cOld:∀ x c,X.env.cells.lookup x=some c->c < s.heap.objs.size:=fun x c e=>by
  obtain ⟨v,q⟩:=I.cell x c e;exact q.lt
 have kindF:∀ x,(x,Ib)∈sc.names->(b5 X sc s.heap.objs.size).kindOf x=some .cell∨(b5 X sc s.heap.objs.size).kindOf x=some .free:=fun x hx=>by
  have e1:sc.names.lookup x=some .free:=aS B.nd hx;have O:(b5 X sc s.heap.objs.size).kindOf x=_:=cw (env:=X.env) (names:=sc.names) (x:=x);rw [e1] at O;rw [O]
  by_cases J:(Ib==Ib&&X.env.scope.kind == .function&&X.env.kindOf x==some .cell)=true
  ·exact .inl (by simp only [L3,if_pos J])
  ·exact .inr (by simp only [L3,if_neg J])
 have cellF:∀ x c,(x,Ib)∈sc.names->X.env.cells.lookup x=some c->(b5 X sc s.heap.objs.size).cells.lookup x=some c:=fun x c hx J=>by
  have m:=du (acc:=[]) J (.inr hx);have m2:(x,c)∈(b5 X sc s.heap.objs.size).cells:=by
   show (x,c)∈JT (s.heap.objs.size+1) sc.names (aT X.env.cells sc.names []);rw [capp];exact HD _ m
  cases F:(b5 X sc s.heap.objs.size).cells.lookup x with
  | none =>
    exfalso
    have:∀ {l:List (Str×Addr)},(x,c)∈l->l.lookup x=none->False:=by
     intro l
     induction l with
     | nil=>intro h;simp at h
     | cons a r ih =>
       intro h e;obtain ⟨y,d⟩:=a;rw [Kc] at e
       rcases He.mp h with z | z
       ·cases z;simp at e
       ·by_cases hxy:(x==y)=true
        ·rw [hxy] at e;cases e
        ·simp only [MD] at hxy;rw [hxy] at e;exact ih z e
    exact this m2 F
  | some c' =>
    rcases cof x c' F with ⟨z,_⟩ | ⟨z,_⟩
    ·rcases dj z with q | ⟨_,q⟩
     ·simp at q
     ·have a1:=aS B.nd hx;have a2:=aS B.nd q;rw [a1] at a2;cases a2
    ·rw [J] at z;rw [z]
 have kindC:∀ x,(b5 X sc s.heap.objs.size).kindOf x=some .cell->(x,JM)∈sc.names∨(x,Ib)∈sc.names:=fun x e=>by
  have O:(b5 X sc s.heap.objs.size).kindOf x=_:=cw (env:=X.env) (names:=sc.names) (x:=x);rw [O] at e
  cases F:sc.names.lookup x with
  | none=>rw [F] at e;cases e
  | some k =>
    rw [F] at e;have m:=Ji F
    cases k with
    | cell=>exact .inl m
    | free=>exact .inr m
    | «local»=>simp at e
    | globalImplicit=>simp at e
    | globalExplicit=>simp at e
 have kindFr:∀ x,(b5 X sc s.heap.objs.size).kindOf x=some .free->(x,Ib)∈sc.names:=fun x e=>by
  have O:(b5 X sc s.heap.objs.size).kindOf x=_:=cw (env:=X.env) (names:=sc.names) (x:=x);rw [O] at e
  cases F:sc.names.lookup x with
  | none=>rw [F] at e;cases e
  | some k =>
    rw [F] at e;have m:=Ji F
    cases k with
    | free=>exact m
    | cell=>simp at e
    | «local»=>simp at e
    | globalImplicit=>simp at e
    | globalExplicit=>simp at e
 refine ⟨⟨I.ok.mod,B.kind,I.ok.glob,I.ok.blt,Hg _,fun y z c h1 h2=>?_,fun y hy=>?_,fun y c hf h=>?_,I.ok.hd,I.ok.frames,.inl rfl,fun b U=>⟨?_,fun x c e=>?_⟩,fun b o e=>I.bs b o e,?_,fun b o e U=>?_,fun b U=>?_,I.stack,I.stkFree⟩,
  rfl,I.bare,Un.kept G,⟨_,(Heap.Ns.new s.heap (.type "dict")).keeps (OZ _ _),fun i x v h1 h2 h3=>?_⟩,fun y c h=>?_,I.hok.fresh (Hg _),fun y c h=>?_,fun p hp=>absurd (show p∈([]:List (Addr×Obj)) from hp) (by simp),I.hok.kept G,?_⟩
 ·rcases cof y c h1 with ⟨a1,a2⟩ | ⟨a1,a2⟩
  ·rcases cof z c h2 with ⟨b1,b2⟩ | ⟨b1,b2⟩
   ·exact name_of_addr ok.apart a1 b1
   ·exact absurd (cOld z c b1) (Sb.mpr (Lr a2))
  ·rcases cof z c h2 with ⟨b1,b2⟩ | ⟨b1,b2⟩
   ·exact absurd (cOld y c a1) (Sb.mpr (Lr b2))
   ·exact I.ok.inj y z c a1 b1
 ·have EU:(y,JM)∈sc.names∨(y,Ib)∈sc.names:=by
   rcases hy with hy | hy
   ·exact kindC y hy
   ·exact .inr (kindFr y hy)
  rcases EU with q | q
  ·exact Kv.mp (Me sc.names _ _ (.inl (aS B.nd q)))
  ·obtain ⟨c,J⟩:=Kv.mp (fX I B _ q rfl);exact ⟨c,cellF y c q J⟩
 ·have EV:(sc.names.lookup y==some .cell)=true:=hf;have ES:sc.names.lookup y=some .cell:=by simpa using EV
  rcases cof y c h with ⟨_,a2⟩ | ⟨_,a2⟩
  ·exact Lr a2
  ·rw [aS B.nd a2] at ES;cases ES
 ·exact HJ (Z b U)
 ·rcases cof x c e with ⟨_,a2⟩ | ⟨a1,_⟩
  ·exact Iu (Nat.lt_trans (Z b U) a2)
  ·exact (f2 b U).2.2.2.2.1 x c a1
 ·exact Jp I.ok.bsz I.sz
 ·obtain ⟨f0,f1,f3,f4,f5,f6⟩:=f2 b U
  rcases f4 with z | z
  ·exact I.ok.noex b o e z
  ·exact absurd (HZ (HZ (H0 e) I.ok.bsz) z) (Ig _)
 ·obtain ⟨f0,f1,f3,f4,f5,f6⟩:=f2 b U;exact fun z=>(He.mp (I.stkSub b z)).elim f1 f3
 ·have hi:∃ j,fr[i]? = some (some j) /\ σ[j]? = some (some v):=by
   unfold inh at h2;rw [HG] at h2
   cases e:fr[i]? with
   | none=>rw [e] at h2;cases h2
   | some o =>
     rw [e] at h2
     cases o with
     | none=>cases h2
     | some j =>
       refine ⟨j,rfl,?_⟩;have L:some ((σ[j]?).join)=some (some v):=h2
       cases e' : σ[j]? with
       | none=>rw [e'] at L;cases L
       | some w=>rw [e'] at L;cases L;rfl
  obtain ⟨j,e1,O⟩:=hi;obtain ⟨n1,n2⟩:=B.fr i j x h1 e1;obtain ⟨m,hn,F⟩:=I.loc;have hv:Vis X.env.scope x:=.inr (B.free (x,.free) n2 rfl);obtain ⟨u,ru,lk⟩:=F j x v n1 O hv;refine ⟨u,ru,.inr ⟨kindF x n2,?_⟩⟩
  rcases lk with ⟨k1,_⟩ | ⟨_,c,J,Y⟩
  ·have ET:X.env.scope.names.lookup x=some .local:=k1
   rcases B.free (x,.free) n2 rfl with z | z
   ·rw [ET] at z;cases z
   ·rw [ET] at z;cases z
  ·exact ⟨c,cellF x c n2 J,Y.keeps G⟩
 ·rcases cof y c h with ⟨a1,a2⟩ | ⟨a1,a2⟩
  ·exact ⟨_,(ok.empty y c a1).1⟩
  ·obtain ⟨v,q⟩:=I.cell y c a1;exact ⟨v,q.keeps G⟩
 ·rcases cof y c h with ⟨a1,a2⟩ | ⟨a1,a2⟩
  ·exact I.hok.fresh (Lr a2)
  ·exact I.freeC y c a1
 ·show (inh fr σ).length=N'.length;unfold inh;rw [H8];exact B.len
theorem lF {σ':St} {H':Hp} {s':tv} {h':Heap} (I:Inv X pins σ H s) (f2:∀ b∈fp,bZ X pins H b) (J:Inv (aG X sc N' s H fp) [] σ' H' s') (hs:IQ s.heap.objs.size s'.heap h') :
 Inv X pins σ H' { s' with heap:=h' }:=by
 have u:Un (frs X.stack) fp H H' s.heap s'.heap:=J.base;have ne:∀ b o,s.heap.get? b=some o->b≠s.heap.objs.size:=fun b o e=>HJ (H0 e);refine I.call' (s':={ s' with heap:=h' }) (ch:=fp) J.os ⟨fun b o e n j hx=>?_,fun b o e n j hx=>?_,u.free,fun b o e hx=>?_,u.tups,u.frzs,u.tbls⟩ (fun b v e=>?_) J.bare fun b j=>?_
 ·exact (hs.2 b (ne b o e)).trans (u.keep b o e n j hx)
 ·obtain ⟨sl,q⟩:=u.slot b o e n j hx;exact ⟨sl,(hs.2 b (ne b o e)).trans q⟩
 ·obtain ⟨o',q⟩:=u.there b o e hx;exact ⟨o',(hs.2 b (ne b o e)).trans q⟩
 ·refine (J.hok b v e).stay (fun c w F q=>(hs.2 c ?_).trans q) (fun _ q=>q) fun _ _ q=>q;have fr:H' s.heap.objs.size=none:=J.free
  rcases F with z | z
  ·rw [z];intro B;rw [B,fr] at e;cases e
  ·intro B;rw [B,fr] at z;cases z
 ·obtain ⟨f0,f1,O,f4,G,L⟩:=f2 b j;exact ⟨f4,f1,G,L⟩
theorem mR {Q:Env->tv->Prop} {E:hH->tv->Prop} {M:LS} {A:I0}
 (h:Q { scope:=sc,locals:=s.heap.objs.size,globals:=X.env.globals,cells:=JT (s.heap.objs.size+1) sc.names (aT X.env.cells sc.names []),qual:=X.env.qual,func:=none,code:=X.env.code,frame:=X.env.frame,builtins:=X.env.builtins }
   { s with heap:=Rb (s.heap.push { cls:=.type "dict",data:=.dict #[] }) sc.names }) :
 Hh M A (Ph sc X.env.globals (aT X.env.cells sc.names []) [] X.env.qual none .none (some X.env)) Q E s:=by
 simp only [Ph,Qm,if_true];refine gV (wpAny_alloc ?_);refine gV (wpAny_layCells _ (fun name kind cells=>by cases hkc:kind==JM <;> simp [hkc]) _ _ _ _ ?_)
 rw [show ({ s with heap:=s.heap.push { cls:=.type "dict",data:=.dict #[] } }:tv).heap.objs.size=s.heap.objs.size+1 from IX ..]
 exact gV (hW (hW h))
theorem nG (hc:X.calm=true) {elt target iter:Expr} {ifs:List Expr} {rest:List ID} {pos:Pos} {E:hH->tv->Prop}
 (hx:∀ e s,X.xe e s->False) (B:b4 sc X.env.scope X.N N' fr) (ha:∀ g',rest[0]? = some g'->g'.is_async=0) {wi:TI} (hi:PI X target iter wi) {g:TG} {tb:Addr->TC}
 (hg:∀ s H fp,PG (aG X sc N' s H fp) target g)
 (j:∀ s H fp p,PB (aG X sc N' s H fp) (fun k=>bh ifs (aG X sc N' s H fp).env >>= fun ok=>if ok=true then aZ elt (⟨target,iter,ifs,0⟩::rest) sc pos 0 (.ref p) (aG X sc N' s H fp).env k else k) (tb p))
 {Nn:Addr->St->Hp->Prop} {RR:hH->Addr->Qj->tv->Prop} (I:Inv X pins σ H s)
 (h:wi σ H fun J H1=>∀ p,H1 p=none->cv J g (tb p) (Nn p) (inh fr σ) (upd H1 p (.lst [])))
 (hR:∀ p fp s3 L s' σ' H' f,Inv X pins σ L s3->(∀ b∈fp,bZ X pins L b)->Inv (aG X sc N' s3 L fp) [] σ' H' s'->Nn p σ' H'->RR (.ref p) s3.heap.objs.size (.ok f) s') :
 Hh (model X.prog X.w) X.A (eval iter X.env) (fun x s₁=>Hh (model X.prog X.w) X.A (O8 x) (fun it s₂=>Hh (model X.prog X.w) X.A (newList []) (fun acc s₃ =>
  Hh (model X.prog X.w) X.A (Ph sc X.env.globals (aT X.env.cells sc.names []) [] X.env.qual none .none (some X.env)) (fun cenv s₄ =>
   Le (model X.prog X.w) X.A (.compStart (.ListComp elt (⟨target,iter,ifs,0⟩::rest) sc pos) 0 it acc { cenv with scope:=relabel sc X.env }) (RR acc cenv.locals) s₄) E s₃) E s₂) E s₁) E s:=by
 refine nox hx (thn (hi pins s σ H _ I h) fun v s1 h1=>nox hx (thn h1 fun itv s2 h2=>?_));obtain ⟨it,fp,tn,J,H2,e,Z,T,q,f2,hw⟩:=h2;subst e;have hf:H2 s2.heap.objs.size=none:=Z.hok.fresh (Hg _);refine MV ?_;have I3:Inv X pins σ (upd H2 s2.heap.objs.size (.lst [])) { s2 with heap:=s2.heap.push { cls:=.type "list",dict:=none,data:=.seq ([]:List hH).toArray } } :=
  Z.laid (t':=s2.toks) (fun b u e=>h6 _ e) (Hg _) ⟨Jj _,[],0,.nil,GZ _ rfl⟩
 have fneq:∀ b∈fp,b≠s2.heap.objs.size:=fun b j z=>by
  obtain ⟨o,e,_⟩:=T.obj _ _ q b j;exact absurd (H0 e) (by rw [z];exact Ig _)
 have O:∀ b∈fp,bZ X pins (upd H2 s2.heap.objs.size (.lst [])) b:=fun b j=>⟨by rw [ah (fneq b j)];exact (f2 b j).1,(f2 b j).2⟩
 have U:∀ b∈fp,b < (s2.heap.push { cls:=.type "list",dict:=none,data:=.seq ([]:List hH).toArray }).objs.size:=fun b j=>by
  obtain ⟨o,e,_⟩:=T.obj _ _ q b j;rw [IX];exact Mj (H0 e)
 have Y:tn 0 (s2.heap.push { cls:=.type "list",dict:=none,data:=.seq ([]:List hH).toArray }):=T.keep _ _ _ q fun b _ o e=>h6 _ e;refine mR ?_;have G:=u7 (N':=N') I3 O U B;have F:=T.keep _ (h':=Rb (({ s2 with heap:=s2.heap.push { cls:=.type "list",dict:=none,data:=.seq ([]:List hH).toArray } }:tv).heap.push { cls:=.type "dict",data:=.dict #[] }) sc.names) _ Y fun b _ o e=>OZ _ _ b o (h6 _ e)
 have f4:∀ b∈fp,bZ (aG X sc N' { s2 with heap:=s2.heap.push { cls:=.type "list",dict:=none,data:=.seq ([]:List hH).toArray } } (upd H2 s2.heap.objs.size (.lst [])) fp) [] (upd H2 s2.heap.objs.size (.lst [])) b:=fun b j =>
  ⟨(O b j).1,(G.ok.exf b j).1,G.ok.exfs b j,.inl j,(G.ok.exf b j).2,fun p hp=>absurd (show p∈([]:List (Addr×Obj)) from hp) (by simp)⟩
 have loop:=lB (X:=aG X sc N' { s2 with heap:=s2.heap.push { cls:=.type "list",dict:=none,data:=.seq ([]:List hH).toArray } } (upd H2 s2.heap.objs.size (.lst [])) fp) (fun _ _ z=>z) hc
  (elt:=elt) (pos:=pos) (scope:=sc) (gens:=⟨target,iter,ifs,0⟩::rest) (d:=0) (acc:=.ref s2.heap.objs.size) rfl (fun g' e=>ha g' (by simpa using e)) (hg _ _ _) (j _ _ _ _) G T F f4 (hw _ hf)
 refine Ls (jx (R:=fun r s'=>match r with | .ok _=>∃ σ' H',Inv (aG X sc N' { s2 with heap:=s2.heap.push { cls:=.type "list",dict:=none,data:=.seq ([]:List hH).toArray } } (upd H2 s2.heap.objs.size (.lst [])) fp) [] σ' H' s'/\Nn s2.heap.objs.size σ' H' | .error _=>False)
  (gens:=⟨target,iter,ifs,0⟩::rest) (d:=0) rfl loop (T.self _ 0 _ _ _ F loop)) fun r s5 hr=>?_
 cases r with
 | error e=>exact hr.elim
 | ok f =>
   obtain ⟨σ5,H5,I5,n5⟩:=hr;exact hR _ fp _ _ s5 σ5 H5 f I3 O I5 n5
noncomputable def rV (wi:TI) (g:TG) (tb:Addr->TC) (fr:List (Option Nat)):TE:=fun σ H Q=>wi σ H fun J H1=>∀ p,H1 p=none->cv J g (tb p) (fun _ H2=>Q (.ref p) H2) (inh fr σ) (upd H1 p (.lst []))
theorem lH (B:b4 sc X.env.scope X.N N' fr):∀ x∈sc.names,x.2 = .local->sc.names.lookup x.1=some .local:=fun x hx e=>by
 obtain ⟨n,k⟩:=x;have e':k = .local:=e;subst e';exact aS B.nd hx
theorem iD (z:X.calm=true) {elt target iter:Expr} {ifs:List Expr} {rest:List ID} {pos:Pos}
 (hx:∀ e s,X.xe e s->False) (B:b4 sc X.env.scope X.N N' fr) (F:∀ g',rest[0]? = some g'->g'.is_async=0) {wi:TI} (hi:PI X target iter wi) {g:TG} {tb:Addr->TC}
 (G:∀ s H fp,PG (aG X sc N' s H fp) target g)
 (L:∀ s H fp p,PB (aG X sc N' s H fp) (fun k=>bh ifs (aG X sc N' s H fp).env >>= fun ok=>if ok=true then aZ elt (⟨target,iter,ifs,0⟩::rest) sc pos 0 (.ref p) (aG X sc N' s H fp).env k else k) (tb p))
 (hs:∀ x,JS iter X.env x=pure x) :
 PE X (.ListComp elt (⟨target,iter,ifs,0⟩::rest) sc pos) (rV wi g tb fr):=by
 intro pins s σ H Q I h;rw [eval_ListComp];refine Oa (use:=none) rfl hs (jy (fX I B)) B.kind (lH B) (nG (Nn:=fun p _ H2=>Q (.ref p) H2) (RR:=fun acc C=>compPost (model X.prog X.w) X.A X.xe none (EP X pins σ Q) acc C) z hx B F hi G L I h ?_);intro p fp s3 Z s' σ' H' f O U J q;obtain ⟨m,Y,_⟩:=J.loc;exact ⟨m,Y,fun h' j=>⟨.ref p,H',lF O U J j,rfl,q⟩⟩
theorem jz (hc:X.calm=true) {elt target iter:Expr} {ifs:List Expr} {rest:List ID} {pos pos' spos:Pos} {x:Str} {i:Nat}
 (hx:∀ e s,X.xe e s->False) (B:b4 sc X.env.scope X.N N' fr) (ha:∀ g',rest[0]? = some g'->g'.is_async=0) {wi:TI} (hi:PI X target iter wi) {g:TG} {tb:Addr->TC}
 (hg:∀ s H fp,PG (aG X sc N' s H fp) target g)
 (F:∀ s H fp p,PB (aG X sc N' s H fp) (fun k=>bh ifs (aG X sc N' s H fp).env >>= fun ok=>if ok=true then aZ elt (⟨target,iter,ifs,0⟩::rest) sc pos 0 (.ref p) (aG X sc N' s H fp).env k else k) (tb p))
 (hs:∀ x,JS iter X.env x=pure x) (G:PG X (.Name x pos') (jl i))
 (L:LU (.ListComp elt (⟨target,iter,ifs,0⟩::rest) sc pos) (some (.Name x pos')) spos.line X.env=pure true) :
 PS X (.Assign [.Name x pos'] (.ListComp elt (⟨target,iter,ifs,0⟩::rest) sc pos) spos) (rG (rV wi g tb fr) (jl i)):=by
 intro pins s σ H D I h;rw [exec_Assign_Name_used _ _ _ _ L];refine gV (L8 (gV ?_));show Hh _ X.A (do let _ <- comprehension (.ListComp elt (⟨target,iter,ifs,0⟩::rest) sc pos) sc X.env _ (newList []) false (eval iter X.env) (some (assign (.Name x pos') X.env))) _ _ s
 refine gV (IK (Oa (use:=some (assign (.Name x pos') X.env)) (Q:=fun _ s'=>SP X pins D .next s') rfl hs (jy (fX I B)) B.kind (lH B)
  (nG (Nn:=fun p _ H2=>D.nx (σ.set i (some (.ref p))) H2) (RR:=fun acc C=>compPost (model X.prog X.w) X.A X.xe (some (assign (.Name x pos') X.env)) (fun _ s'=>SP X pins D .next s') acc C) hc hx B ha hi hg F I h ?_)) (fun _ s' hq=>hW (hW hq)) fun _ _ e=>e)
 intro p fp s3 H3 s' σ' H' f j f3 J q;obtain ⟨m,⟨o,es,ep,ho,hd,hk,hm⟩,_⟩:=J.loc;have I4:Inv X pins σ H' s':=lF (h':=s'.heap) j f3 J ⟨rfl,fun _ _=>rfl⟩;have hL:(aG X sc N' s3 H3 fp).env.locals=s3.heap.objs.size:=rfl;rw [hL] at ho;have O:H' s3.heap.objs.size=none:=J.free;have neL:s3.heap.objs.size≠X.env.locals:=Iu j.lt;have nfs:s3.heap.objs.size∉X.fs:=j.nofs (Hg _);have I5:Inv X (pins++[(s3.heap.objs.size,o)]) σ H' s':=I4.pins_of fun pr U=>by
  rcases Hu.mp U with z | z
  ·exact I4.pin pr (HD _ z)
  ·have e:pr=(s3.heap.objs.size,o):=by simpa using z
   subst e;exact ⟨ho,O,neL,nfs,fun v z=>by rw [hd] at z;cases z⟩
 show Hh _ X.A (assign (.Name x pos') X.env (.ref p)) _ _ _;refine thn (G _ s' σ H' (.ref p) (.ref p) D.nx I5 rfl q) fun _ s6 ⟨σ6,H6,I6,q6⟩=>?_;obtain ⟨Y,Z,_⟩:=I6.pin (s3.heap.objs.size,o) (HD _ (HD _ (by simp)))
 refine ⟨m,⟨o,es,ep,Y,hd,hk,hm⟩,fun h' ES=>⟨σ6,H6,?_,q6⟩⟩;refine (I6.unpinned).turned (t':=s6.toks) (it:=s3.heap.objs.size) (fun b o F e=>(ES.2 b F).trans e) Z neL (.inr j.sz) (fun y c e z=>?_) fun pr U z=>?_
 ·obtain ⟨v,q⟩:=j.cell y c e;exact absurd q.lt (by rw [z];exact Ig _)
 ·exact absurd (H0 (j.pin pr U).1) (by rw [z];exact Ig _)
end
end
end
end L2
namespace L2
namespace Zp
open PySem PySem.Spec PyProof.Rows
def At (t:Bool) (h:Heap) (i l:Addr) (k:Nat):Prop:=match t with | true=>h.IsTupleIter i l k | false=>h.IsListIter i l k
def Sq (t:Bool) (h:Heap) (l:Addr) (xs:Array hH):Prop:=match t with | true=>h.IsTuple l xs | false=>h.IsList l xs
theorem At.up {t:Bool} {h h':Heap} {i l:Addr} {k:Nat} (x:At t h i l k) (e:∀ o,h.get? i=some o->h'.get? i=some o):At t h' i l k:=by
 cases t <;> (obtain ⟨o,ho,r⟩:=x;exact ⟨o,e o ho,r⟩)
theorem Sq.up {t:Bool} {h h':Heap} {l:Addr} {xs:Array hH} (x:Sq t h l xs) (e:∀ o,h.get? l=some o->h'.get? l=some o):Sq t h' l xs:=by
 cases t <;> (obtain ⟨o,ho,r⟩:=x;exact ⟨o,e o ho,r⟩)
theorem At.lt {t:Bool} {h:Heap} {i l:Addr} {k:Nat} (x:At t h i l k):∃ o,h.get? i=some o /\ ∀ v,o.data ≠ .cell v:=by
 cases t <;> (obtain ⟨o,ho,j,hd⟩:=x;exact ⟨o,ho,fun v z=>by rw [hd] at z;cases z⟩)
section
variable {prog:HB} {w:HX} {A:I0} {E:hH->tv->Prop} {s:tv}
open Builtin.SmallTypes in
theorem xh {i l:Addr} {k:Nat} {xs:Array hH} {x:hH} {Q:hH->tv->Prop} (hi:s.heap.IsTupleIter i l k) (L:s.heap.IsTuple l xs) (hx:xs[k]? = some x)
 (q:∀ h',h'.IsTupleIter i l (k+1)->IQ i s.heap h'->Q x { s with heap:=h' }):Hh (model prog w) A (nextOf (.ref i)) Q E s:=by
 obtain ⟨ob,z,B,j⟩:=id hi;obtain ⟨oq,G,_,nq,J⟩:=L;unfold nextOf;refine gV (HN (name:=Iy "__next__") hi.typeIs Kh (HK Kh hi.typeIs Nt ?_ (Nc _)));refine gV (m:=field (.ref i) 0) (HW z j (x:=.ref l) rfl ?_);refine (if_neg (c:=(Ht l==Jw)=true) Hi) ▸ ?_;refine gV (m:=field (.ref i) 1) (HW z j (x:=.int k 0) rfl ?_);refine gV (m:=PR (.ref l)) (J0 G J ?_);simp only [HF,hx];refine gV (wpAny_setField z j (by simp) (hW ⟨x,rfl,hW (q _ ⟨_,Jl _ z (Obj.isFreed_of_fields (Qn j _)),(Obj.cls_mapFields ..).trans B,?_⟩ (K0 ..))⟩))
 rw [Qn j];simp [JU]
open Builtin.SmallTypes in
theorem A7 {i l:Addr} {k:Nat} {xs:Array hH} {Q:hH->tv->Prop} (J:A.handled=none) (hi:s.heap.IsTupleIter i l k) (L:s.heap.IsTuple l xs) (hx:xs[k]? = none)
 (q:∀ h' e,RE i s.heap h'->(∃ o,h'.get? e=some o/\o.cls = .type "StopIteration")->E (.ref e) { s with heap:=h' }):Hh (model prog w) A (nextOf (.ref i)) Q E s:=by
 obtain ⟨ob,j,O,z⟩:=id hi;obtain ⟨oq,B,_,nq,G⟩:=L;unfold nextOf;refine gV (HN (name:=Iy "__next__") hi.typeIs Kh (HK Kh hi.typeIs Nt ?_ (Nc _)));refine gV (m:=field (.ref i) 0) (HW j z (x:=.ref l) rfl ?_);refine (if_neg (c:=(Ht l==Jw)=true) Hi) ▸ ?_;refine gV (m:=field (.ref i) 1) (HW j z (x:=.int k 0) rfl ?_);refine gV (m:=PR (.ref l)) (J0 B G ?_);simp only [HF,hx];refine gV (J6 (gV (wpAny_setField j z (by simp) ?_)))
 refine gV (m:=Sd (.type "StopIteration") []) ?_;simp only [Sd,Se];refine gV (IE ?_ (by size_fits))
 refine gV (m:=Ll _ _) (JO (a:=Jw) (by first | rfl | (simp only [Ll];rfl)) (IE ?_ (by size_fits)))
 simp only [raiseNew];refine gV (Q7 ?_)
 first | rw [show A.in1.handled=none from J] | rw [J]
 exact gV (hW (Pj (q _ _ (((K0 ..).extBut.push _).push _) ⟨_,GZ _ rfl,rfl⟩)))
open Builtin.SmallTypes in
theorem nx_item {t:Bool} {i l:Addr} {k:Nat} {xs:Array hH} {x:hH} {Q:hH->tv->Prop} (hi:At t s.heap i l k) (j:Sq t s.heap l xs) (hx:xs[k]? = some x)
 (q:∀ h',At t h' i l (k+1)->IQ i s.heap h'->Q x { s with heap:=h' }):Hh (model prog w) A (nextOf (.ref i)) Q E s:=by
 cases t with
 | true=>exact xh hi j hx q
 | false=>exact wpAny_nextOf_list_item hi j hx q
open Builtin.SmallTypes in
theorem nx_end {t:Bool} {i l:Addr} {k:Nat} {xs:Array hH} {Q:hH->tv->Prop} (j:A.handled=none) (hi:At t s.heap i l k) (z:Sq t s.heap l xs) (hx:xs[k]? = none)
 (q:∀ h' e,RE i s.heap h'->(∃ o,h'.get? e=some o/\o.cls = .type "StopIteration")->E (.ref e) { s with heap:=h' }):Hh (model prog w) A (nextOf (.ref i)) Q E s:=by
 cases t with
 | true=>exact A7 j hi z hx q
 | false=>exact wpAny_nextOf_list_end j hi z hx q
open Builtin.SmallTypes in
theorem C6 {z T O i j a b:Addr} {t u:Bool} {k:Nat} {xs ys:Array hH} {x y p r:hH} {Q:hH->tv->Prop} (D:Pk z T O i j a b)
 (hz:O1 s.heap z T O .none) (hT:Kx s.heap T (.ref i) (.ref j)) (hO:Kx s.heap O p r)
 (hi:At t s.heap i a k) (hj:At u s.heap j b k) (ha:Sq t s.heap a xs) (hb:Sq u s.heap b ys) (hx:xs[k]? = some x) (hy:ys[k]? = some y)
 (q:∀ h',O1 h' z T O (JU s.heap.objs.size)->Kx h' O x y->At t h' i a (k+1)->At u h' j b (k+1)->Kx h' s.heap.objs.size x y ->
   (∀ c o,c≠z->c≠O->c≠i->c≠j->s.heap.get? c=some o->h'.get? c=some o)->Q (.ref s.heap.objs.size) { s with heap:=h' }) :
 Hh (model prog w) A (IS.«zip.__next__» ⟨[.ref z],[]⟩) (fun fin s'=>∃ v,fin = .done (.ret v)/\Q v s') E s:=by
 refine gV (m:=field (.ref z) 2) (HW hz rfl (x:=.bool false) rfl ?_);refine gV (m:=field (.ref z) 3) (HW hz rfl (x:=.ref T) rfl ?_);refine gV (J0 hT rfl ?_);refine gV (m:=ownedTupleIsFree (.ref z)) ?_;unfold ownedTupleIsFree;refine gV (HW hz rfl (x:=.none) rfl (hW ?_));simp only [if_true];refine gV (J6 (gV (HW hz rfl (x:=.ref O) rfl (gV (Hv hz (by simp) fun g1 z1 s1=>?_)))))
 have Z1:O1 g1 z T O .ellipsis:=z1;clear z1;refine gV ?_;simp only [Om,RQ,KZ,NM];refine gV (gV (Ob (gV (m:=nextOf (.ref i)) ?_)));refine nx_item (hi.up fun o e=>s1.extBut _ o D.i1z e) (ha.up fun o e=>s1.extBut _ o D.l1z e) hx fun g2 L s2=>hW ?_;have O2:Kx g2 O p r:=s2.extBut _ _ D.TOi1 (s1.extBut _ _ D.TOz hO);refine gV (J0 O2 rfl (gV (N1 O2 fun g3 o3 s3=>?_)));have O3:Kx g3 O x r:=o3;clear o3;refine gV (JP (hW (gV (gV (Ob (gV (m:=nextOf (.ref j)) ?_))))));refine nx_item (hj.up fun o e=>s3.extBut _ o D.TOi2.symm (s2.extBut _ o D.i12.symm (s1.extBut _ o D.i2z e))) (hb.up fun o e=>s3.extBut _ o D.l2TO (s2.extBut _ o D.l2i1 (s1.extBut _ o D.l2z e))) hy fun g4 U s4=>hW ?_;have O4:Kx g4 O x r:=s4.extBut _ _ D.TOi2 O3;refine gV (J0 O4 rfl (gV (N1 O4 fun B o5 s5=>?_)));have O5:Kx B O x y:=o5;clear o5;refine gV (JP (hW (hW (gV (J0 O5 rfl (gV (Lm ?_)))))));have sz:B.objs.size=s.heap.objs.size:=by rw [s5.1,s4.1,s3.1,s2.1,s1.1]
 have k5:∀ c o,c≠z->c≠O->c≠i->c≠j->s.heap.get? c=some o->B.get? c=some o:=fun c o F G Y Z e =>
  s5.extBut _ _ G (s4.extBut _ _ Z (s3.extBut _ _ G (s2.extBut _ _ Y (s1.extBut _ _ F e))))
 have Z5:O1 B z T O .ellipsis:=s5.extBut _ _ D.TOz.symm (s4.extBut _ _ D.i2z.symm (s3.extBut _ _ D.TOz.symm (s2.extBut _ _ D.i1z.symm Z1)));have I5:At t B i a (k+1):=L.up fun o e=>s5.extBut _ o D.TOi1.symm (s4.extBut _ o D.i12 (s3.extBut _ o D.TOi1.symm e));have J5:At u B j b (k+1):=U.up fun o e=>s5.extBut _ o D.TOi2.symm e;have zl:z < B.objs.size:=H0 Z5;refine gV (m:=ownedTupleHandOut (.ref z) (.ref B.objs.size)) ?_;unfold ownedTupleHandOut;refine gV (Hv (h6 _ Z5) (by simp) fun g7 z7 s7=>?_)
 have Z7:O1 g7 z T O (JU B.objs.size):=z7;clear z7;refine Hv Z7 (by simp) fun J z8 s8=>?_
 have Z8:O1 J z T O (JU B.objs.size):=z8;clear z8;have up:∀ c o,c≠z->B.get? c=some o->J.get? c=some o:=fun c o F e=>s8.extBut _ _ F (s7.extBut _ _ F (h6 _ e));have P8:Kx J B.objs.size x y:=s8.extBut _ _ (Iu zl) (s7.extBut _ _ (Iu zl) (GZ _ rfl));rw [sz] at Z8 P8;refine hW ⟨_,rfl,?_⟩;show Q (.ref B.objs.size) _;rw [sz];exact q J Z8 (up _ _ D.TOz O5) (I5.up fun o e=>up _ o D.i1z e) (J5.up fun o e=>up _ o D.i2z e) P8 fun c o F G Y Z e=>up c o F (k5 c o F G Y Z e)
open Builtin.SmallTypes in
theorem DN {z T O i j a b:Addr} {t u:Bool} {k:Nat} {xs ys:Array hH} {p r:hH} {Q:Fin->tv->Prop} (Z:A.handled=none) (D:Pk z T O i j a b)
 (hz:O1 s.heap z T O .none) (hT:Kx s.heap T (.ref i) (.ref j)) (hO:Kx s.heap O p r)
 (hi:At t s.heap i a k) (hj:At u s.heap j b k) (ha:Sq t s.heap a xs) (hb:Sq u s.heap b ys) (G:xs[k]? = none∨ys[k]? = none)
 (q:∀ h' e,(∀ c o,c≠z->c≠O->c≠i->c≠j->s.heap.get? c=some o->h'.get? c=some o)->(∃ o,h'.get? e=some o/\o.cls = .type "StopIteration")->E (.ref e) { s with heap:=h' }) :
 Hh (model prog w) A (IS.«zip.__next__» ⟨[.ref z],[]⟩) Q E s:=by
 refine gV (m:=field (.ref z) 2) (HW hz rfl (x:=.bool false) rfl ?_);refine gV (m:=field (.ref z) 3) (HW hz rfl (x:=.ref T) rfl ?_);refine gV (J0 hT rfl ?_);refine gV (m:=ownedTupleIsFree (.ref z)) ?_;unfold ownedTupleIsFree;refine gV (HW hz rfl (x:=.none) rfl (hW ?_));simp only [if_true];refine gV (J6 (gV (HW hz rfl (x:=.ref O) rfl (gV (Hv hz (by simp) fun g1 z1 s1=>?_)))))
 have Z1:O1 g1 z T O .ellipsis:=z1;clear z1;refine gV ?_;simp only [Om,RQ,KZ,NM];refine gV (gV (Ob (gV (m:=nextOf (.ref i)) ?_)));have J:At t g1 i a k:=hi.up fun o e=>s1.extBut _ o D.i1z e;have L:Sq t g1 a xs:=ha.up fun o e=>s1.extBut _ o D.l1z e
 cases hx:xs[k]? with
 | none =>
   refine nx_end Z J L hx fun g2 e s2 he=>?_;obtain ⟨oe,B,F⟩:=he;have Z2:O1 g2 z T O .ellipsis:=s2 _ _ D.i1z.symm Z1;have ez:e≠z:=fun x=>by subst x;rw [Z2] at B;cases B;simp at F
   exact Hv Z2 (by simp) fun g3 _ s3=>q g3 e (fun c o U _ Y _ x=>s3.extBut _ _ U (s2 _ _ Y (s1.extBut _ _ U x))) ⟨oe,s3.extBut _ _ ez B,F⟩
 | some x =>
   have hy:ys[k]? = none:=G.elim (fun z=>by rw [hx] at z;cases z) id
   refine nx_item J L hx fun g2 ES s2=>hW ?_;have O2:Kx g2 O p r:=s2.extBut _ _ D.TOi1 (s1.extBut _ _ D.TOz hO);refine gV (J0 O2 rfl (gV (N1 O2 fun g3 o3 s3=>?_)));refine gV (JP (hW (gV (gV (Ob (gV (m:=nextOf (.ref j)) ?_))))));refine nx_end Z (hj.up fun o e=>s3.extBut _ o D.TOi2.symm (s2.extBut _ o D.i12.symm (s1.extBut _ o D.i2z e))) (hb.up fun o e=>s3.extBut _ o D.l2TO (s2.extBut _ o D.l2i1 (s1.extBut _ o D.l2z e))) hy fun g4 e s4 he=>?_;obtain ⟨oe,B,F⟩:=he;have Z4:O1 g4 z T O .ellipsis:=s4 _ _ D.i2z.symm (s3.extBut _ _ D.TOz.symm (s2.extBut _ _ D.i1z.symm Z1));have ez:e≠z:=fun x=>by subst x;rw [Z4] at B;cases B;simp at F
   exact Hv Z4 (by simp) fun g5 _ s5=>q g5 e (fun c o U c2 Y c4 x=>s5.extBut _ _ U (s4 _ _ c4 (s3.extBut _ _ c2 (s2.extBut _ _ Y (s1.extBut _ _ U x))))) ⟨oe,s5.extBut _ _ ez B,F⟩
theorem nxt_item {z T O i j a b:Addr} {t u:Bool} {k:Nat} {xs ys:Array hH} {x y p r:hH} {Q:Option hH->tv->Prop} (D:Pk z T O i j a b)
 (hz:O1 s.heap z T O .none) (B:Kx s.heap T (.ref i) (.ref j)) (G:Kx s.heap O p r)
 (hi:At t s.heap i a k) (J:At u s.heap j b k) (L:Sq t s.heap a xs) (U:Sq u s.heap b ys) (hx:xs[k]? = some x) (Y:ys[k]? = some y)
 (q:∀ h',O1 h' z T O (JU s.heap.objs.size)->Kx h' O x y->At t h' i a (k+1)->At u h' j b (k+1)->Kx h' s.heap.objs.size x y ->
   (∀ c o,c≠z->c≠O->c≠i->c≠j->s.heap.get? c=some o->h'.get? c=some o)->Q (some (.ref s.heap.objs.size)) { s with heap:=h' }) :
 Hh (model prog w) A (JD (.ref z)) Q E s:=by
 have ty:s.TypeIs (.ref z) "zip":=⟨_,hz,rfl⟩;unfold JD;exact gV (Jn (HN (name:=Iy "__next__") ty Nf (HK Nf ty Rc
  (C6 D hz B G hi J L U hx Y fun h' a1 a2 Z a4 a5 a6=>hW (q h' a1 a2 Z a4 a5 a6)) (QL _))))
theorem nxt_end {z T O i j a b:Addr} {t u:Bool} {k:Nat} {xs ys:Array hH} {p r:hH} {Q:Option hH->tv->Prop} (G:A.handled=none) (D:Pk z T O i j a b)
 (hz:O1 s.heap z T O .none) (J:Kx s.heap T (.ref i) (.ref j)) (L:Kx s.heap O p r)
 (hi:At t s.heap i a k) (U:At u s.heap j b k) (Y:Sq t s.heap a xs) (Z:Sq u s.heap b ys) (B:xs[k]? = none∨ys[k]? = none)
 (q:∀ h',(∀ c o,c≠z->c≠O->c≠i->c≠j->s.heap.get? c=some o->h'.get? c=some o)->Q none { s with heap:=h' }):Hh (model prog w) A (JD (.ref z)) Q E s:=by
 have ty:s.TypeIs (.ref z) "zip":=⟨_,hz,rfl⟩;unfold JD;refine gV (Jn (HN (name:=Iy "__next__") ty Nf (HK Nf ty Rc
  (DN G D hz J L hi U Y Z B fun h' e hk he=>?_) (QL _))))
 obtain ⟨o,ho,hc⟩:=he;exact gV (Jg (T:="StopIteration") (b:=true) ⟨o,ho,hc⟩ NN (hW (q _ hk)))
noncomputable def itO (t:Bool) (l:Addr):Obj:=match t with | true=>{ cls:=.type "tuple_iterator",data:=.fields #[.ref l,.int 0 0] } | false=>{ cls:=.type "list_iterator",data:=.fields #[.ref l,.int 0 0] }
noncomputable def zH1 (h:Heap) (t:Bool) (a:Addr):Heap:=h.push (itO t a)
noncomputable def zH2 (h:Heap) (t u:Bool) (a b:Addr):Heap:=(zH1 h t a).push (itO u b)
noncomputable def zH3 (h:Heap) (t u:Bool) (a b:Addr):Heap:=(zH2 h t u a b).push { cls:=.type "tuple",data:=.seq #[.ref h.objs.size,.ref (zH1 h t a).objs.size] }
noncomputable def zH4 (h:Heap) (t u:Bool) (a b:Addr):Heap:=(zH3 h t u a b).push { cls:=.type "tuple",data:=.seq #[.none,.none] }
noncomputable def zH5 (h:Heap) (t u:Bool) (a b:Addr):Heap:=(zH4 h t u a b).push { cls:=.type "zip",data:=.fields #[.none,.bool false,.bool false,.ref (zH2 h t u a b).objs.size,.ref (zH3 h t u a b).objs.size] }
theorem u8 (t u:Bool) (a b:Addr) (xs ys:Array hH) :
 Meets (IS.«zip.__new__» ⟨[.type "zip",.ref a,.ref b],[]⟩) (fun _ R s=>Sq t s.heap a xs/\Sq u s.heap b ys/\R (.ok (.ret (.ref (zH4 s.heap t u a b).objs.size))) { s with heap:=zH5 s.heap t u a b }) :=
 .of_wp fun prog w A R s h=>by
  obtain ⟨j,g,d,tk,os⟩:=s;obtain ⟨B,F,h⟩:=h;have hs:=sub_zip
  cases t <;> cases u
  ·have q:Pm (KP ⟨j,g,d,tk,os⟩) a xs:=B;have z:Pm (KP ⟨j.push { cls:=.type "list_iterator",data:=.fields #[.ref a,.int 0 0] },g,d,tk,os⟩) b ys:=Rf F _
   wp_walk using Jz q,Jz z
   exact ⟨_,rfl,h⟩
  ·have q:Pm (KP ⟨j,g,d,tk,os⟩) a xs:=B;have z:Nu (KP ⟨j.push { cls:=.type "list_iterator",data:=.fields #[.ref a,.int 0 0] },g,d,tk,os⟩) b ys:=QM F _
   wp_walk using Jz q,Jt z
   exact ⟨_,rfl,h⟩
  ·have q:Nu (KP ⟨j,g,d,tk,os⟩) a xs:=B;have z:Pm (KP ⟨j.push { cls:=.type "tuple_iterator",data:=.fields #[.ref a,.int 0 0] },g,d,tk,os⟩) b ys:=Rf F _
   wp_walk using Jt q,Jz z
   exact ⟨_,rfl,h⟩
  ·have q:Nu (KP ⟨j,g,d,tk,os⟩) a xs:=B;have z:Nu (KP ⟨j.push { cls:=.type "tuple_iterator",data:=.fields #[.ref a,.int 0 0] },g,d,tk,os⟩) b ys:=QM F _
   wp_walk using Jt q,Jt z
   exact ⟨_,rfl,h⟩
theorem at_new {t:Bool} {h:Heap} {i l:Addr} (e:h.get? i=some (itO t l)):At t h i l 0:=by
 cases t <;> exact ⟨_,e,rfl,rfl⟩
theorem call_zip {t u:Bool} {a b:Addr} {xs ys:Array hH} {Q:hH->tv->Prop} (ha:Sq t s.heap a xs) (hb:Sq u s.heap b ys)
 (q:∀ h',O1 h' (s.heap.objs.size+4) (s.heap.objs.size+2) (s.heap.objs.size+3) .none->Kx h' (s.heap.objs.size+2) (.ref s.heap.objs.size) (.ref (s.heap.objs.size+1)) ->
   Kx h' (s.heap.objs.size+3) .none .none->At t h' s.heap.objs.size a 0->At u h' (s.heap.objs.size+1) b 0->h'.objs.size=s.heap.objs.size+5 ->
   (∀ c o,s.heap.get? c=some o->h'.get? c=some o)->Q (.ref (s.heap.objs.size+4)) { s with heap:=h' }) :
 Hh (model prog w) A (call (.type "zip") [.ref a,.ref b]) Q E s:=by
 refine callType_new F.called_zip (by decide) (F.typeCall_zip_2 _ _) (F.newCall_zip_2 _ _) (fun obj=>F.args_object_init_3 obj _ _) F.entry_zip_new (u8 t u a b xs ys) ⟨ha,hb,?_⟩
 have B:(zH1 s.heap t a).objs.size=s.heap.objs.size+1:=IX ..;have G:(zH2 s.heap t u a b).objs.size=s.heap.objs.size+2:=by unfold zH2;rw [IX,B]
 have J:(zH3 s.heap t u a b).objs.size=s.heap.objs.size+3:=by unfold zH3;rw [IX,G]
 have L:(zH4 s.heap t u a b).objs.size=s.heap.objs.size+4:=by unfold zH4;rw [IX,J]
 have z5:(zH5 s.heap t u a b).objs.size=s.heap.objs.size+5:=by unfold zH5;rw [IX,L]
 have j:∀ {c o},(zH4 s.heap t u a b).get? c=some o->(zH5 s.heap t u a b).get? c=some o:=fun e=>h6 _ e;have z:∀ {c o},(zH3 s.heap t u a b).get? c=some o->(zH4 s.heap t u a b).get? c=some o:=fun e=>h6 _ e;have O:∀ {c o},(zH2 s.heap t u a b).get? c=some o->(zH3 s.heap t u a b).get? c=some o:=fun e=>h6 _ e;have Y:∀ {c o},(zH1 s.heap t a).get? c=some o->(zH2 s.heap t u a b).get? c=some o:=fun e=>h6 _ e;have k1:∀ {c o},s.heap.get? c=some o->(zH1 s.heap t a).get? c=some o:=fun e=>h6 _ e;have f:∀ t l,(itO t l).isFreed=false:=fun t l=>by cases t <;> rfl
 have U:(zH5 s.heap t u a b).get? (zH4 s.heap t u a b).objs.size=some _:=GZ _ rfl;have Z:(zH5 s.heap t u a b).get? (zH3 s.heap t u a b).objs.size=some _:=j (GZ _ rfl);have g3:(zH5 s.heap t u a b).get? (zH2 s.heap t u a b).objs.size=some _:=j (z (GZ _ rfl));have g2:(zH5 s.heap t u a b).get? (zH1 s.heap t a).objs.size=some _:=j (z (O (GZ _ (f u b))));have g1:(zH5 s.heap t u a b).get? s.heap.objs.size=some _:=j (z (O (Y (GZ _ (f t a)))));show _/\_;rw [G,J,L] at U;rw [B,G] at g3;rw [J] at Z;rw [B] at g2;rw [L];exact ⟨⟨_,U,rfl⟩,q _ U g3 Z (at_new g1) (at_new g2) z5 fun c o x=>j (z (O (Y (k1 x))))⟩
end
end Zp
end L2
namespace L2
open PySem PySem.Spec PyProof.Rows
section
section
variable {X:Cx} {pins:List (Addr×Obj)} {σ:St} {H:Hp} {s:tv} {h':Heap}
theorem Inv.turnedL {t':Nat} {fp:List Addr} (I:Inv X pins σ H s) (hf:∀ b∈fp,bZ X pins H b) (k:∀ b o,b∉fp->s.heap.get? b=some o->h'.get? b=some o):Inv X pins σ H { s with heap:=h',toks:=t' }:=by
 have nit:∀ b u,H b=some u->b∉fp:=fun b u e z=>by rw [(hf b z).1] at e;cases e
 refine I.step (g':=s.gens) (d':=s.drawn) (ch:=fp) (fun b B=>?_) (fun b o _ _ j e _=>k b o j e) (fun b o _ _ j e _=>⟨o.slots,k b o j e⟩) (fun _ _ _ _ n=>n)
  (fun b o j e=>⟨o,k b o j e⟩) (fun _ _ e=>e) (fun _ _ _ e=>e) (fun b ps e=>⟨#[],by rw [e];simp⟩) (fun m hm=>?_) (fun b u e=>?_) I.bare
 ·obtain ⟨_,f1,_,F,f4,G⟩:=hf b B;exact ⟨F,f1,f4,G⟩
 ·obtain ⟨o,es,ep,ho,r⟩:=hm;exact ⟨o,es,ep,k _ o (fun z=>(hf _ z).2.1 rfl) ho,r⟩
 ·refine (I.hok b u e).stay (fun c v j q=>k c v ?_ q) (fun _ q=>q) fun _ _ q=>q
  rcases j with z | z
  ·rw [z];exact nit b u e
  ·exact nit c _ z
end
def SqV (K:Frag) (t:Bool) (H:Hp) (a:Addr) (xs:List V):Prop:=match t with | true=>SqT K H a xs | false=>SqL K H a xs
theorem Inv.sqv {X:Cx} {pins:List (Addr×Obj)} {σ:St} {H:Hp} {s:tv} {t:Bool} {a:Addr} {xs:List V} (I:Inv X pins σ H s) (h:SqV X.K t H a xs):∃ its:List hH,Vals xs its/\Zp.Sq t s.heap a its.toArray:=by
 cases t with
 | true=>obtain ⟨its,r,p,_⟩:=I.tuple h;exact ⟨its,r,p⟩
 | false=>obtain ⟨its,r,p,_⟩:=I.list h;exact ⟨its,r,p.isList⟩
theorem Inv.sqv_inj {X:Cx} {pins:List (Addr×Obj)} {σ:St} {H:Hp} {s:tv} {t:Bool} {a:Addr} {xs ys:List V} (I:Inv X pins σ H s) (h:SqV X.K t H a xs) (h':SqV X.K t H a ys):xs=ys:=by
 cases t with
 | true=>exact I.tuple_inj h h'
 | false=>exact I.list_inj h h'
noncomputable def Itz (K:Frag) (t u:Bool) (a b:Addr):It :=
 ⟨fun i H=>∃ xs ys x y,SqV K t H a xs/\SqV K u H b ys/\xs[i]? = some x/\ys[i]? = some y,
  fun i H v H'=>∃ p x y,H p=none/\v = .ref p/\H'=upd H p (.tup [x,y]) /\ ∀ xs ys,SqV K t H a xs->SqV K u H b ys->xs[i]? = some x/\ys[i]? = some y,
  fun i H=>∃ xs ys,SqV K t H a xs/\SqV K u H b ys/\(xs.length<=i∨ys.length<=i)⟩
theorem xi {P:HB} {w:HX} {K:Frag} {elts:List Expr} {cx} {pos:Pos} {t u:Bool} {z T O i j a b:Addr} (D:Pk z T O i j a b) :
 fx P w K (.Tuple elts cx pos) (Itz K t u a b) [z,T,O,i,j] z (fun k h=>O1 h z T O .none/\Kx h T (.ref i) (.ref j)/\(∃ p r,Kx h O p r)/\Zp.At t h i a k/\Zp.At u h j b k) where
 mem:=by simp
 obj:=fun k h ⟨hz,B,⟨p,r,F⟩,hi,G⟩ c q=>by
  simp only [He,I9,or_false] at q
  rcases q with rfl | rfl | rfl | rfl | rfl
  ·exact ⟨_,hz,fun v e=>by cases e⟩
  ·exact ⟨_,B,fun v e=>by cases e⟩
  ·exact ⟨_,F,fun v e=>by cases e⟩
  ·exact hi.lt
  ·exact G.lt
 keep:=fun k h h' ⟨hz,B,⟨p,r,F⟩,hi,G⟩ kk=>⟨kk z (by simp) _ hz,kk T (by simp) _ B,⟨p,r,kk O (by simp) _ F⟩,hi.up fun o e=>kk i (by simp) o e,G.up fun o e=>kk j (by simp) o e⟩
 item:=by
  intro X U hw Y q k pins s σ H E I hf st hg;subst U hw Y;obtain ⟨hz,B,⟨p,r,F⟩,hi,G⟩:=st;obtain ⟨xs,ys,x,y,qx,qy,ex,ey⟩:=hg;obtain ⟨is,rx,px⟩:=I.sqv qx;obtain ⟨js,ry,py⟩:=I.sqv qy;obtain ⟨ux,Z,rux⟩:=rx.get ex;obtain ⟨uy,ES,ruy⟩:=ry.get ey;refine Zp.nxt_item D hz B F hi G px py (by simpa using Z) (by simpa using ES) fun h1 z1 o1 i1 j1 p1 L=>⟨_,rfl,?_⟩
  refine wpAny_letOwnedTupleGo_zip (s:={ s with heap:=h1 }) z1 fun h2 z2 s2=>?_
  have lt:∀ {c o},s.heap.get? c=some o->c≠s.heap.objs.size:=fun e=>HJ (H0 e);have nz:s.heap.objs.size≠z:=(lt hz).symm;have ET:∃ o,s.heap.get? i=some o:=hi.lt.imp fun _ h=>h.1;have EU:∃ o,s.heap.get? j=some o:=G.lt.imp fun _ h=>h.1;have up:∀ c o,c≠z->h1.get? c=some o->h2.get? c=some o:=fun c o n e=>s2.extBut _ _ n e;have IL:Inv X pins σ (upd H s.heap.objs.size (.tup [x,y])) { s with heap:=s.heap.push { cls:=.type "tuple",data:=.seq #[ux,uy] },toks:=s.toks } :=
   I.laid (fun b o e=>h6 _ e) (Hg _) ⟨by rw [D2];simp,[ux,uy],.cons rux (.cons ruy .nil),Mw _ _⟩
  have fr:∀ c∈[z,T,O,i,j],c≠s.heap.objs.size:=fun c q=>by
   simp only [He,I9,or_false] at q
   rcases q with rfl | rfl | rfl | rfl | rfl
   ·exact lt hz
   ·exact lt B
   ·exact lt F
   ·obtain ⟨o,e⟩:=ET;exact lt e
   ·obtain ⟨o,e⟩:=EU;exact lt e
  have un:∀ c∈[z,T,O,i,j],upd H s.heap.objs.size (.tup [x,y]) c=none:=fun c q=>by
   rw [ah (fr c q)];exact (hf c q).1
  have kk:∀ c o,c∉[z,T,O,i,j]->(s.heap.push { cls:=.type "tuple",data:=.seq #[ux,uy] }).get? c=some o->h2.get? c=some o:=fun c o q e=>by
   simp only [He,I9,or_false,not_or] at q
   rcases N3 e with ⟨rfl,rfl⟩ | e
   ·exact up _ _ nz p1
   ·exact up _ _ q.1 (L c o q.1 q.2.2.1 q.2.2.2.1 q.2.2.2.2 e)
  have I2:Inv X pins σ (upd H s.heap.objs.size (.tup [x,y])) { s with heap:=h2,toks:=s.toks } :=
   (Inv.turnedL (s:={ s with heap:=s.heap.push { cls:=.type "tuple",data:=.seq #[ux,uy] },toks:=s.toks }) (h':=h2) (t':=s.toks) (fp:=[z,T,O,i,j]) IL (fun c q=>⟨un c q,(hf c q).2⟩) kk)
  refine ⟨.ref s.heap.objs.size,_,I2,rfl,⟨_,x,y,I.hok.fresh (Hg _),rfl,rfl,fun xs' ys' q1 q2=>?_⟩,⟨z2,up _ _ D.TIz (L _ _ D.TIz D.TITO D.TIi1 D.TIi2 B),⟨_,_,up _ _ D.TOz o1⟩,i1.up fun o e=>up _ o D.i1z e,j1.up fun o e=>up _ o D.i2z e⟩,un⟩;rw [I.sqv_inj q1 qx,I.sqv_inj q2 qy];exact ⟨ex,ey⟩
 done:=by
  intro X U hw Y q k pins s σ H E I hf st hg;subst U hw Y;obtain ⟨hz,B,⟨p,r,F⟩,hi,G⟩:=st;obtain ⟨xs,ys,qx,qy,J⟩:=hg;obtain ⟨is,rx,px⟩:=I.sqv qx;obtain ⟨js,ry,py⟩:=I.sqv qy;have lx:=rx.length;have ly:=ry.length;refine Zp.nxt_end (I.ok.hd q) D hz B F hi G px py (J.imp (fun e=>by simp;lia) (fun e=>by simp;lia)) fun h1 L=>⟨rfl,I.turnedL (t':=s.toks) hf fun c o q e=>?_⟩
  simp only [He,I9,or_false,not_or] at q;exact L c o q.1 q.2.2.1 q.2.2.2.1 q.2.2.2.2 e
 self:=fun A k s Q E st h=>Rg st.1 h
section
variable {X:Cx}
noncomputable def EF (K:Frag) (ta:TA):TI:=fun σ H R=>ta σ H fun vs H1=>∃ a b t u xs ys,vs=[.ref a,.ref b]/\SqV K t H1 a xs/\SqV K u H1 b ys/\R (Itz K t u a b) H1
theorem C7 {elts:List Expr} {cx} {pos p pos':Pos} {a b:Expr} {ta:TA} (G:Gl X "zip") (hm:X.mg "zip" = none) (J:PA X [a,b] ta) (hs:HP [a,b] X.env=[(false,eval a X.env),(false,eval b X.env)]) (j:HP [b] X.env=[(false,eval b X.env)]) :
 PI X (.Tuple elts cx pos) (.Call (.Name "zip" p) [a,b] [] pos') (EF X.K ta):=by
 intro pins s σ H R I h;refine Call_ (dO I G hm (u:=.type "zip") (by decide +kernel) (K6 (thn (J pos' pins s σ H _ I h) fun us s1 ⟨vs,H1,z,L,O⟩=>?_) (by rw [hs,j]) (by rw [j];rfl)))
 obtain ⟨a',b',t,u,xs,ys,rfl,qx,qy,q⟩:=O
 cases L with
 | cons r rr =>
   cases rr with
   | cons r' rr =>
     cases rr
     cases r
     cases r'
     obtain ⟨is,rx,px⟩:=z.sqv qx;obtain ⟨js,ry,py⟩:=z.sqv qy;refine Zp.call_zip px py fun h1 B t1 U Y Z sz k1=>?_;refine Rg B ?_;have la:a' < s1.heap.objs.size:=by cases t <;> (obtain ⟨o,e,_⟩:=px;exact H0 e)
     have lb:b' < s1.heap.objs.size:=by cases u <;> (obtain ⟨o,e,_⟩:=py;exact H0 e)
     have D:Pk (s1.heap.objs.size+4) (s1.heap.objs.size+2) (s1.heap.objs.size+3) s1.heap.objs.size (s1.heap.objs.size+1) a' b':=by constructor <;> (intro e;subst_vars;first | lia | (simp only [Addr] at *;lia))
     refine ⟨_,_,_,_,H1,rfl,z.kept (t':=s1.toks) k1,xi (t:=t) (u:=u) D,⟨B,t1,⟨_,_,U⟩,Y,Z⟩,fun c F=>?_,q⟩;have hle:s1.heap.objs.size<=c:=by
      simp only [He,I9,or_false] at F
      rcases F with rfl | rfl | rfl | rfl | rfl <;> lia
     exact z.fpOk hle (z.hok.fresh hle)
end
end
end L2
namespace L2
namespace Zp
open PySem PySem.Spec PyProof.Rows
end Zp
open PySem PySem.Spec PyProof.Rows
end L2
namespace L2
namespace En
open PySem PySem.Spec PyProof.Rows
section
variable {prog:HB} {w:HX} {A:I0} {E:hH->tv->Prop} {s:tv}
open Builtin.SmallTypes Zp in
theorem C8 {z i a:Addr} {t:Bool} {k:Nat} {xs:Array hH} {x old:hH} {Q:hH->tv->Prop} (hz:ON s.heap z i k old) (hi:At t s.heap i a k) (ha:Sq t s.heap a xs) (hx:xs[k]? = some x) (j:z≠i)
 (q:∀ h',Rh h' z i ((k:Int)+1) x s.heap.objs.size->At t h' i a (k+1)->h'.get? s.heap.objs.size=some { cls:=.type "tuple",data:=.seq #[.int k s.toks,x] } ->
   (∀ b o,b≠z->b≠i->s.heap.get? b=some o->h'.get? b=some o)->Q (.ref s.heap.objs.size) { s with heap:=h',toks:=s.toks+1 }) :
 Hh (model prog w) A (IS.«enumerate.__next__» ⟨[.ref z],[]⟩) (fun fin s'=>∃ v,fin = .done (.ret v)/\Q v s') E s:=by
 obtain ⟨B,g,d,tk,os⟩:=s;refine gV (m:=field (.ref z) 2) (HW hz rfl (x:=.ref i) rfl (gV (nx_item hi ha hx fun g1 i1 s1=>?_)));have S1:IQ i B g1:=s1;clear s1;have U:ON g1 z i k old:=(S1.2 z j).trans hz;refine gV (m:=field (.ref z) 3) (HW (s:=⟨g1,g,d,tk,os⟩) U rfl (x:=JU k) rfl ?_);refine gV (m:=field (.ref z) 4) (HW (s:=⟨g1,g,d,tk,os⟩) U rfl (x:=.none) rfl ?_);refine gV (m:=mkInt k) (wpAny_mkInt ?_);refine gV (m:=setField (.ref z) 3 (JU ((k:Int)+1))) (Hv (s:=⟨g1,g,d,tk+1,os⟩) U (by simp) fun g2 z2 s2=>?_)
 have Y:IQ z g1 g2:=s2;have Z2:ON g2 z i ((k:Int)+1) old:=z2;clear s2 z2;refine gV (m:=setField (.ref z) 4 .none) (Hv (s:=⟨g2,g,d,tk+1,os⟩) Z2 (by simp) fun g3 z3 s3=>?_)
 have Z:IQ z g2 g3:=s3;have Z3:ON g3 z i ((k:Int)+1) old:=z3;clear s3 z3;refine gV (m:=Se [.int k tk,x]) (Lm ?_);have G:ON (g3.push { cls:=.type "tuple",data:=.seq #[.int k tk,x] }) z i ((k:Int)+1) old:=h6 _ Z3;have sz:g3.objs.size=B.objs.size:=by rw [Z.1,Y.1,S1.1]
 have zl:z < B.objs.size:=H0 hz;have T4:(g3.push { cls:=.type "tuple",data:=.seq #[.int k tk,x] }).get? B.objs.size=some { cls:=.type "tuple",data:=.seq #[.int k tk,x] }:=by rw [<- sz];exact GZ _ rfl
 have K4:∀ b o,b≠z->b≠i->B.get? b=some o->(g3.push { cls:=.type "tuple",data:=.seq #[.int k tk,x] }).get? b=some o:=fun b o bz bi e =>
  h6 _ (Z.extBut b o bz (Y.extBut b o bz (S1.extBut b o bi e)))
 have I4:At t (g3.push { cls:=.type "tuple",data:=.seq #[.int k tk,x] }) i a (k+1):=i1.up fun o e=>h6 _ (Z.extBut i o j.symm (Y.extBut i o j.symm e));rw [sz];generalize g3.push { cls:=.type "tuple",data:=.seq #[.int k tk,x] }=F at G T4 K4 I4;refine gV (m:=ownedTupleIsFree (.ref z)) ?_;unfold ownedTupleIsFree;refine gV (HW (s:=⟨F,g,d,tk+1,os⟩) G rfl (x:=.none) rfl (hW ?_));simp only [if_true];refine gV (J6 (gV (HW (s:=⟨F,g,d,tk+1,os⟩) G rfl (x:=old) rfl (gV (Hv (s:=⟨F,g,d,tk+1,os⟩) G (by simp) fun J z5 s5=>?_)))))
 have S5:IQ z F J:=s5;have Z5:ON J z i ((k:Int)+1) x:=z5;clear s5 z5;refine gV (m:=ownedTupleHandOut (.ref z) (.ref B.objs.size)) ?_;unfold ownedTupleHandOut;refine gV (Hv (s:=⟨J,g,d,tk+1,os⟩) Z5 (by simp) fun L z6 s6=>?_)
 have S6:IQ z J L:=s6;have Z6:Rh L z i ((k:Int)+1) x B.objs.size:=z6;clear s6 z6;refine Hv (s:=⟨L,g,d,tk+1,os⟩) Z6 (by simp) fun O z7 s7=>?_
 have S7:IQ z L O:=s7;have Z7:Rh O z i ((k:Int)+1) x B.objs.size:=z7;clear s7 z7;have up:∀ b o,b≠z->F.get? b=some o->O.get? b=some o:=fun b o bz e=>S7.extBut b o bz (S6.extBut b o bz (S5.extBut b o bz e));exact gV (JP (hW ⟨_,rfl,q O Z7 (I4.up fun o e=>up i o j.symm e) (up _ _ (Iu zl) T4) fun b o bz bi e=>up b o bz (K4 b o bz bi e)⟩))
theorem nxt_item {z i a:Addr} {t:Bool} {k:Nat} {xs:Array hH} {x old:hH} {Q:Option hH->tv->Prop} (hz:ON s.heap z i k old) (hi:Zp.At t s.heap i a k) (B:Zp.Sq t s.heap a xs) (hx:xs[k]? = some x) (j:z≠i)
 (q:∀ h',Rh h' z i ((k:Int)+1) x s.heap.objs.size->Zp.At t h' i a (k+1)->h'.get? s.heap.objs.size=some { cls:=.type "tuple",data:=.seq #[.int k s.toks,x] } ->
   (∀ b o,b≠z->b≠i->s.heap.get? b=some o->h'.get? b=some o)->Q (some (.ref s.heap.objs.size)) { s with heap:=h',toks:=s.toks+1 }) :
 Hh (model prog w) A (JD (.ref z)) Q E s:=by
 have ty:s.TypeIs (.ref z) "enumerate":=⟨_,hz,rfl⟩;unfold JD;exact gV (Jn (HN (name:=Iy "__next__") ty Lb (HK Lb ty OO
  (C8 hz hi B hx j fun h' a1 a2 G J=>hW (q h' a1 a2 G J)) (Oo _))))
theorem nxt_end {z i a:Addr} {t:Bool} {k:Nat} {xs:Array hH} {old:hH} {Q:Option hH->tv->Prop} (j:A.handled=none) (hz:ON s.heap z i k old) (hi:Zp.At t s.heap i a k) (B:Zp.Sq t s.heap a xs) (hx:xs[k]? = none)
 (q:∀ h',RE i s.heap h'->Q none { s with heap:=h' }):Hh (model prog w) A (JD (.ref z)) Q E s:=by
 have ty:s.TypeIs (.ref z) "enumerate":=⟨_,hz,rfl⟩;unfold JD;refine gV (Jn (HN (name:=Iy "__next__") ty Lb (HK Lb ty OO ?_ (Oo _))));refine gV (m:=field (.ref z) 2) (HW hz rfl (x:=.ref i) rfl (gV (Zp.nx_end j hi B hx fun h' x he hs=>?_)));obtain ⟨o,ho,G⟩:=hs;exact gV (Jg (T:="StopIteration") (b:=true) ⟨o,ho,G⟩ NN (hW (q _ he)))
open AutoSeq1 (wpAny_loadPart') in
theorem A8 (l:Addr) (items:Array hH) (n:Nat) (dct:Option Addr) (sl:Array (Option hH)) :
 Meets (IS.«enumerate.__new__» ⟨[.type "enumerate",.ref l],[]⟩) (fun _ R s=>s.heap.get? l=some { cls:=.type "tuple",dict:=dct,data:=.seq items n,slots:=sl } /\
  R (.ok (.ret (.ref (s.heap.push (Zp.itO true l)).objs.size))) { s with heap:=(s.heap.push (Zp.itO true l)).push { cls:=.type "enumerate",data:=.fields #[.none,.bool false,.ref s.heap.objs.size,JU 0,.none,.none] } }) :=
 .of_wp fun prog w A R s h=>by
  obtain ⟨B,g,d,tk,os⟩:=s;obtain ⟨j,h⟩:=h;have q:=sub_enumerate;have z:Nu (KP ⟨B,g,d,tk,os⟩) l items:=⟨_,j,rfl,n,rfl⟩
  wp_walk using JV j
  refine wpAny_stack_any fun st=>hW ?_
  split
  ·rename_i c _ _ _ _ _
   cases (c==HY "enumerate") <;> (wp_walk using JV j,Jt z;exact ⟨_,rfl,h⟩)
  ·wp_walk using JV j,Jt z
   exact ⟨_,rfl,h⟩
theorem call_enum {t:Bool} {l:Addr} {items:Array hH} {Q:hH->tv->Prop} (B:Zp.Sq t s.heap l items)
 (q:∀ h',ON h' (s.heap.objs.size+1) s.heap.objs.size 0 .none->Zp.At t h' s.heap.objs.size l 0->(∀ b o,s.heap.get? b=some o->h'.get? b=some o)->Q (.ref (s.heap.objs.size+1)) { s with heap:=h' }) :
 Hh (model prog w) A (call (.type "enumerate") [.ref l]) Q E s:=by
 cases t with
 | false=>exact call_enumerate_list B fun h' a b _ k=>q h' a b k
 | true =>
   obtain ⟨⟨c,dct,dt,sl⟩,J,L,n,hd⟩:=B;have j:c = .type "tuple":=L;have z:dt = .seq items n:=hd;subst j z;refine callType_new F.called_enumerate (by decide) (F.typeCall_enumerate_1 _) (F.newCall_enumerate_1 _) (fun obj=>F.args_object_init_2 obj _) F.entry_enumerate_new (A8 l items n dct sl) ⟨J,?_⟩
   have G:(s.heap.push (Zp.itO true l)).objs.size=s.heap.objs.size+1:=IX ..;have e:((s.heap.push (Zp.itO true l)).push { cls:=.type "enumerate",data:=.fields #[.none,.bool false,.ref s.heap.objs.size,JU 0,.none,.none] }).get? (s.heap.push (Zp.itO true l)).objs.size=some _:=GZ _ rfl;rw [G] at e;show _/\_;rw [G];exact ⟨⟨_,e,rfl⟩,q _ e (Zp.at_new (h6 _ (GZ _ rfl))) fun b o x=>h6 _ (h6 _ x)⟩
end
end En
open PySem PySem.Spec PyProof.Rows
noncomputable def Ite (K:Frag) (t:Bool) (a:Addr):It :=
 ⟨fun i H=>∃ xs x,SqV K t H a xs/\xs[i]? = some x,
  fun i H v H'=>∃ p x,H p=none/\v = .ref p/\H'=upd H p (.tup [.int (i:Nat),x]) /\ ∀ xs,SqV K t H a xs->xs[i]? = some x,
  fun i H=>∃ xs,SqV K t H a xs/\xs.length<=i⟩
theorem u9 {P:HB} {w:HX} {K:Frag} {elts:List Expr} {cx} {pos:Pos} {t:Bool} {z i a:Addr} (q:z≠i) :
 fx P w K (.Tuple elts cx pos) (Ite K t a) [z,i] z (fun k h=>(∃ old,ON h z i k old)/\Zp.At t h i a k) where
 mem:=by simp
 obj:=fun k h ⟨⟨old,hz⟩,hi⟩ c j=>by
  simp only [He,I9,or_false] at j
  rcases j with rfl | rfl
  ·exact ⟨_,hz,fun v e=>by cases e⟩
  ·exact hi.lt
 keep:=fun k h h' ⟨⟨old,hz⟩,hi⟩ kk=>⟨⟨old,kk z (by simp) _ hz⟩,hi.up fun o e=>kk i (by simp) o e⟩
 item:=by
  intro X B hw F j k pins s σ H E I hf st hg;subst B hw F;obtain ⟨⟨old,hz⟩,hi⟩:=st;obtain ⟨xs,x,qx,ex⟩:=hg;obtain ⟨is,rx,px⟩:=I.sqv qx;obtain ⟨ux,G,rux⟩:=rx.get ex;refine En.nxt_item hz hi px (by simpa using G) q fun h1 U Y Z J=>⟨_,rfl,?_⟩
  refine wpAny_letOwnedTupleGo_enum (s:={ s with heap:=h1,toks:=s.toks+1 }) U fun h2 z2 s2=>?_
  have lt:∀ {c o},s.heap.get? c=some o->c≠s.heap.objs.size:=fun e=>HJ (H0 e);have nz:s.heap.objs.size≠z:=(lt hz).symm;have L:∃ o,s.heap.get? i=some o:=hi.lt.imp fun _ h=>h.1;have up:∀ c o,c≠z->h1.get? c=some o->h2.get? c=some o:=fun c o n e=>s2.extBut _ _ n e;have IL:Inv X pins σ (upd H s.heap.objs.size (.tup [.int (k:Nat),x])) { s with heap:=s.heap.push { cls:=.type "tuple",data:=.seq #[.int k s.toks,ux] },toks:=s.toks+1 } :=
   I.laid (fun b o e=>h6 _ e) (Hg _) ⟨by rw [D2];simp,[.int k s.toks,ux],.cons ⟨_,rfl⟩ (.cons rux .nil),Mw _ _⟩
  have fr:∀ c∈[z,i],c≠s.heap.objs.size:=fun c j=>by
   simp only [He,I9,or_false] at j
   rcases j with rfl | rfl
   ·exact lt hz
   ·obtain ⟨o,e⟩:=L;exact lt e
  have un:∀ c∈[z,i],upd H s.heap.objs.size (.tup [.int (k:Nat),x]) c=none:=fun c j=>by
   rw [ah (fr c j)];exact (hf c j).1
  have kk:∀ c o,c∉[z,i]->(s.heap.push { cls:=.type "tuple",data:=.seq #[.int k s.toks,ux] }).get? c=some o->h2.get? c=some o:=fun c o j e=>by
   simp only [He,I9,or_false,not_or] at j
   rcases N3 e with ⟨rfl,rfl⟩ | e
   ·exact up _ _ nz Z
   ·exact up _ _ j.1 (J c o j.1 j.2 e)
  have I2:Inv X pins σ (upd H s.heap.objs.size (.tup [.int (k:Nat),x])) { s with heap:=h2,toks:=s.toks+1 } :=
   Inv.turnedL (s:={ s with heap:=s.heap.push { cls:=.type "tuple",data:=.seq #[.int k s.toks,ux] },toks:=s.toks+1 }) (h':=h2) (t':=s.toks+1) (fp:=[z,i]) IL (fun c j=>⟨un c j,(hf c j).2⟩) kk
  refine ⟨.ref s.heap.objs.size,_,I2,rfl,⟨_,x,I.hok.fresh (Hg _),rfl,rfl,fun xs' q1=>?_⟩,⟨⟨ux,by simpa using z2⟩,Y.up fun o e=>up _ o q.symm e⟩,un⟩
  rw [I.sqv_inj q1 qx];exact ex
 done:=by
  intro X B hw F j k pins s σ H E I hf st hg;subst B hw F;obtain ⟨⟨old,hz⟩,hi⟩:=st;obtain ⟨xs,qx,O⟩:=hg;obtain ⟨is,rx,px⟩:=I.sqv qx;have lx:=rx.length;refine En.nxt_end (I.ok.hd j) hz hi px (by simp;lia) fun h1 J=>⟨rfl,I.turnedL (t':=s.toks) hf fun c o j e=>?_⟩
  simp only [He,I9,or_false,not_or] at j;exact J c o j.2 e
 self:=fun A k s Q E ⟨⟨old,hz⟩,_⟩ h=>QN hz h
section
variable {X:Cx}
noncomputable def DO (K:Frag) (ta:TA):TI:=fun σ H R=>ta σ H fun vs H1=>∃ a t xs,vs=[.ref a]/\SqV K t H1 a xs/\R (Ite K t a) H1
theorem A9 {elts:List Expr} {cx} {pos p pos':Pos} {a:Expr} {ta:TA} (F:Gl X "enumerate") (hm:X.mg "enumerate" = none) (G:PA X [a] ta) (hs:HP [a] X.env=[(false,eval a X.env)]) :
 PI X (.Tuple elts cx pos) (.Call (.Name "enumerate" p) [a] [] pos') (DO X.K ta):=by
 intro pins s σ H R I h;refine Call_ (dO I F hm (u:=.type "enumerate") boot_enumerate (K6 (thn (G pos' pins s σ H _ I h) fun us s1 ⟨vs,H1,j,J,L⟩=>?_) hs rfl));obtain ⟨a',t,xs,rfl,qx,q⟩:=L
 cases J with
 | cons r rr =>
   cases rr
   cases r
   obtain ⟨is,rx,px⟩:=j.sqv qx;refine En.call_enum px fun h1 z O U=>?_;refine QN z ?_;refine ⟨_,_,_,_,H1,rfl,j.kept (t':=s1.toks) U,u9 (t:=t) (a:=a') (by simp),⟨⟨_,z⟩,O⟩,fun c B=>?_,q⟩
   have hle:s1.heap.objs.size<=c:=by
    simp only [He,I9,or_false] at B
    rcases B with rfl | rfl <;> lia
   exact j.fpOk hle (j.hok.fresh hle)
end
end L2
namespace L2
namespace Rv
open PySem PySem.Spec PyProof.Rows
end Rv
open PySem PySem.Spec PyProof.Rows
end L2
namespace L2
namespace Mi
open PySem PySem.Spec PyProof.Rows
section
inductive D where
 | non | bl (b:Bool) | int (i:Int) | str (x:Str) | tup (ds:List D) | con (ds:List D) | ref (a:Addr) | fn (x:Str)
inductive O where
 | lst (ds:List D)
 | dct (t:Bool) (kvs:List (D×D))
 | fdc (kvs:List (D×D))
noncomputable abbrev Mem:=Addr->Option O
noncomputable def fz:Option O->Bool
 | some (.lst _)=>false
 | some (.dct _ _)=>false
 | _=>true
noncomputable abbrev al:=List (Option D)
noncomputable def af (M:Mem) (a:Addr) (o:O):Mem:=fun b=>if b=a then some o else M b
theorem aa {M:Mem} {a:Addr} {o:O}:af M a o a=some o:=by unfold af;rw [if_pos rfl]
theorem ak {M:Mem} {a b:Addr} {o:O} (h:b≠a):af M a o b=M b:=by unfold af;rw [if_neg h]
def SqF (K:Frag) (H:Hp) (a:Addr) (xs:List V):Prop :=
 (∃ o,H a=some (.frz o (.lst xs))) ∨
  ∃ (o:Obj) (its:Array hH) (n:Nat),K.lookup a=some o/\o.cls = .type "list" /\ o.dict=none/\o.data = .seq its n/\its.size<=Hd/\Vals xs its.toList
theorem SqF.sq {K:Frag} {H:Hp} {a:Addr} {xs:List V} (h:SqF K H a xs):SqL K H a xs:=by
 rcases h with ⟨o,h⟩ | h
 ·exact .inl (.inr ⟨o,h⟩)
 ·exact .inr h
noncomputable def fk2:Bool:=true
noncomputable def fk3:Bool:=true
noncomputable def fk:List D->Bool
 | [.int _,.int _,.int _]=>true
 | [.tup _,_]=>true
 | [.int _,_]=>fk2
 | []=>false
 | _=>fk3
def TupR (K:Frag) (H:Hp) (ds:List D) (a:Addr) (vs:List V):Prop:=H a=some (.tup vs)∨(fk ds=false/\SqT K H a vs)
theorem TupR.sq {K:Frag} {H:Hp} {ds:List D} {a:Addr} {vs:List V} (h:TupR K H ds a vs):SqT K H a vs:=h.elim SqT.of (·.2)
mutual
noncomputable def RD (K:Frag) (H:Hp):D->V->Prop
 | .non,v=>v = .non
 | .bl b,v=>v = .bl b
 | .int i,v=>v = .int i
 | .str x,v=>v = .str x
 | .tup ds,v=>∃ a vs,v = .ref a/\TupR K H ds a vs/\RDs K H ds vs
 | .con ds,v=>∃ a vs,v = .ref a/\SqF K H a vs/\RDs K H ds vs
 | .ref a,v=>v = .ref a
 | .fn x,v=>∃ f,v = .ref f/\Mk K J3 x=some (some (.ref f))
noncomputable def RDs (K:Frag) (H:Hp):List D->List V->Prop
 | [],vs=>vs=[]
 | d::ds,vs=>∃ v r,vs=v::r/\RD K H d v/\RDs K H ds r
end
structure Stab (H H':Hp):Prop where
 tup:∀ a xs,H a=some (.tup xs)->H' a=some (.tup xs)
 frz:∀ a o u,H a=some (.frz o u)->H' a=some (.frz o u)
theorem Stab.sqT {K:Frag} {H H':Hp} (st:Stab H H') {a:Addr} {xs:List V} (h:SqT K H a xs):SqT K H' a xs:=by
 rcases h with (h | ⟨o,h⟩) | h
 ·exact .inl (.inl (st.tup _ _ h))
 ·exact .inl (.inr ⟨o,st.frz _ _ _ h⟩)
 ·exact .inr h
theorem Stab.sqF {K:Frag} {H H':Hp} (st:Stab H H') {a:Addr} {xs:List V} (h:SqF K H a xs):SqF K H' a xs:=by
 rcases h with ⟨o,h⟩ | h
 ·exact .inl ⟨o,st.frz _ _ _ h⟩
 ·exact .inr h
mutual
theorem RD.mono {K:Frag} {H H':Hp} (st:Stab H H'):∀ {d:D} {v:V},RD K H d v->RD K H' d v
 | .non,_,h=>h
 | .bl _,_,h=>h
 | .int _,_,h=>h
 | .str _,_,h=>h
 | .tup ds,v,h=>by
  unfold RD at h ⊢;obtain ⟨a,vs,e,q,r⟩:=h;exact ⟨a,vs,e,q.imp (st.tup _ _) (fun z=>⟨z.1,st.sqT z.2⟩),RDs.mono st r⟩
 | .con ds,v,h=>by
  unfold RD at h ⊢;obtain ⟨a,vs,e,q,r⟩:=h;exact ⟨a,vs,e,st.sqF q,RDs.mono st r⟩
 | .ref _,_,h=>h
 | .fn _,_,h=>by unfold RD at h ⊢;exact h
theorem RDs.mono {K:Frag} {H H':Hp} (st:Stab H H'):∀ {ds:List D} {vs:List V},RDs K H ds vs->RDs K H' ds vs
 | [],_,h=>h
 | d::ds,vs,h=>by
   unfold RDs at h ⊢;obtain ⟨v,r,e,h1,h2⟩:=h;exact ⟨v,r,e,RD.mono st h1,RDs.mono st h2⟩
end
section
variable {K:Frag} {H H':Hp}
theorem SD {i:Int} {v:V}:RD K H (.int i) v↔v = .int i:=by unfold RD;exact RY
theorem SF {b:Bool} {v:V}:RD K H (.bl b) v↔v = .bl b:=by unfold RD;exact RY
theorem SM {v:V}:RD K H .non v↔v = .non:=by unfold RD;exact RY
theorem SK {x:Str} {v:V}:RD K H (.str x) v↔v = .str x:=by unfold RD;exact RY
theorem SE {a:Addr} {v:V}:RD K H (.ref a) v↔v = .ref a:=by unfold RD;exact RY
theorem SX {x:Str} {v:V}:RD K H (.fn x) v ↔ ∃ f,v = .ref f/\Mk K J3 x=some (some (.ref f)):=by rw [RD]
theorem SS {ds:List D} {v:V}:RD K H (.tup ds) v ↔ ∃ a vs,v = .ref a/\TupR K H ds a vs/\RDs K H ds vs:=by rw [RD]
theorem SO {ds:List D} {v:V} (h:∃ a vs,v = .ref a/\H a=some (.tup vs)/\RDs K H ds vs):RD K H (.tup ds) v:=SS.mpr (let ⟨a,vs,e,h,r⟩:=h; ⟨a,vs,e,.inl h,r⟩)
theorem SI {ds:List D} {v:V} (h:RD K H (.tup ds) v):∃ a vs,v = .ref a/\SqT K H a vs/\RDs K H ds vs:=let ⟨a,vs,e,h,r⟩:=SS.mp h; ⟨a,vs,e,h.sq,r⟩
theorem SR {ds:List D} {v:V} (f:fk ds=true) (h:RD K H (.tup ds) v):∃ a vs,v = .ref a/\H a=some (.tup vs)/\RDs K H ds vs:=let ⟨a,vs,e,h,r⟩:=SS.mp h; ⟨a,vs,e,h.elim id fun z=>(by rw [f] at z;cases z.1),r⟩
theorem SJ {ds:List D} {v:V}:RD K H (.con ds) v ↔ ∃ a vs,v = .ref a/\SqF K H a vs/\RDs K H ds vs:=by rw [RD]
theorem RDs.nil_iff {vs:List V}:RDs K H [] vs↔vs=[]:=by rw [RDs]
theorem SG {d:D} {ds:List D} {vs:List V}:RDs K H (d::ds) vs ↔ ∃ v r,vs=v::r/\RD K H d v/\RDs K H ds r:=by rw [RDs]
theorem RDs.nil:RDs K H [] []:=RDs.nil_iff.mpr rfl
theorem RDs.cons {d:D} {ds:List D} {v:V} {vs:List V} (h:RD K H d v) (r:RDs K H ds vs):RDs K H (d::ds) (v::vs):=SG.mpr ⟨v,vs,rfl,h,r⟩
theorem RDs.length:∀ {ds:List D} {vs:List V},RDs K H ds vs->vs.length=ds.length
 | [],_,h=>by rw [RDs.nil_iff.mp h];rfl
 | d::ds,_,h=>by
   obtain ⟨v,r,rfl,_,h2⟩:=SG.mp h;simp [RDs.length h2]
theorem RDs.get:∀ {ds:List D} {vs:List V} {i:Nat} {d:D},RDs K H ds vs->ds[i]? = some d -> ∃ v,vs[i]? = some v/\RD K H d v
 | [],_,_,_,_,e=>by simp at e
 | d::ds,_,0,d',h,e=>by
   obtain ⟨v,r,rfl,h1,h2⟩:=SG.mp h;simp at e;subst e;exact ⟨v,rfl,h1⟩
 | d::ds,_,i+1,d',h,e=>by
   obtain ⟨v,r,rfl,h1,h2⟩:=SG.mp h;obtain ⟨u,j,q⟩:=RDs.get (i:=i) (d:=d') h2 (by simpa using e)
   exact ⟨u,by simpa using j,q⟩
theorem RDs.getV {ds:List D} {vs:List V} {i:Nat} {v:V} (h:RDs K H ds vs) (e:vs[i]? = some v):∃ d,ds[i]? = some d/\RD K H d v:=by
 have z:=h.length;have hi:i < vs.length:=(Hy.mp e).1;obtain ⟨d,hd⟩:∃ d,ds[i]? = some d:=⟨ds[i]'(by lia),D0 (by lia)⟩
 obtain ⟨u,j,q⟩:=h.get hd;rw [e] at j;cases j;exact ⟨d,hd,q⟩
theorem RDs.append:∀ {ds es:List D} {vs us:List V},RDs K H ds vs->RDs K H es us->RDs K H (ds++es) (vs++us)
 | [],_,_,_,h,q=>by rw [RDs.nil_iff.mp h];exact q
 | d::ds,_,_,_,h,q=>by
   obtain ⟨v,r,rfl,h1,h2⟩:=SG.mp h;exact RDs.cons h1 (RDs.append h2 q)
theorem RDs.take:∀ {ds:List D} {vs:List V} (n:Nat),RDs K H ds vs->RDs K H (ds.take n) (vs.take n)
 | [],_,n,h=>by rw [RDs.nil_iff.mp h];simp;exact RDs.nil
 | _::_,_,0,h=>by simp;exact RDs.nil
 | d::ds,_,n+1,h=>by
   obtain ⟨v,r,rfl,h1,h2⟩:=SG.mp h;exact RDs.cons h1 (RDs.take n h2)
theorem RDs.drop:∀ {ds:List D} {vs:List V} (n:Nat),RDs K H ds vs->RDs K H (ds.drop n) (vs.drop n)
 | [],_,n,h=>by rw [RDs.nil_iff.mp h];simp;exact RDs.nil
 | d::ds,_,0,h=>h
 | d::ds,_,n+1,h=>by
   obtain ⟨v,r,rfl,h1,h2⟩:=SG.mp h;exact RDs.drop n h2
theorem RDs.set:∀ {ds:List D} {vs:List V} (n:Nat) {d:D} {v:V},RD K H d v->RDs K H ds vs->RDs K H (ds.set n d) (vs.set n v)
 | [],_,n,_,_,_,h=>by rw [RDs.nil_iff.mp h];exact RDs.nil
 | d::ds,_,0,_,_,q,h=>by
   obtain ⟨v,r,rfl,h1,h2⟩:=SG.mp h;exact RDs.cons q h2
 | d::ds,_,n+1,_,_,q,h=>by
   obtain ⟨v,r,rfl,h1,h2⟩:=SG.mp h;exact RDs.cons h1 (RDs.set n q h2)
theorem RDs.rep {ds:List D} {vs:List V} (h:RDs K H ds vs):∀ k:Nat,RDs K H (Ha k ds).flatten (Ha k vs).flatten
 | 0=>RDs.nil
 | k+1=>by
   rw [J4,J4,IG,IG];exact h.append (h.rep k)
theorem T1:∀ (ns:List Int),RDs K H (ns.map D.int) (ns.map V.int)
 | []=>RDs.nil
 | n::ns=>RDs.cons (SD.mpr rfl) (T1 ns)
end
mutual
noncomputable def D.eqb:D->D->Bool
 | .non,.non=>true
 | .bl a,.bl b=>a==b
 | .int a,.int b=>decide (a=b)
 | .str a,.str b=>decide (a=b)
 | .tup a,.tup b=>D.eqbs a b
 | .con a,.con b=>D.eqbs a b
 | .ref a,.ref b=>decide (a=b)
 | .fn a,.fn b=>decide (a=b)
 | _,_=>false
noncomputable def D.eqbs:List D->List D->Bool
 | [],[]=>true
 | a::r,b::s=>D.eqb a b&&D.eqbs r s
 | _,_=>false
end
mutual
theorem SY:∀ (a b:D),D.eqb a b=true->a=b
 | .non,.non,_=>rfl
 | .bl a,.bl b,h=>by simp [D.eqb] at h;rw [h]
 | .int a,.int b,h=>by simp [D.eqb] at h;rw [h]
 | .str a,.str b,h=>by simp [D.eqb] at h;rw [h]
 | .tup a,.tup b,h=>by simp [D.eqb] at h;rw [SU a b h]
 | .con a,.con b,h=>by simp [D.eqb] at h;rw [SU a b h]
 | .ref a,.ref b,h=>by simp [D.eqb] at h;rw [h]
 | .fn a,.fn b,h=>by simp [D.eqb] at h;rw [h]
 | .non,.bl _,h=>by simp [D.eqb] at h
 | .non,.int _,h=>by simp [D.eqb] at h
 | .non,.str _,h=>by simp [D.eqb] at h
 | .non,.tup _,h=>by simp [D.eqb] at h
 | .non,.con _,h=>by simp [D.eqb] at h
 | .non,.ref _,h=>by simp [D.eqb] at h
 | .non,.fn _,h=>by simp [D.eqb] at h
 | .bl _,.non,h=>by simp [D.eqb] at h
 | .bl _,.int _,h=>by simp [D.eqb] at h
 | .bl _,.str _,h=>by simp [D.eqb] at h
 | .bl _,.tup _,h=>by simp [D.eqb] at h
 | .bl _,.con _,h=>by simp [D.eqb] at h
 | .bl _,.ref _,h=>by simp [D.eqb] at h
 | .bl _,.fn _,h=>by simp [D.eqb] at h
 | .int _,.non,h=>by simp [D.eqb] at h
 | .int _,.bl _,h=>by simp [D.eqb] at h
 | .int _,.str _,h=>by simp [D.eqb] at h
 | .int _,.tup _,h=>by simp [D.eqb] at h
 | .int _,.con _,h=>by simp [D.eqb] at h
 | .int _,.ref _,h=>by simp [D.eqb] at h
 | .int _,.fn _,h=>by simp [D.eqb] at h
 | .str _,.non,h=>by simp [D.eqb] at h
 | .str _,.bl _,h=>by simp [D.eqb] at h
 | .str _,.int _,h=>by simp [D.eqb] at h
 | .str _,.tup _,h=>by simp [D.eqb] at h
 | .str _,.con _,h=>by simp [D.eqb] at h
 | .str _,.ref _,h=>by simp [D.eqb] at h
 | .str _,.fn _,h=>by simp [D.eqb] at h
 | .tup _,.non,h=>by simp [D.eqb] at h
 | .tup _,.bl _,h=>by simp [D.eqb] at h
 | .tup _,.int _,h=>by simp [D.eqb] at h
 | .tup _,.str _,h=>by simp [D.eqb] at h
 | .tup _,.con _,h=>by simp [D.eqb] at h
 | .tup _,.ref _,h=>by simp [D.eqb] at h
 | .tup _,.fn _,h=>by simp [D.eqb] at h
 | .con _,.non,h=>by simp [D.eqb] at h
 | .con _,.bl _,h=>by simp [D.eqb] at h
 | .con _,.int _,h=>by simp [D.eqb] at h
 | .con _,.str _,h=>by simp [D.eqb] at h
 | .con _,.tup _,h=>by simp [D.eqb] at h
 | .con _,.ref _,h=>by simp [D.eqb] at h
 | .con _,.fn _,h=>by simp [D.eqb] at h
 | .ref _,.non,h=>by simp [D.eqb] at h
 | .ref _,.bl _,h=>by simp [D.eqb] at h
 | .ref _,.int _,h=>by simp [D.eqb] at h
 | .ref _,.str _,h=>by simp [D.eqb] at h
 | .ref _,.tup _,h=>by simp [D.eqb] at h
 | .ref _,.con _,h=>by simp [D.eqb] at h
 | .ref _,.fn _,h=>by simp [D.eqb] at h
 | .fn _,.non,h=>by simp [D.eqb] at h
 | .fn _,.bl _,h=>by simp [D.eqb] at h
 | .fn _,.int _,h=>by simp [D.eqb] at h
 | .fn _,.str _,h=>by simp [D.eqb] at h
 | .fn _,.tup _,h=>by simp [D.eqb] at h
 | .fn _,.con _,h=>by simp [D.eqb] at h
 | .fn _,.ref _,h=>by simp [D.eqb] at h
theorem SU:∀ (a b:List D),D.eqbs a b=true->a=b
 | [],[],_=>rfl
 | a::r,b::s,h=>by
   simp [D.eqbs] at h;rw [SY a b h.1,SU r s h.2]
 | [],_::_,h=>by simp [D.eqbs] at h
 | _::_,[],h=>by simp [D.eqbs] at h
end
mutual
theorem SW:∀ (a:D),D.eqb a a=true
 | .non=>rfl
 | .bl _=>by simp [D.eqb]
 | .int _=>by simp [D.eqb]
 | .str _=>by simp [D.eqb]
 | .tup a=>by simp [D.eqb,SQ a]
 | .con a=>by simp [D.eqb,SQ a]
 | .ref _=>by simp [D.eqb]
 | .fn _=>by simp [D.eqb]
theorem SQ:∀ (a:List D),D.eqbs a a=true
 | []=>rfl
 | a::r=>by simp [D.eqbs,SW a,SQ r]
end
noncomputable instance:DecidableEq D:=fun a b=>if h:D.eqb a b=true then isTrue (SY a b h) else isFalse fun e=>h (by rw [e];exact SW b)
noncomputable def RKey:D->Key->Prop
 | .int i,k=>k = .inl i
 | .str x,k=>k = .inr x
 | _,_=>False
noncomputable def RKeys:D->List Key->Prop
 | .tup ds,ks=>I8 RKey ds ks
 | _,_=>False
noncomputable def dget (kvs:List (D×D)) (k:D):Option D:=(kvs.find? fun p=>decide (p.1=k)).map (·.2)
noncomputable def bQ (kvs:List (D×D)) (k v:D):List (D×D):=if (kvs.any fun p=>decide (p.1=k))=true then kvs.map (fun p=>if p.1=k then (p.1,v) else p) else kvs++[(k,v)]
noncomputable def gN (kvs:List (D×D)) (k:D):List (D×D):=kvs.filter fun p=>decide (p.1≠k)
noncomputable def fB:D->Bool
 | .int _=>true
 | .str _=>true
 | _=>false
noncomputable def bJ:D->Bool
 | .tup ds=>ds.all fB&&fk ds
 | _=>false
noncomputable def eF (t:Bool) (k:D):Bool:=if t then bJ k else fB k
theorem nH {k:D} (h:fB k=true):∃ q,RKey k q:=by
 cases k <;> first | (simp [fB] at h;done) | exact ⟨_,rfl⟩
theorem qC:∀ {ds:List D},ds.all fB=true -> ∃ ks,I8 RKey ds ks
 | [],_=>⟨[],.nil⟩
 | d::ds,h=>by
   simp only [Kz,z4] at h;obtain ⟨k,j⟩:=nH h.1;obtain ⟨ks,hs⟩:=qC h.2;exact ⟨k::ks,.cons j hs⟩
theorem gO {k:D} (h:bJ k=true):∃ q,RKeys k q:=by
 cases k <;> first | (simp [bJ] at h;done) | exact qC (Pn.mp h).1
theorem gP {ds:List D} (h:bJ (.tup ds)=true):fk ds=true:=(Pn.mp h).2
noncomputable def RO (K:Frag) (H:Hp) (a:Addr):O->Prop
 | .lst ds=>∃ vs,H a=some (.lst vs)/\RDs K H ds vs
 | .dct false kvs=>∃ ps,H a=some (.dK ps)/\I8 (fun (p:D×D) (q:Key×V)=>RKey p.1 q.1/\RD K H p.2 q.2) kvs ps
 | .dct true kvs=>∃ ps,H a=some (.dT ps)/\I8 (fun (p:D×D) (q:List Key×V)=>RKeys p.1 q.1/\RD K H p.2 q.2) kvs ps
 | .fdc kvs=>∃ o ps,H a=some (.frz o (.dT ps))/\I8 (fun (p:D×D) (q:List Key×V)=>RKeys p.1 q.1/\RD K H p.2 q.2) kvs ps
def RM (K:Frag) (M:Mem) (H:Hp):Prop:=∀ a o,M a=some o->RO K H a o
def RS (K:Frag) (H:Hp) (σ:St) (ρ:al):Prop:=σ.length = ρ.length /\ ∀ (i:Nat) (d:D),ρ[i]? = some (some d) -> ∃ v,σ[i]? = some (some v)/\RD K H d v
structure Ext (M:Mem) (H:Hp) (M':Mem) (H':Hp):Prop where
 kp:∀ a o,fz (M a)=true->H a=some o->H' a=some o
 nw:∀ a o,fz (M a)=true->H a=some o->M' a=M a
section
variable {K:Frag} {M M' M'':Mem} {H H' H'':Hp}
theorem Ext.keep (x:Ext M H M' H') (a:Addr) (o:HO) (n:M a=none) (e:H a=some o):H' a=some o:=x.kp a o (by rw [n];rfl) e
theorem Ext.new (x:Ext M H M' H') (a:Addr) (o:HO) (n:M a=none) (e:H a=some o):M' a=none:=(x.nw a o (by rw [n];rfl) e).trans n
theorem Ext.refl:Ext M H M H:=⟨fun _ _ _ h=>h,fun _ _ _ _=>rfl⟩
theorem Ext.trans (a:Ext M H M' H') (b:Ext M' H' M'' H''):Ext M H M'' H'' :=
 ⟨fun c o n h=>b.kp c o (by rw [a.nw c o n h];exact n) (a.kp c o n h),fun c o n h=>(b.nw c o (by rw [a.nw c o n h];exact n) (a.kp c o n h)).trans (a.nw c o n h)⟩
theorem RM.mut (r:RM K M H) {a:Addr} {o:O} (h:M a=some o):∃ ho,H a=some ho/\(∀ xs,ho ≠ .tup xs)/\(fz (some o)=false->Mut (some ho) /\ ∀ ob u,ho ≠ .frz ob u):=by
 have q:=r a o h
 cases o with
 | lst ds =>
   obtain ⟨vs,e,_⟩:=q;exact ⟨_,e,fun _ z=>(by cases z),fun _=>⟨trivial,fun _ _ z=>(by cases z)⟩⟩
 | dct t kvs =>
   cases t with
   | false=>obtain ⟨ps,e,_⟩:=q;exact ⟨_,e,fun _ z=>(by cases z),fun _=>⟨trivial,fun _ _ z=>(by cases z)⟩⟩
   | true=>obtain ⟨ps,e,_⟩:=q;exact ⟨_,e,fun _ z=>(by cases z),fun _=>⟨trivial,fun _ _ z=>(by cases z)⟩⟩
 | fdc kvs=>obtain ⟨ob,ps,e,_⟩:=q;exact ⟨_,e,fun _ z=>(by cases z),fun z=>(by cases z)⟩
theorem RM.fzT (r:RM K M H) {a:Addr} {xs:List V} (e:H a=some (.tup xs)):M a=none:=by
 cases q:M a with
 | none=>rfl
 | some o =>
   obtain ⟨ho,j,z,_⟩:=r.mut q;rw [e] at j;cases j;exact absurd rfl (z xs)
theorem RM.fzF (r:RM K M H) {a:Addr} {ob:Obj} {u:HO} (e:H a=some (.frz ob u)):fz (M a)=true:=by
 cases q:M a with
 | none=>rfl
 | some o =>
   obtain ⟨ho,j,_,B⟩:=r.mut q;rw [e] at j;cases j
   cases z:fz (some o) with
   | true=>rfl
   | false=>exact absurd rfl ((B z).2 ob u)
theorem RM.out (r:RM K M H) {a:Addr} (h:H a=none):M a=none:=by
 cases e:M a with
 | none=>rfl
 | some o =>
   obtain ⟨ho,q,_⟩:=r.mut e;rw [h] at q;cases q
theorem Ext.stab (r:RM K M H) (x:Ext M H M' H'):Stab H H' where
 tup:=fun a xs e=>x.keep a _ (r.fzT e) e
 frz:=fun a o u e=>x.kp a _ (r.fzF e) e
theorem RS.mono (st:Stab H H') {σ:St} {ρ:al} (h:RS K H σ ρ):RS K H' σ ρ :=
 ⟨h.1,fun i d e=>let ⟨v,q,r⟩:=h.2 i d e; ⟨v,q,r.mono st⟩⟩
theorem RS.set {σ:St} {ρ:al} (h:RS K H σ ρ) (i:Nat) {d:D} {v:V} (r:RD K H d v):RS K H (σ.set i (some v)) (ρ.set i (some d)):=by
 refine ⟨by simp [h.1],fun j e q=>?_⟩
 by_cases hij:i=j
 ·subst hij;have hi:i < ρ.length:=by
   have:=(Hy.mp q).1;simpa using this
  rw [Jx hi] at q
  cases q
  exact ⟨v,by rw [Jx (by rw [h.1];exact hi)],r⟩
 ·rw [Ko hij] at q ⊢;exact h.2 j e q
noncomputable def kF (fr:List (Option Nat)) (ρ:al):al:=fr.map fun o=>o.bind fun j=>(ρ[j]?).join
theorem RS.inh {σ:St} {ρ:al} (h:RS K H σ ρ) (fr:List (Option Nat)):RS K H (inh fr σ) (kF fr ρ):=by
 refine ⟨by simp [L2.inh,kF],fun i d e=>?_⟩
 unfold kF at e;unfold L2.inh;rw [HG] at e ⊢
 cases q:fr[i]? with
 | none=>rw [q] at e;cases e
 | some o =>
   rw [q] at e
   cases o with
   | none=>cases e
   | some j =>
     have e':some ((ρ[j]?).join)=some (some d):=e
     cases q' : ρ[j]? with
     | none=>rw [q'] at e';cases e'
     | some w =>
       rw [q'] at e'
       cases e'
       obtain ⟨v,v1,v2⟩:=h.2 j d q';exact ⟨v,by simp [v1],v2⟩
theorem RO.mono (st:Stab H H') {a:Addr} {o:O} (h:RO K H a o) (e:∀ ho,H a=some ho->H' a=some ho):RO K H' a o:=by
 cases o with
 | lst ds=>obtain ⟨vs,q,r⟩:=h;exact ⟨vs,e _ q,r.mono st⟩
 | dct t kvs =>
   cases t with
   | false=>obtain ⟨ps,q,r⟩:=h;exact ⟨ps,e _ q,SH r fun _ _ z=>⟨z.1,z.2.mono st⟩⟩
   | true=>obtain ⟨ps,q,r⟩:=h;exact ⟨ps,e _ q,SH r fun _ _ z=>⟨z.1,z.2.mono st⟩⟩
 | fdc kvs=>obtain ⟨ob,ps,q,r⟩:=h;exact ⟨ob,ps,e _ q,SH r fun _ _ z=>⟨z.1,z.2.mono st⟩⟩
theorem RM.new {p:Addr} {ho:HO} (r:RM K M H) (n:H p=none):RM K M (upd H p ho):=fun a o e=>by
 have ne:a≠p:=fun z=>by subst z;obtain ⟨_,q,_⟩:=r.mut e;rw [n] at q;cases q
 refine (r a o e).mono ⟨fun b xs q=>?_,fun b o u q=>?_⟩ fun j q=>by rw [ah ne];exact q
 ·rw [ah (aV q n)];exact q
 ·rw [ah (aV q n)];exact q
theorem SN {p:Addr} {ho:HO} (n:H p=none):Ext M H M (upd H p ho):=⟨fun a o _ e=>by rw [ah (aV e n)];exact e,fun _ _ _ _=>rfl⟩
theorem RM.lay {p:Addr} {ho:HO} {o:O} (r:RM K M H) (n:H p=none) (h:RO K (upd H p ho) p o):RM K (af M p o) (upd H p ho):=fun a o' e=>by
 by_cases z:a=p
 ·subst z;rw [aa] at e;cases e;exact h
 ·rw [ak z] at e;exact r.new n a o' e
theorem Ext.lay {p:Addr} {ho:HO} {o:O} (n:H p=none):Ext M H (af M p o) (upd H p ho) :=
 ⟨fun a u _ e=>by rw [ah (aV e n)];exact e,fun a u m e=>by rw [ak (aV e n)]⟩
theorem RM.put {p:Addr} {ho:HO} {o o0:O} (r:RM K M H) (m:M p=some o0) (h:RO K (upd H p ho) p o) (w:fz (some o0)=false:=by rfl):RM K (af M p o) (upd H p ho):=fun a o' e=>by
 by_cases z:a=p
 ·subst z;rw [aa] at e;cases e;exact h
 ·rw [ak z] at e;obtain ⟨J,j,B,F⟩:=r.mut m;refine (r a o' e).mono ⟨fun b xs q=>?_,fun b o u q=>?_⟩ fun G q=>by rw [ah z];exact q
  ·rw [ah (fun z=>by subst z;rw [j] at q;cases q;exact B xs rfl)];exact q
  ·rw [ah (fun z=>by subst z;rw [j] at q;cases q;exact (F w).2 o u rfl)];exact q
theorem Ext.put {p:Addr} {ho:HO} {o o0:O} (m:M p=some o0) (w:fz (some o0)=false:=by rfl):Ext M H (af M p o) (upd H p ho) :=
 ⟨fun a u n e=>by rw [ah (fun z=>by subst z;rw [m,w] at n;cases n)];exact e,fun a u n e=>ak (fun z=>by subst z;rw [m,w] at n;cases n)⟩
theorem RM.stabPut {p:Addr} {ho:HO} {o0:O} (r:RM K M H) (m:M p=some o0) (w:fz (some o0)=false:=by rfl):Stab H (upd H p ho):=(Ext.put (o:=o0) (ho:=ho) m w).stab r
end
noncomputable abbrev QD:=D->Mem->Prop
noncomputable abbrev TEd:=al->Mem->QD->Prop
noncomputable abbrev TTd:=al->Mem->(Bool->Mem->Prop)->Prop
noncomputable abbrev TAd:=al->Mem->(List D->Mem->Prop)->Prop
structure aX where
 nx:al->Mem->Prop
 rt:QD
 bk:al->Mem->Prop:=fun _ _=>False
 ct:al->Mem->Prop:=fun _ _=>False
noncomputable abbrev TSd:=aX->al->Mem->Prop
def ad (T:TEd):Prop:=∀ ρ M Q Q',(∀ d M',Q d M'->Q' d M')->T ρ M Q->T ρ M Q'
def aE (T:TTd):Prop:=∀ ρ M Q Q',(∀ d M',Q d M'->Q' d M')->T ρ M Q->T ρ M Q'
def bn (T:TAd):Prop:=∀ ρ M Q Q',(∀ d M',Q d M'->Q' d M')->T ρ M Q->T ρ M Q'
structure LeD (a b:aX):Prop where
 nx:∀ ρ M,a.nx ρ M->b.nx ρ M
 rt:∀ d M,a.rt d M->b.rt d M
 bk:∀ ρ M,a.bk ρ M->b.bk ρ M
 ct:∀ ρ M,a.ct ρ M->b.ct ρ M
def aC (T:TSd):Prop:=∀ a b ρ M,LeD a b->T a ρ M->T b ρ M
noncomputable def KE' (K:Frag) (M:Mem) (H:Hp) (Q:VK):QD:=fun d M'=>∀ v H',Ext M H M' H'->RM K M' H'->RD K H' d v->Q v H'
noncomputable def KT' (K:Frag) (M:Mem) (H:Hp) (Q:Bool->Hp->Prop):Bool->Mem->Prop:=fun b M'=>∀ H',Ext M H M' H'->RM K M' H'->Q b H'
noncomputable def KA' (K:Frag) (M:Mem) (H:Hp) (Q:List V->Hp->Prop):List D->Mem->Prop:=fun ds M'=>∀ vs H',Ext M H M' H'->RM K M' H'->RDs K H' ds vs->Q vs H'
noncomputable def lE (K:Frag) (T:TEd):TE:=fun σ H Q=>∃ ρ M,RS K H σ ρ /\ RM K M H/\T ρ M (KE' K M H Q)
noncomputable def lT (K:Frag) (T:TTd):TT:=fun σ H Q=>∃ ρ M,RS K H σ ρ /\ RM K M H/\T ρ M (KT' K M H Q)
noncomputable def lA (K:Frag) (T:TAd):TA:=fun σ H Q=>∃ ρ M,RS K H σ ρ /\ RM K M H/\T ρ M (KA' K M H Q)
structure Link (K:Frag) (M:Mem) (H:Hp) (a:aX) (b:bC):Prop where
 nx:∀ ρ M' σ H',Ext M H M' H'->RS K H' σ ρ -> RM K M' H'->a.nx ρ M'->b.nx σ H'
 rt:∀ d M' v H',Ext M H M' H'->RM K M' H'->RD K H' d v->a.rt d M'->b.rt v H'
 bk:∀ ρ M' σ H',Ext M H M' H'->RS K H' σ ρ -> RM K M' H'->a.bk ρ M'->b.bk σ H'
 ct:∀ ρ M' σ H',Ext M H M' H'->RS K H' σ ρ -> RM K M' H'->a.ct ρ M'->b.ct σ H'
noncomputable def lS (K:Frag) (T:TSd):TS:=fun D σ H=>∃ ρ M A,RS K H σ ρ /\ RM K M H/\Link K M H A D/\T A ρ M
theorem Link.ext {K:Frag} {M M':Mem} {H H':Hp} {a:aX} {b:bC} (l:Link K M H a b) (x:Ext M H M' H'):Link K M' H' a b :=
 ⟨fun ρ M2 σ H2 y=>l.nx ρ M2 σ H2 (x.trans y),fun d M2 v H2 y=>l.rt d M2 v H2 (x.trans y),fun ρ M2 σ H2 y=>l.bk ρ M2 σ H2 (x.trans y),fun ρ M2 σ H2 y=>l.ct ρ M2 σ H2 (x.trans y)⟩
theorem PE.imp {X:Cx} {e:Expr} {t t':TE} (h:PE X e t) (i:∀ σ H Q,t' σ H Q->t σ H Q):PE X e t':=fun pins s σ H Q I q=>h pins s σ H Q I (i _ _ _ q)
theorem PT.imp {X:Cx} {e:Expr} {t t':TT} (h:PT X e t) (i:∀ σ H Q,t' σ H Q->t σ H Q):PT X e t':=fun pins s σ H Q I q=>h pins s σ H Q I (i _ _ _ q)
theorem PW.imp {X:Cx} {e:Expr} {t t':TT} (h:PW X e t) (i:∀ σ H Q,t' σ H Q->t σ H Q):PW X e t':=fun wh pins s σ H Q I q=>h wh pins s σ H Q I (i _ _ _ q)
theorem PA.imp {X:Cx} {e:List Expr} {t t':TA} (h:PA X e t) (i:∀ σ H Q,t' σ H Q->t σ H Q):PA X e t':=fun p pins s σ H Q I q=>h p pins s σ H Q I (i _ _ _ q)
theorem PS.imp {X:Cx} {e:Stmt} {t t':TS} (h:PS X e t) (i:∀ D σ H,t' D σ H->t D σ H):PS X e t':=fun pins s σ H D I q=>h pins s σ H D I (i _ _ _ q)
theorem PSs.imp {X:Cx} {e:List Stmt} {t t':TS} (h:PSs X e t) (i:∀ D σ H,t' D σ H->t D σ H):PSs X e t':=fun pins s σ H D I q=>h pins s σ H D I (i _ _ _ q)
end
section
theorem KE'.ext {K:Frag} {M M2 M':Mem} {H H2:Hp} {Q:VK} {d:D} (x:Ext M H M2 H2) (h:KE' K M H Q d M'):KE' K M2 H2 Q d M':=fun v H' y=>h v H' (x.trans y)
theorem KT'.ext {K:Frag} {M M2 M':Mem} {H H2:Hp} {Q:Bool->Hp->Prop} {d:Bool} (x:Ext M H M2 H2) (h:KT' K M H Q d M'):KT' K M2 H2 Q d M':=fun H' y=>h H' (x.trans y)
noncomputable abbrev R2d:=D->D->Mem->QD->Prop
noncomputable abbrev R1d:=D->Mem->QD->Prop
noncomputable abbrev RAd:=List D->Mem->QD->Prop
def aB (r:R2d):Prop:=∀ x y M Q Q',(∀ d M',Q d M'->Q' d M')->r x y M Q->r x y M Q'
def rW (r:R1d):Prop:=∀ x M Q Q',(∀ d M',Q d M'->Q' d M')->r x M Q->r x M Q'
def aQ (r:RAd):Prop:=∀ x M Q Q',(∀ d M',Q d M'->Q' d M')->r x M Q->r x M Q'
noncomputable def l2 (K:Frag) (rd:R2d):R2:=fun v u H Q=>∃ x y M,RM K M H/\RD K H x v/\RD K H y u/\rd x y M (KE' K M H Q)
noncomputable def l1 (K:Frag) (rd:R1d):V->Hp->VK->Prop:=fun v H Q=>∃ x M,RM K M H/\RD K H x v/\rd x M (KE' K M H Q)
noncomputable def lR (K:Frag) (rd:RAd):List V->Hp->VK->Prop:=fun vs H Q=>∃ ds M,RM K M H/\RDs K H ds vs/\rd ds M (KE' K M H Q)
noncomputable def lMt (K:Frag) (rd:D->List D->Mem->QD->Prop):V->List V->Hp->VK->Prop:=fun v vs H Q=>∃ x ds M,RM K M H/\RD K H x v/\RDs K H ds vs/\rd x ds M (KE' K M H Q)
noncomputable def iQ (i:Nat):TEd:=fun ρ M Q=>∃ d,ρ[i]? = some (some d)/\Q d M
noncomputable def wC (d:D):TEd:=fun _ M Q=>Q d M
noncomputable def wOp (rd:R2d) (ta tb:TEd):TEd:=fun ρ M Q=>ta ρ M fun x M1=>tb ρ M1 fun y M2=>rd x y M2 Q
noncomputable def wUn (rd:R1d) (ta:TEd):TEd:=fun ρ M Q=>ta ρ M fun x M1=>rd x M1 Q
noncomputable def cy:TAd:=fun _ M Q=>Q [] M
noncomputable def bq (ta:TEd) (tr:TAd):TAd:=fun ρ M Q=>ta ρ M fun x M1=>tr ρ M1 fun xs M2=>Q (x::xs) M2
noncomputable def wAr (rd:RAd) (t:TAd):TEd:=fun ρ M Q=>t ρ M fun ds M1=>rd ds M1 Q
theorem xj {i:Nat}:ad (iQ i):=fun _ _ _ _ h ⟨d,e,q⟩=>⟨d,e,h _ _ q⟩
theorem nI {d:D}:ad (wC d):=fun _ _ _ _ h q=>h _ _ q
theorem eW {rd:R2d} {ta tb:TEd} (j:aB rd) (z:ad ta) (B:ad tb):ad (wOp rd ta tb):=fun ρ M Q Q' h q =>
 z _ _ _ _ (fun x J F=>B _ _ _ _ (fun y M2 G=>j _ _ _ _ _ h G) F) q
theorem Aa {rd:R1d} {ta:TEd} (j:rW rd) (z:ad ta):ad (wUn rd ta):=fun ρ M Q Q' h q=>z _ _ _ _ (fun x F B=>j _ _ _ _ h B) q
theorem aI:bn cy:=fun _ _ _ _ h q=>h _ _ q
theorem aH {ta:TEd} {tr:TAd} (j:ad ta) (z:bn tr):bn (bq ta tr):=fun ρ M Q Q' h q =>
 j _ _ _ _ (fun x G B=>z _ _ _ _ (fun xs M2 F=>h _ _ F) B) q
theorem gQ {rd:RAd} {t:TAd} (j:aQ rd) (z:bn t):ad (wAr rd t):=fun ρ M Q Q' h q=>z _ _ _ _ (fun ds F B=>j _ _ _ _ h B) q
section
variable {X:Cx} {a b:Expr} {ta tb:TEd} {pos:Pos}
theorem C9 {i:Nat} {x:Str} (B:X.N[i]? = some x) (j:Vis X.env.scope x) (hd:(x==("__debug__":Str))=false) (z:(x==("__classdict__":Str))=false):PE X (.Name x pos) (lE X.K (iQ i)):=by
 refine PE.imp (Bw B j hd z) fun σ H Q h=>?_;obtain ⟨ρ,M,rs,rm,d,e,q⟩:=h;obtain ⟨v,j,rd⟩:=rs.2 i d e;exact ⟨v,j,q v H Ext.refl rm rd⟩
theorem Ca {i:Int} {j:Nat}:PE X (.Constant (.int i) j pos) (lE X.K (wC (.int i))) :=
 PE.imp By fun σ H Q ⟨ρ,M,rs,rm,q⟩=>q _ H Ext.refl rm (SD.mpr rfl)
theorem DP {i:Bool} {j:Nat}:PE X (.Constant (.bool i) j pos) (lE X.K (wC (.bl i))) :=
 PE.imp Dt fun σ H Q ⟨ρ,M,rs,rm,q⟩=>q _ H Ext.refl rm (SF.mpr rfl)
theorem Cb {j:Nat}:PE X (.Constant .none j pos) (lE X.K (wC .non)) :=
 PE.imp Bz fun σ H Q ⟨ρ,M,rs,rm,q⟩=>q _ H Ext.refl rm (SM.mpr rfl)
theorem gR {K:Frag} {rd:R2d} (L:aB rd) (ma:ad ta) (mb:ad tb) (σ:St) (H:Hp) (Q:VK) (h:lE K (wOp rd ta tb) σ H Q):tOp (l2 K rd) (lE K ta) (lE K tb) σ H Q:=by
 obtain ⟨ρ,M,rs,rm,q⟩:=h;refine ⟨ρ,M,rs,rm,ma _ _ _ _ (fun x O U v H1 G j z=>?_) q⟩;refine ⟨ρ,O,rs.mono (G.stab rm),j,mb _ _ _ _ (fun y M2 Y u H2 J B F=>?_) U⟩;exact ⟨x,y,M2,B,z.mono (J.stab j),F,L _ _ _ _ _ (fun d M' k=>k.ext (G.trans J)) Y⟩
theorem DQ {op:Mc} {rd:R2d} (ho:OpR X (Jm op) (l2 X.K rd)) (j:aB rd) (ma:ad ta) (mb:ad tb) (q:PE X a (lE X.K ta)) (z:PE X b (lE X.K tb)):PE X (.BinOp a op b pos) (lE X.K (wOp rd ta tb)) :=
 PE.imp (DC ho q z) (gR j ma mb)
theorem Cc {op:CmpOp} {rd:R2d} (ho:OpR X (IW op) (l2 X.K rd)) (j:aB rd) (ma:ad ta) (mb:ad tb) (q:PE X a (lE X.K ta)) (z:PE X b (lE X.K tb)) (hm:Ly op b=false) :
 PE X (.Compare a [op] [b] pos) (lE X.K (wOp rd ta tb)):=PE.imp (zY ho q z hm) (gR j ma mb)
noncomputable def iR (t:TEd):TTd:=fun ρ M Q=>t ρ M fun x M1=>∃ k,x = .bl k/\Q k M1
theorem xk {t:TEd} (h:ad t):aE (iR t):=fun ρ M Q Q' i q=>h _ _ _ _ (fun x z ⟨k,e,j⟩=>⟨k,e,i _ _ j⟩) q
theorem xm {K:Frag} {t:TEd} (m:ad t) (σ:St) (H:Hp) (Q:Bool->Hp->Prop) (h:lT K (iR t) σ H Q):zg (lE K t) σ H Q:=by
 obtain ⟨ρ,M,rs,rm,q⟩:=h;refine ⟨ρ,M,rs,rm,m _ _ _ _ (fun x G ⟨k,e,B⟩ v H1 F j z=>?_) q⟩;subst e;exact ⟨k,SF.mp z,B H1 F j⟩
theorem Cd {op:CmpOp} {rd:R2d} (ho:OpR X (IW op) (l2 X.K rd)) (j:aB rd) (ma:ad ta) (mb:ad tb) (q:PE X a (lE X.K ta)) (z:PE X b (lE X.K tb)) (hm:Ly op b=false) :
 PT X (.Compare a [op] [b] pos) (lT X.K (iR (wOp rd ta tb))) :=
 PT.imp (zZ ho q z hm) fun σ H Q h=>by
  have h1:=xm (eW j ma mb) σ H Q h;exact gR j ma mb σ H _ h1
theorem DR {op:UnaryOp} {rd:R1d} (ho:UnR X (unaryOp op) (l1 X.K rd)) (B:rW rd) (ma:ad ta) (F:PE X a (lE X.K ta)):PE X (.UnaryOp op a pos) (lE X.K (wUn rd ta)) :=
 PE.imp (DD ho F) fun σ H Q ⟨ρ,M,rs,rm,q⟩=>⟨ρ,M,rs,rm,ma _ _ _ _ (fun x G J v H1 L j z=>⟨x,G,j,z,B _ _ _ _ (fun d M' k=>k.ext L) J⟩) q⟩
theorem DS {rd:R2d} (ho:IxR X (l2 X.K rd)) (j:aB rd) (ma:ad ta) (mb:ad tb) (q:PE X a (lE X.K ta)) (z:PE X b (lE X.K tb)) (hs:kD b):PE X (.Subscript a b pos) (lE X.K (wOp rd ta tb)) :=
 PE.imp (DK ho q z hs) (gR j ma mb)
theorem eX:PA X [] (lA X.K cy):=PA.imp tW fun σ H Q ⟨ρ,M,rs,rm,q⟩=>q _ H Ext.refl rm RDs.nil
theorem ua {K:Frag} {tr:TAd} (ma:ad ta) (mr:bn tr) (σ:St) (H:Hp) (Q:List V->Hp->Prop) (h:lA K (bq ta tr) σ H Q):zi (lE K ta) (lA K tr) σ H Q:=by
 obtain ⟨ρ,M,rs,rm,q⟩:=h;refine ⟨ρ,M,rs,rm,ma _ _ _ _ (fun x L O v H1 G j z=>?_) q⟩;refine ⟨ρ,L,rs.mono (G.stab rm),j,mr _ _ _ _ (fun xs M2 U vs H2 J B F=>?_) O⟩;exact U (v::vs) H2 (G.trans J) B (RDs.cons (z.mono (J.stab j)) F)
theorem cn {e:Expr} {es:List Expr} {tr:TAd} (ma:ad ta) (mr:bn tr) (j:PE X e (lE X.K ta)) (q:PA X es (lA X.K tr)) (hs:HP (e::es) X.env=(false,eval e X.env)::HP es X.env) :
 PA X (e::es) (lA X.K (bq ta tr)):=PA.imp (kz j q hs) (ua ma mr)
theorem bp {K:Frag} {rd:RAd} {t:TAd} (B:aQ rd) (mt:bn t) (σ:St) (H:Hp) (Q:VK) (h:lE K (wAr rd t) σ H Q):tCB (lR K rd) (lA K t) σ H Q:=by
 obtain ⟨ρ,M,rs,rm,q⟩:=h;exact ⟨ρ,M,rs,rm,mt _ _ _ _ (fun ds F G vs H1 J j z=>⟨ds,F,j,z,B _ _ _ _ (fun d M' k=>k.ext J) G⟩) q⟩
noncomputable def nJ:RAd:=fun ds M Q=>ds.length<=Hd/\Q (.tup ds) M
noncomputable def nK:RAd:=fun ds M Q=>ds.length<=Hd /\ ∀ p,M p=none->Q (.ref p) (af M p (.lst ds))
theorem ub:aQ nJ:=fun _ _ _ _ h ⟨z,q⟩=>⟨z,h _ _ q⟩
theorem uc:aQ nK:=fun _ _ _ _ h ⟨z,q⟩=>⟨z,fun p n=>h _ _ (q p n)⟩
theorem dD {K:Frag} {M:Mem} {H:Hp} {Q:VK} {ds:List D} {vs:List V} {p:Addr} (rm:RM K M H) (rd:RDs K H ds vs) (q:KE' K M H Q (.tup ds) M) (n:H p=none):Q (.ref p) (upd H p (.tup vs)):=by
 have x:Ext M H M (upd H p (.tup vs)):=SN n;exact q (.ref p) _ x (rm.new n) (SO ⟨p,vs,rfl,ao,rd.mono (x.stab rm)⟩)
theorem cH {K:Frag} {M:Mem} {H:Hp} {Q:VK} {ds:List D} {vs:List V} {p:Addr} (rm:RM K M H) (rd:RDs K H ds vs) (q:∀ p,M p=none->KE' K M H Q (.ref p) (af M p (.lst ds))) (n:H p=none):Q (.ref p) (upd H p (.lst vs)):=by
 have x:Ext M H (af M p (.lst ds)) (upd H p (.lst vs)):=Ext.lay n;have x0:Ext M H M (upd H p (.lst vs)):=SN n;exact q p (rm.out n) (.ref p) _ x (rm.lay n ⟨vs,ao,rd.mono (x0.stab rm)⟩) (SE.mpr rfl)
theorem Ce {es:List Expr} {t:TAd} {k:Nat} (mt:bn t) (h:PA X es (lA X.K t)):PE X (.Tuple es k pos) (lE X.K (wAr nJ t)) :=
 PE.imp (BX h) fun σ H Q ⟨ρ,M,rs,rm,q⟩=>⟨ρ,M,rs,rm,mt _ _ _ _ (fun ds J ⟨z,F⟩ vs H1 G B j=>⟨by rw [j.length];exact z,fun p n=>dD B j (F.ext G) n⟩) q⟩
theorem Cf {es:List Expr} {t:TAd} (mt:bn t) (h:PA X es (lA X.K t)):PE X (.List es pos) (lE X.K (wAr nK t)) :=
 PE.imp (BY h) fun σ H Q ⟨ρ,M,rs,rm,q⟩=>⟨ρ,M,rs,rm,mt _ _ _ _ (fun ds J ⟨z,F⟩ vs H1 G B j=>⟨by rw [j.length];exact z,fun p n=>cH B j (fun p' n'=>(F p' n').ext G) n⟩) q⟩
end
end
end Mi
end L2
namespace L2
open PySem PySem.Spec PyProof.Rows
namespace Mi
end Mi
end L2
namespace L2
open PySem PySem.Spec PyProof.Rows
section
theorem iS:fillsNumberSlot (.type "tuple") "mul" = pure false :=
 PyProof.Rows.fillsNumberSlot_seq (id:="tuple.__mul__") (r:=some (.builtin "tuple.__rmul__")) F.slot_tuple_mul.lookup (by decide +kernel) F.slot_tuple_rmul.lookup (by decide +kernel)
theorem nL:seqRepeat? (.type "tuple")=pure (some (.builtin "tuple.__mul__")):=by
 unfold seqRepeat?;rw [Oq (T:="tuple") (name:="__mul__") (id:="tuple.__mul__") F.slot_tuple_mul.lookup (by decide +kernel),Oq (T:="tuple") (name:="__rmul__") (id:="tuple.__rmul__") F.slot_tuple_rmul.lookup (by decide +kernel)]
 rfl
theorem kG (a:Int) (t:Tok) (l:Addr) (items:Array hH) (n:Nat) (d:Option Addr) (sl:Array (Option hH)) :
 Meets (IS.«int.__rmul__» ⟨[.int a t,.ref l],[]⟩) (fun _ R s=>s.heap.get? l=some { cls:=.type "tuple",dict:=d,data:=.seq items n,slots:=sl }/\R (.ok (.ret Pc)) s) :=
 .of_wp fun prog w A R s h=>by obtain ⟨j,g,d,tk,os⟩:=s;obtain ⟨q,h⟩:=h;wp_walk;exact ⟨_,rfl,h⟩
open AutoSeq1 (wpAny_loadPart') in
theorem ud (l:Addr) (items:Array hH) (n:Nat) (dd:Option Addr) (sl:Array (Option hH)) (x:Int) (u:Tok) (h1 : -(2 ^ 63)<=x) (h2:x < 2 ^ 63) (hz:items.size*x.toNat<=Hd) :
 Meets (IS.«tuple.__mul__» ⟨[.ref l,.int x u],[]⟩) (fun _ R s=>s.heap.get? l=some { cls:=.type "tuple",dict:=dd,data:=.seq items n,slots:=sl } /\
  (if items.isEmpty || x==1 then R (.ok (.ret (.ref l))) s else R (.ok (.ret (.ref s.heap.objs.size))) { s with heap:=s.heap.push { cls:=.type "tuple",data:=.seq ((Ha x.toNat items).foldl (· ++ ·) #[]) } })) :=
 .of_wp fun prog w A R s h=>by
  obtain ⟨O,g,d,tk,os⟩:=s;obtain ⟨q,h⟩:=h;have f1:=AutoSeq1.idx_int;have B:(decide (x < -(2 ^ 63)) || decide (x≥2 ^ 63))=false:=by
   rw [decide_eq_false (by lia),decide_eq_false (by lia)];rfl
  wp_walk using JV q
  refine JC (decide_eq_false (by rw [B];decide)) ?_
  dsimp only
  by_cases j:(items.isEmpty || x==1)=true
  ·rw [if_pos j] at h
   wp_walk using JV q
   exact ⟨_,rfl,h⟩
  ·rw [if_neg j] at h
   wp_walk using JV q
   simp only [P0,not_or] at j
   by_cases e2:x<=0
   ·have z:(decide (x<=0) || items.isEmpty)=true:=by rw [decide_eq_true e2];rfl
    rw [if_pos z];have F:x.toNat=0:=by lia
    rw [F] at h
    wp_walk
    exact ⟨_,rfl,h⟩
   ·have z : ¬ (decide (x<=0) || items.isEmpty)=true:=by simp;exact ⟨by lia,by simpa using j.1⟩
    rw [if_neg z];have hx:((items.size:Nat):Int)*x=((items.size*x.toNat:Nat):Int):=by
     rw [Int.natCast_mul,Lw (by lia)]
    have hs:Hd=16777216:=D2;have G : ¬ ((items.size:Nat):Int)*x > (2 ^ 63 - 1) / 8:=by rw [hx];lia
    rw [if_neg G];have J : ¬ NO (((items.size:Nat):Int)*x)=true:=by
     rw [hx];unfold NO;intro L;have U:=of_decide_eq_true L;lia
    rw [if_neg J]
    wp_walk
    have hsz:((Ha x.toNat items).foldl (· ++ ·) #[]).size<=Hd:=by
     have:∀ (k:Nat) (a:Array hH),((Ha k items).foldl (· ++ ·) a).size=a.size+items.size*k:=by
      intro k;induction k with
      | zero=>intro a;simp
      | succ k ih=>intro a;rw [J4,LJ,ih,Lf,Nat.mul_succ];lia
     rw [this];simpa using hz
    refine JC (decide_eq_false (Sb.mpr hsz)) ?_
    wp_walk
    exact ⟨_,rfl,h⟩
end
section
section
variable {X:Cx}
noncomputable def zq (K:Frag):R2:=fun x y H Q=>∃ l k xs,x = .ref l/\y = .int k/\SqT K H l xs /\ -(2 ^ 63)<=k/\k < 2 ^ 63/\xs.length*k.toNat<=Hd /\
 ((xs=[]∨k=1)->Q (.ref l) H)/\(¬ (xs=[]∨k=1) -> ∀ p,H p=none->Q (.ref p) (upd H p (.tup (Ha k.toNat xs).flatten)))
theorem Ab:OpR X (Jm .Mult) (zq X.K):=by
 intro pins s σ H x y v u Q I rx ry h;obtain ⟨l,k,xs,rfl,rfl,B,h1,h2,hz,G,J⟩:=h
 cases rx
 obtain ⟨t,rfl⟩:=ry;obtain ⟨its,r,L,_⟩:=I.tuple B;have O:=r.length;obtain ⟨⟨cls,dd,dat,sl⟩,e,j,n,hd⟩:=L;dsimp only at j hd;subst j hd;have hlen:its.toArray.size*k.toNat<=Hd:=by rw [Hn,<- O];exact hz
 have f0:∀ m:Nat,MA (fun Y Z=>Y++Z) #[] (Ha m its.toArray)=(Ha m its).flatten.toArray:=fun m=>by
  have:=fW its m [];rw [Na] at this;exact this
 refine NT (T:="tuple") (U:="int") (by decide) ⟨_,e,rfl⟩ (fun s'=>OJ s' k t) iS RP Nb nL F.slot_int_index.lookup
  (OL Nb (OJ s k t) R9 (QH _ _) (kG k t l its.toArray n dd sl)
    ⟨e,rfl,⟨_,e,rfl⟩,OL F.slot_tuple_mul ⟨_,e,rfl⟩ F.entry_tuple_mul (F.args_tuple_mul_2 _ _) (ud l its.toArray n dd sl k t h1 h2 hlen) ⟨e,?_⟩⟩)
 have hi:(its.toArray.isEmpty || k==1)=true↔(xs=[]∨k=1):=by
  rw [<- r.nil_iff];simp
 split
 ·next c=>exact ⟨.ref l,H,I,rfl,G (hi.mp c)⟩
 ·next c =>
  rw [f0];refine ⟨.ref s.heap.objs.size,_,I.laid (t':=s.toks) (o:=.tup (Ha k.toNat xs).flatten) (fun b ob q=>h6 _ q) (Hg _) ?_,rfl,J (fun z=>c (hi.mpr z)) _ (I.hok.fresh (Hg _))⟩;exact ⟨by rw [qB,Nat.mul_comm];exact hz,_,r.rep k.toNat,Mw _ _⟩
end
end
section
section
variable {X:Cx}
theorem Ac:OpR X (Jm .Add) (fun x y H Q=>∃ a b ys,x = .ref a/\y = .ref b/\SqT X.K H a []/\SqT X.K H b ys/\Q (.ref b) H):=by
 intro pins s σ H x y v u Q I rx ry h;obtain ⟨a,b,ys,rfl,rfl,U,Y,q⟩:=h
 cases rx
 cases ry
 obtain ⟨its,Z,p1,_⟩:=I.tuple U;obtain ⟨j,r2,p2,_⟩:=I.tuple Y;have e0:its=[]:=Z.nil_iff.mpr rfl;obtain ⟨⟨cls,dd,data,sl⟩,ho,L,n,hd⟩:=id p1;obtain ⟨⟨O,G,data2,J⟩,z,B,n2,hd2⟩:=id p2;simp only at L hd B hd2;subst L hd B hd2;exact QF ⟨_,ho,rfl⟩ ⟨_,z,rfl⟩ Oj Q6 Mf LX (LA _ _)
  (tuple_addW0 a b its.toArray j.toArray n n2 dd G sl J (by simp [e0])) ⟨ho,z,⟨.ref b,H,I,rfl,q⟩⟩
end
end
end L2
namespace L2
namespace Mi
open PySem PySem.Spec PyProof.Rows
section
def MulOk (i j:Int):Prop:=(-(2 ^ 64) < i/\i < 2 ^ 64)∨(-(2 ^ 64) < j/\j < 2 ^ 64)∨(PV i<=2 ^ 20/\PV j<=2 ^ 20)
theorem MulOk.ok {i j:Int} (h:MulOk i j):IntMulOk i j:=by
 rcases h with h | h | h
 ·exact IntMulOk.of_left (intBits_le_64 h.1 h.2)
 ·exact IntMulOk.of_right (intBits_le_64 h.1 h.2)
 ·exact IntMulOk.of_bits h.1 h.2
noncomputable def iT:R2d
 | .int i,.int j,M,Q=>Q (.int (i+j)) M
 | .tup a,.tup b,M,Q=>(a≠[]∨True)/\a.length+b.length<=Hd/\Q (.tup (a++b)) M
 | .ref a,.ref b,M,Q=>∃ xs ys,M a=some (.lst xs)/\M b=some (.lst ys)/\xs.length+ys.length<=Hd /\ ∀ p,M p=none->Q (.ref p) (af M p (.lst (xs++ys)))
 | .str x,.str y,M,Q=>x.length+y.length<=Hd/\Q (.str (x++y)) M
 | _,_,_,_=>False
noncomputable def rX:R2d
 | .int i,.int j,M,Q=>Q (.int (i - j)) M
 | _,_,_,_=>False
noncomputable def kH:R2d
 | .int i,.int j,M,Q=>MulOk i j/\Q (.int (i*j)) M
 | .ref a,.int k,M,Q=>∃ xs,M a=some (.lst xs) /\ -(2 ^ 63)<=k/\k < 2 ^ 63/\xs.length*k.toNat<=Hd /\ ∀ p,M p=none->Q (.ref p) (af M p (.lst (Ha k.toNat xs).flatten))
 | .tup ds,.int k,M,Q=>-(2 ^ 63)<=k/\k < 2 ^ 63/\ds.length*k.toNat<=Hd/\Q (.tup (Ha k.toNat ds).flatten) M
 | _,_,_,_=>False
noncomputable def mW:R2d
 | .int i,.int j,M,Q=>0 < j/\j < 2 ^ 256/\Q (.int (i / j)) M
 | _,_,_,_=>False
noncomputable def rY:R2d
 | .int i,.int j,M,Q=>0 < j/\Q (.int (i % j)) M
 | _,_,_,_=>False
noncomputable def rZ:R2d
 | .int i,.int j,M,Q=>0<=j/\j<=1000000/\i.natAbs < 2 ^ 64/\Q (.int (i ^ j.toNat)) M
 | _,_,_,_=>False
theorem xo:aB iT:=by
 intro x y M Q Q' h q
 cases x <;> cases y <;> first
  | exact q.elim
  | exact h _ _ q
  | exact ⟨q.1,h _ _ q.2⟩
  | exact ⟨q.1,q.2.1,h _ _ q.2.2⟩
  | (obtain ⟨xs,ys,j,B,z,q⟩:=q;exact ⟨xs,ys,j,B,z,fun p n=>h _ _ (q p n)⟩)
theorem xp:aB rX:=by
 intro x y M Q Q' h q
 cases x <;> cases y <;> first | exact q.elim | exact h _ _ q
theorem xr:aB kH:=by
 intro x y M Q Q' h q
 cases x <;> cases y <;> first
  | exact q.elim
  | exact ⟨q.1,h _ _ q.2⟩
  | exact ⟨q.1,q.2.1,q.2.2.1,h _ _ q.2.2.2⟩
  | (obtain ⟨xs,j,z,B,F,q⟩:=q;exact ⟨xs,j,z,B,F,fun p n=>h _ _ (q p n)⟩)
theorem ue:aB mW:=by
 intro x y M Q Q' h q
 cases x <;> cases y <;> first | exact q.elim | exact ⟨q.1,q.2.1,h _ _ q.2.2⟩
theorem xt:aB rY:=by
 intro x y M Q Q' h q
 cases x <;> cases y <;> first | exact q.elim | exact ⟨q.1,h _ _ q.2⟩
theorem xu:aB rZ:=by
 intro x y M Q Q' h q
 cases x <;> cases y <;> first | exact q.elim | exact ⟨q.1,q.2.1,q.2.2.1,h _ _ q.2.2.2⟩
section
variable {X:Cx}
theorem OpR.of {f:hH->hH->Sem hH} {r r':R2} (h:OpR X f r) (i:∀ v u H Q,r' v u H Q->r v u H Q):OpR X f r':=fun pins s σ H x y v u Q I rx ry q=>h pins s σ H x y v u Q I rx ry (i _ _ _ _ q)
theorem IxR.of {r r':R2} (h:IxR X r) (i:∀ v u H Q,r' v u H Q->r v u H Q):IxR X r':=fun a b pins s σ H x y v u Q I rx ry q=>h a b pins s σ H x y v u Q I rx ry (i _ _ _ _ q)
theorem CallR.of {f:hH} {r r':List V->Hp->VK->Prop} (h:CallR X f r) (i:∀ vs H Q,r' vs H Q->r vs H Q):CallR X f r':=fun pins s σ H xs us Q I rx q=>h pins s σ H xs us Q I rx (i _ _ _ q)
theorem DT {K:Frag} {M:Mem} {H:Hp} {Q:VK} {a b:List D} {v u:V} (rm:RM K M H) (rx:RD K H (.tup a) v) (ry:RD K H (.tup b) u) (q:iT (.tup a) (.tup b) M (KE' K M H Q)):zk K v u H Q∨∃ a b ys,v = .ref a/\u = .ref b/\SqT K H a []/\SqT K H b ys/\Q (.ref b) H:=by
 obtain ⟨a',vs,rfl,z,j⟩:=SI rx;obtain ⟨b',us,rfl,B,F⟩:=SI ry;obtain ⟨_,J,q⟩:=q;have l1:=j.length;have l2:=F.length
 by_cases G:a=[]
 ·subst G;have:vs=[]:=RDs.nil_iff.mp j;subst this;exact .inr ⟨a',b',us,rfl,rfl,z,B,q _ H Ext.refl rm ry⟩
 refine .inl ⟨a',b',vs,us,rfl,rfl,z,B,fun e=>G (Ia.mp (by rw [<- l1,e];rfl)),by lia,fun e=>?_,fun _ p n=>dD rm (j.append F) q n⟩
 have eb:b=[]:=Ia.mp (by rw [<- l2,e];rfl)
 subst eb;rw [IU] at q;exact q _ H Ext.refl rm rx
theorem xv:OpR X (Jm .Add) (l2 X.K iT):=by
 refine OpR.of (op_add.or ((op_catT.or Ac).or (op_cat.or rM))) fun v u H Q h=>?_;obtain ⟨x,y,M,rm,rx,ry,q⟩:=h
 cases x <;> cases y <;> first
  | exact q.elim
  | (cases SD.mp rx;cases SD.mp ry;exact .inl ⟨_,_,rfl,rfl,q _ H Ext.refl rm (SD.mpr rfl)⟩)
  | exact .inr (.inl (DT rm rx ry q))
  | (cases SE.mp rx;cases SE.mp ry
     obtain ⟨xs,ys,F,G,z,q⟩:=q;obtain ⟨vs,h1,j⟩:=rm _ _ F;obtain ⟨us,h2,B⟩:=rm _ _ G;have l1:=j.length;have l2:=B.length;refine .inr (.inr (.inl ⟨_,_,vs,us,rfl,rfl,h1,h2,by lia,fun p n=>cH rm (j.append B) q n⟩)))
  | (cases SK.mp rx;cases SK.mp ry;exact .inr (.inr (.inr ⟨_,_,rfl,rfl,q.1,q.2 _ H Ext.refl rm (SK.mpr rfl)⟩)))
theorem xw:OpR X (Jm .Sub) (l2 X.K rX):=by
 refine OpR.of BQ fun v u H Q h=>?_;obtain ⟨x,y,M,rm,rx,ry,q⟩:=h
 cases x <;> cases y <;> first
  | exact q.elim
  | (cases SD.mp rx;cases SD.mp ry;exact ⟨_,_,rfl,rfl,q _ H Ext.refl rm (SD.mpr rfl)⟩)
theorem op_mul_i:OpR X (Jm .Mult) (rI MulOk fun i j=>.int (i*j)):=opI fun _ _ _ _ _ _ _ z q=>mul_int q z.ok
theorem DU {K:Frag} {M:Mem} {H:Hp} {Q:VK} {a:List D} {k:Int} {v u:V} (rm:RM K M H) (rx:RD K H (.tup a) v) (ry:RD K H (.int k) u) (q:kH (.tup a) (.int k) M (KE' K M H Q)):zq K v u H Q:=by
 obtain ⟨a',vs,rfl,z,j⟩:=SI rx
 cases SD.mp ry
 obtain ⟨B,F,G,q⟩:=q;have l1:=j.length;refine ⟨a',k,vs,rfl,rfl,z,B,F,by rw [l1];exact G,fun e=>?_,fun _ p n=>dD rm (j.rep _) q n⟩
 have ea:(Ha k.toNat a).flatten=a:=by
  rcases e with e | e
  ·have:a=[]:=Ia.mp (by rw [<- l1,e];rfl)
   subst this;simp
  ·subst e;simp
 rw [ea] at q;exact q _ H Ext.refl rm rx
theorem xx:OpR X (Jm .Mult) (l2 X.K kH):=by
 refine OpR.of (op_mul_i.or (op_rep.or Ab)) fun v u H Q h=>?_;obtain ⟨x,y,M,rm,rx,ry,q⟩:=h
 cases x <;> cases y <;> first
  | exact q.elim
  | (cases SD.mp rx;cases SD.mp ry;exact .inl ⟨_,_,rfl,rfl,q.1,q.2 _ H Ext.refl rm (SD.mpr rfl)⟩)
  | (cases SE.mp rx;cases SD.mp ry
     obtain ⟨xs,z,B,F,G,q⟩:=q;obtain ⟨vs,h1,j⟩:=rm _ _ z;have l1:=j.length;exact .inr (.inl ⟨_,_,vs,rfl,rfl,h1,B,F,by rw [l1];exact G,fun p n=>cH rm (j.rep _) q n⟩))
  | exact .inr (.inr (DU rm rx ry q))
theorem xA:OpR X (Jm .FloorDiv) (rI (fun _ j=>0 < j/\j < 2 ^ 256) fun i j=>.int (i / j)):=L2.opI fun i j _ _ _ _ _ z q=>by
 have h1:(0:Int) < j:=z.1;have h2:j < 2 ^ 256:=z.2;have B:j.natAbs.log2 < 256:=(Nat.log2_lt (by lia)).mpr (by lia)
 exact floordiv_int (by lia) (by rw [Int.fdiv_eq_ediv_of_nonneg i (by lia)];exact q) (.inl (PyProof.noPylong_of_log2 (by lia)))
theorem uf:OpR X (Jm .FloorDiv) (l2 X.K mW):=by
 refine OpR.of xA fun v u H Q h=>?_;obtain ⟨x,y,M,rm,rx,ry,q⟩:=h
 cases x <;> cases y <;> first
  | exact q.elim
  | (cases SD.mp rx;cases SD.mp ry;exact ⟨_,_,rfl,rfl,⟨q.1,q.2.1⟩,q.2.2 _ H Ext.refl rm (SD.mpr rfl)⟩)
theorem xB:OpR X (Jm .Mod) (l2 X.K rY):=by
 refine OpR.of BR fun v u H Q h=>?_;obtain ⟨x,y,M,rm,rx,ry,q⟩:=h
 cases x <;> cases y <;> first
  | exact q.elim
  | (cases SD.mp rx;cases SD.mp ry;exact ⟨_,_,rfl,rfl,q.1,q.2 _ H Ext.refl rm (SD.mpr rfl)⟩)
theorem xC:OpR X (Jm .Pow) (l2 X.K rZ):=by
 refine OpR.of BS fun v u H Q h=>?_;obtain ⟨x,y,M,rm,rx,ry,q⟩:=h
 cases x <;> cases y <;> first
  | exact q.elim
  | (cases SD.mp rx;cases SD.mp ry;exact ⟨_,_,rfl,rfl,⟨q.1,q.2.1,q.2.2.1⟩,q.2.2.2 _ H Ext.refl rm (SD.mpr rfl)⟩)
noncomputable def s9:R1d
 | .int i,M,Q=>Q (.int (-i)) M
 | _,_,_=>False
theorem nM:rW s9:=by
 intro x M Q Q' h q
 cases x <;> first | exact q.elim | exact h _ _ q
theorem UnR.of {f:hH->Sem hH} {r r':V->Hp->VK->Prop} (h:UnR X f r) (i:∀ v H Q,r' v H Q->r v H Q):UnR X f r':=fun pins s σ H x v Q I rx q=>h pins s σ H x v Q I rx (i _ _ _ q)
theorem xD:UnR X (unaryOp .USub) (l1 X.K s9):=by
 refine UnR.of BU fun v H Q h=>?_;obtain ⟨x,M,rm,rx,q⟩:=h
 cases x <;> first
  | exact q.elim
  | (cases SD.mp rx;exact ⟨_,rfl,q _ H Ext.refl rm (SD.mpr rfl)⟩)
noncomputable def aF {α β:Type} (f : α -> Option β):List α -> Option (List β)
 | []=>some []
 | x::xs=>(f x).bind fun y=>(aF f xs).map (y :: ·)
noncomputable def rb:Nat->Mem->D->Option IY
 | _,_,.non=>some .none
 | _,_,.bl b=>some (.bool b)
 | _,_,.int i=>some (.int i)
 | _,_,.str x=>if PyData.strOk x=true then some (.str x) else none
 | n+1,M,.tup ds=>(aF (rb n M) ds).map OP
 | n+1,M,.con ds=>(aF (rb n M) ds).map RF
 | n+1,M,.ref a=>match M a with
   | some (.lst ds)=>(aF (rb n M) ds).map RF
   | _=>none
 | 0,_,.tup _=>none
 | 0,_,.con _=>none
 | 0,_,.ref _=>none
 | _,_,.fn _=>none
theorem dv {n:Nat} {M:Mem} (ih:∀ d p,rb n M d=some p->p.depth<=n/\p.canLay0=true):∀ {ds:List D} {ps:List IY},aF (rb n M) ds=some ps->JW ps<=n/\J8 ps=true
 | [],ps,h=>by
  simp [aF] at h;subst h;exact ⟨Jj _,rfl⟩
 | d::ds,ps,h=>by
   simp only [aF] at h
   cases e1:rb n M d with
   | none=>rw [e1] at h;cases h
   | some p =>
     rw [e1] at h
     cases e2:aF (rb n M) ds with
     | none=>simp [e2] at h
     | some qs =>
       simp [e2] at h;subst h;obtain ⟨a1,a2⟩:=ih d p e1;obtain ⟨b1,b2⟩:=dv ih e2;refine ⟨?_,?_⟩
       ·show max p.depth (JW qs)<=n;lia
       ·show (p.canLay0&&J8 qs)=true;rw [a2,b2];rfl
theorem cj {M:Mem}:∀ (n:Nat) (d:D) (p:IY),rb n M d=some p->p.depth<=n/\p.canLay0=true
 | n,.non,p,h=>by simp [rb] at h;subst h;exact ⟨Jj _,rfl⟩
 | n,.bl b,p,h=>by simp [rb] at h;subst h;exact ⟨Jj _,rfl⟩
 | n,.int b,p,h=>by simp [rb] at h;subst h;exact ⟨Jj _,rfl⟩
 | n,.str x,p,h=>by
   simp [rb] at h;obtain ⟨h1,h2⟩:=h;subst h2;exact ⟨Jj _,h1⟩
 | 0,.tup _,p,h=>by simp [rb] at h
 | 0,.con _,p,h=>by simp [rb] at h
 | 0,.ref _,p,h=>by simp [rb] at h
 | n,.fn _,p,h=>by simp [rb] at h
 | n+1,.tup ds,p,h=>by
   simp only [rb] at h
   cases e:aF (rb n M) ds with
   | none=>rw [e] at h;cases h
   | some ps =>
     rw [e] at h;cases h;obtain ⟨a,b⟩:=dv (cj n) e;exact ⟨Ot a,b⟩
 | n+1,.con ds,p,h=>by
   simp only [rb] at h
   cases e:aF (rb n M) ds with
   | none=>rw [e] at h;cases h
   | some ps =>
     rw [e] at h;cases h;obtain ⟨a,b⟩:=dv (cj n) e;exact ⟨Ot a,b⟩
 | n+1,.ref a,p,h=>by
   simp only [rb] at h
   cases e0:M a with
   | none=>rw [e0] at h;cases h
   | some o =>
     rw [e0] at h
     cases o with
     | dct _ _=>cases h
     | fdc _=>cases h
     | lst ds =>
       simp only at h
       cases e:aF (rb n M) ds with
       | none=>rw [e] at h;cases h
       | some ps =>
         rw [e] at h;cases h;obtain ⟨a,b⟩:=dv (cj n) e;exact ⟨Ot a,b⟩
theorem dw {K:Frag} {H:Hp} {n:Nat} {M:Mem} {h:Heap} (ih:∀ d p v u,rb n M d=some p->RD K H d v->RelV v u -> ∃ as,LD h u p as) :
 ∀ {ds:List D} {ps:List IY} {vs:List V} {us:List hH},aF (rb n M) ds=some ps->RDs K H ds vs->Vals vs us -> ∃ as,Po h us ps as
 | [],ps,vs,us,hm,r,rv=>by
  simp [aF] at hm;subst hm;rw [RDs.nil_iff.mp r] at rv
  cases rv
  exact ⟨_,.nil⟩
 | d::ds,ps,vs,us,hm,r,rv=>by
   obtain ⟨v,vr,rfl,j,q⟩:=SG.mp r
   cases rv with
   | cons z B =>
     simp only [aF] at hm
     cases e1:rb n M d with
     | none=>rw [e1] at hm;cases hm
     | some p =>
       rw [e1] at hm
       cases e2:aF (rb n M) ds with
       | none=>simp [e2] at hm
       | some qs =>
         simp [e2] at hm;subst hm;obtain ⟨as,ra⟩:=ih d p v _ e1 j z;obtain ⟨bs,rbs⟩:=dw ih e2 q B;exact ⟨_,.cons ra rbs⟩
theorem bu {pins:List (Addr×Obj)} {σ:St} {H:Hp} {s:tv} {M:Mem} (I:Inv X pins σ H s) (rm:RM X.K M H):∀ (n:Nat) (d:D) (p:IY) (v:V) (u:hH),rb n M d=some p->RD X.K H d v->RelV v u -> ∃ as,LD s.heap u p as
 | n,.non,p,v,u,h,r,q=>by simp [rb] at h;subst h;cases SM.mp r;cases q;exact ⟨_,.none⟩
 | n,.bl b,p,v,u,h,r,q=>by simp [rb] at h;subst h;cases SF.mp r;cases q;exact ⟨_,.bool b⟩
 | n,.int b,p,v,u,h,r,q=>by simp [rb] at h;subst h;cases SD.mp r;obtain ⟨t,rfl⟩:=q;exact ⟨_,.int b t⟩
 | n,.str x,p,v,u,h,r,q=>by
   simp [rb] at h;obtain ⟨_,h2⟩:=h;subst h2;cases SK.mp r;obtain ⟨t,rfl⟩:=q;exact ⟨_,.str x t⟩
 | 0,.tup _,p,_,_,h,_,_=>by simp [rb] at h
 | 0,.con _,p,_,_,h,_,_=>by simp [rb] at h
 | 0,.ref _,p,_,_,h,_,_=>by simp [rb] at h
 | n,.fn _,p,_,_,h,_,_=>by simp [rb] at h
 | n+1,.tup ds,p,v,u,h,r,q=>by
   simp only [rb] at h
   cases e:aF (rb n M) ds with
   | none=>rw [e] at h;cases h
   | some ps =>
     rw [e] at h;cases h;obtain ⟨a,vs,rfl,j,rs⟩:=SI r
     cases q
     obtain ⟨its,rv,⟨o,ho,z,k,hd⟩,_⟩:=I.tuple j;obtain ⟨as,ra⟩:=dw (bu I rm n) e rs rv;exact ⟨_,.tuple ho z hd (by simpa using ra)⟩
 | n+1,.con ds,p,v,u,h,r,q=>by
   simp only [rb] at h
   cases e:aF (rb n M) ds with
   | none=>rw [e] at h;cases h
   | some ps =>
     rw [e] at h;cases h;obtain ⟨a,vs,rfl,j,rs⟩:=SJ.mp r
     cases q
     obtain ⟨its,rv,⟨o,k,ho,z,_,hd⟩,_⟩:=I.list j.sq;obtain ⟨as,ra⟩:=dw (bu I rm n) e rs rv;exact ⟨_,.list ho z hd (by simpa using ra)⟩
 | n+1,.ref a,p,v,u,h,r,q=>by
   simp only [rb] at h
   cases e0:M a with
   | none=>rw [e0] at h;cases h
   | some o =>
     rw [e0] at h
     cases o with
     | dct _ _=>cases h
     | fdc _=>cases h
     | lst ds =>
       simp only at h
       cases e:aF (rb n M) ds with
       | none=>rw [e] at h;cases h
       | some ps =>
         rw [e] at h;cases h
         cases SE.mp r
         cases q
         obtain ⟨vs,j,rs⟩:=rm _ _ e0;obtain ⟨its,rv,⟨o,k,ho,z,_,hd⟩,_⟩:=I.list (SqL.of j);obtain ⟨as,ra⟩:=dw (bu I rm n) e rs rv;exact ⟨_,.list ho z hd (by simpa using ra)⟩
noncomputable def wEq:R2d:=fun x y M Q=>∃ p q,rb 16 M x=some p/\rb 16 M y=some q/\Q (.bl (Ik p q)) M
noncomputable def wNe:R2d:=fun x y M Q=>∃ p q,rb 16 M x=some p/\rb 16 M y=some q/\Q (.bl (!PyData.eqv p q)) M
theorem Ad:aB wEq:=fun _ _ _ _ _ h ⟨p,q,a,b,c⟩=>⟨p,q,a,b,h _ _ c⟩
theorem Ae:aB wNe:=fun _ _ _ _ _ h ⟨p,q,a,b,c⟩=>⟨p,q,a,b,h _ _ c⟩
theorem Af (F:X.A.units+16 < Js):OpR X (IW .Eq) (l2 X.K wEq):=by
 intro pins s σ H x y v u Q I rx ry h;obtain ⟨d,e,M,rm,rd,re,p,q,j,z,k⟩:=h;obtain ⟨as,ra⟩:=bu I rm _ _ _ _ _ j rd rx;obtain ⟨bs,rb'⟩:=bu I rm _ _ _ _ _ z re ry;obtain ⟨G,p2⟩:=cj _ _ _ j;obtain ⟨J,B⟩:=cj _ _ _ z;exact SeqAt.compareEq_reads ra rb' p2 B (by lia) ⟨.bl _,H,I,rfl,k _ H Ext.refl rm (SF.mpr rfl)⟩
theorem Ag (F:X.A.units+16 < Js):OpR X (IW .NotEq) (l2 X.K wNe):=by
 intro pins s σ H x y v u Q I rx ry h;obtain ⟨d,e,M,rm,rd,re,p,q,j,z,k⟩:=h;obtain ⟨as,ra⟩:=bu I rm _ _ _ _ _ j rd rx;obtain ⟨bs,rb'⟩:=bu I rm _ _ _ _ _ z re ry;obtain ⟨G,p2⟩:=cj _ _ _ j;obtain ⟨J,B⟩:=cj _ _ _ z;exact SeqAt.compareNe_reads ra rb' p2 B (by lia) ⟨.bl _,H,I,rfl,k _ H Ext.refl rm (SF.mpr rfl)⟩
noncomputable def wLt:R2d
 | .int i,.int j,M,Q=>Q (.bl (decide (i < j))) M
 | _,_,_,_=>False
noncomputable def wLe:R2d
 | .int i,.int j,M,Q=>Q (.bl (decide (i<=j))) M
 | _,_,_,_=>False
noncomputable def wGt:R2d
 | .int i,.int j,M,Q=>Q (.bl (decide (j < i))) M
 | _,_,_,_=>False
noncomputable def wGe:R2d
 | .int i,.int j,M,Q=>Q (.bl (decide (j<=i))) M
 | _,_,_,_=>False
theorem Ah:aB wLt:=by
 intro x y M Q Q' h q
 cases x <;> cases y <;> first | exact q.elim | exact h _ _ q
theorem Ai:aB wGt:=by
 intro x y M Q Q' h q
 cases x <;> cases y <;> first | exact q.elim | exact h _ _ q
theorem Aj:aB wGe:=by
 intro x y M Q Q' h q
 cases x <;> cases y <;> first | exact q.elim | exact h _ _ q
theorem Ak:OpR X (IW .Lt) (l2 X.K wLt):=by
 refine OpR.of DE fun v u H Q h=>?_;obtain ⟨x,y,M,rm,rx,ry,q⟩:=h
 cases x <;> cases y <;> first
  | exact q.elim
  | (cases SD.mp rx;cases SD.mp ry;exact ⟨_,_,rfl,rfl,q _ H Ext.refl rm (SF.mpr rfl)⟩)
theorem Al:OpR X (IW .Gt) (l2 X.K wGt):=by
 refine OpR.of DG fun v u H Q h=>?_;obtain ⟨x,y,M,rm,rx,ry,q⟩:=h
 cases x <;> cases y <;> first
  | exact q.elim
  | (cases SD.mp rx;cases SD.mp ry;exact ⟨_,_,rfl,rfl,q _ H Ext.refl rm (SF.mpr rfl)⟩)
theorem Am:OpR X (IW .GtE) (l2 X.K wGe):=by
 refine OpR.of DH fun v u H Q h=>?_;obtain ⟨x,y,M,rm,rx,ry,q⟩:=h
 cases x <;> cases y <;> first
  | exact q.elim
  | (cases SD.mp rx;cases SD.mp ry;exact ⟨_,_,rfl,rfl,q _ H Ext.refl rm (SF.mpr rfl)⟩)
end
end
section
noncomputable def wIx:R2d:=fun x y M Q=>match x with
 | .tup ds=>∃ i d,y = .int i/\atI ds i=some d/\Q d M
 | .con ds=>∃ i d,y = .int i/\atI ds i=some d/\Q d M
 | .ref a=>(∃ ds i d,M a=some (.lst ds)/\y = .int i/\atI ds i=some d/\Q d M)∨(∃ t kvs d,M a=some (.dct t kvs)/\eF t y=true/\dget kvs y=some d/\Q d M)∨∃ kvs d,M a=some (.fdc kvs)/\bJ y=true/\dget kvs y=some d/\Q d M
 | _=>False
theorem qD:aB wIx:=by
 intro x y M Q Q' h q
 cases x with
 | tup ds=>obtain ⟨i,d,e,j,q⟩:=q;exact ⟨i,d,e,j,h _ _ q⟩
 | con ds=>obtain ⟨i,d,e,j,q⟩:=q;exact ⟨i,d,e,j,h _ _ q⟩
 | ref a =>
   rcases q with ⟨ds,i,d,z,j,B,q⟩ | ⟨t,kvs,d,z,j,B,q⟩ | ⟨kvs,d,z,j,B,q⟩
   ·exact .inl ⟨ds,i,d,z,j,B,h _ _ q⟩
   ·exact .inr (.inl ⟨t,kvs,d,z,j,B,h _ _ q⟩)
   ·exact .inr (.inr ⟨kvs,d,z,j,B,h _ _ q⟩)
 | _=>exact q.elim
theorem jA {K:Frag} {H:Hp} {ds:List D} {vs:List V} {i:Int} {d:D} (r:RDs K H ds vs) (e:atI ds i=some d):∃ v,atI vs i=some v/\RD K H d v:=by
 unfold atI at e ⊢;rw [r.length]
 cases q:ixN ds.length i with
 | none=>rw [q] at e;cases e
 | some j =>
   rw [q] at e;exact r.get e
theorem kI {K:Frag} {H:Hp} {k:D} {q:Key} {v:V} (r:RKey k q) (h:RD K H k v):v=kV q:=by
 cases k <;> first
  | exact r.elim
  | (cases (show q=_ from r);first | exact SD.mp h | exact SK.mp h)
theorem dS {K:Frag} {H:Hp}:∀ {ds:List D} {ks:List Key} {vs:List V},I8 RKey ds ks->RDs K H ds vs->vs=ks.map kV
 | _,_,vs,.nil,h=>by rw [RDs.nil_iff.mp h];rfl
 | _,_,vs,.cons r t,h=>by
   obtain ⟨v,vr,rfl,h1,h2⟩:=SG.mp h;rw [kI r h1,dS t h2];rfl
theorem RKey.inj {d e:D} {k:Key} (a:RKey d k) (b:RKey e k):d=e:=by
 cases d <;> first
  | exact a.elim
  | (cases e <;> first | exact b.elim | (cases (show k=_ from a);injection (show _=_ from b) with z;rw [z]) | (cases (show k=_ from a);cases (show _=_ from b)))
theorem RKeysP.inj:∀ {d e:List D} {k:List Key},I8 RKey d k->I8 RKey e k->d=e
 | _,_,_,.nil,.nil=>rfl
 | _,_,_,.cons r t,.cons r' t'=>by rw [r.inj r',RKeysP.inj t t']
theorem RKeys.inj {d e:D} {k:List Key} (a:RKeys d k) (b:RKeys e k):d=e:=by
 cases d <;> first
  | exact a.elim
  | (cases e <;> first | exact b.elim | exact congrArg D.tup (RKeysP.inj a b))
theorem RKey.fun {d:D} {k k':Key} (a:RKey d k) (b:RKey d k'):k=k':=by
 cases d <;> first
  | exact a.elim
  | (cases (show k=_ from a);cases (show k'=_ from b);rfl)
theorem RKeysP.fun:∀ {d:List D} {k k':List Key},I8 RKey d k->I8 RKey d k'->k=k'
 | _,_,_,.nil,.nil=>rfl
 | _,_,_,.cons r t,.cons r' t'=>by rw [r.fun r',RKeysP.fun t t']
theorem RKeys.fun {d:D} {k k':List Key} (a:RKeys d k) (b:RKeys d k'):k=k':=by
 cases d <;> first
  | exact a.elim
  | exact RKeysP.fun a b
section
variable {κ:Type} [DecidableEq κ] {K:Frag} {H:Hp} {RK:D -> κ -> Prop} (inj:∀ {d e:D} {k : κ},RK d k->RK e k->d=e) (fn:∀ {d:D} {k k' : κ},RK d k->RK d k'->k=k')
include inj fn
theorem dU {k:D} {q : κ} (j:RK k q):∀ {kvs:List (D×D)} {ps:List (κ × V)},I8 (fun p r=>RK p.1 r.1/\RD K H p.2 r.2) kvs ps ->
 (∀ d,dget kvs k=some d -> ∃ v,be ps q=some v/\RD K H d v)/\(dget kvs k=none->be ps q=none)
 | _,_,.nil=>⟨fun d e=>by simp [dget] at e,fun _=>rfl⟩
 | _,_,.cons (a:=p) (b:=r) (l₂:=ps) B t=>by
   obtain ⟨F,G⟩:=dU j t
   by_cases e:p.1=k
   ·have e':r.1=q:=by
     have h1:=B.1;rw [e] at h1;exact fn h1 j
    refine ⟨fun d he=>?_,fun he=>?_⟩
    ·simp [dget,Je,e] at he;subst he;exact ⟨r.2,fy e',B.2⟩
    ·simp [dget,Je,e] at he
   ·have e' : ¬ r.1=q:=fun z=>e (by
     have h1:=B.1;rw [z] at h1;exact inj h1 j)
    have eq1:∀ l:List (D×D),dget (p::l) k=dget l k:=fun l=>by simp [dget,Je,e]
    have eq2:be (r::ps) q=be ps q:=fA e';refine ⟨fun d he=>?_,fun he=>?_⟩
    ·rw [eq1] at he;rw [eq2];exact F d he
    ·rw [eq1] at he;rw [eq2];exact G he
end
section
variable {X:Cx}
theorem nN {K:Frag} {H:Hp} {a:Addr} {ps:List (List Key×V)} {kvs:List (D×D)} {k:D} {v:V} (B:Rd H a (.dT ps)) (pr:I8 (fun (p:D×D) (q:List Key×V)=>RKeys p.1 q.1/\RD K H p.2 q.2) kvs ps) (ok:bJ k=true) (rk:RD K H k v) :
 ∃ o,DGet H a v o/\(∀ d,dget kvs k=some d -> ∃ w,o=some w/\RD K H d w)/\(dget kvs k=none->o=none):=by
 obtain ⟨q,j⟩:=gO ok;obtain ⟨g1,g2⟩:=dU (RK:=RKeys) RKeys.inj RKeys.fun j pr;refine ⟨be ps q,?_,g1,g2⟩
 cases k <;> first
  | exact j.elim
  | (obtain ⟨b,us,rfl,z,ru⟩:=SR (gP ok) rk
     rw [dS j ru] at z;exact .inr ⟨ps,q,b,B,rfl,z,rfl⟩)
theorem kJ {K:Frag} {M:Mem} {H:Hp} {a:Addr} {t:Bool} {kvs:List (D×D)} {k:D} {v:V} (rm:RM K M H) (e:M a=some (.dct t kvs)) (ok:eF t k=true) (rk:RD K H k v) :
 ∃ o,DGet H a v o/\(∀ d,dget kvs k=some d -> ∃ w,o=some w/\RD K H d w)/\(dget kvs k=none->o=none):=by
 have ro:=rm a _ e
 cases t with
 | false =>
   obtain ⟨ps,j,pr⟩:=ro;obtain ⟨q,z⟩:=nH (show fB k=true from ok);obtain ⟨g1,g2⟩:=dU (RK:=RKey) RKey.inj RKey.fun z pr;refine ⟨be ps q,?_,g1,g2⟩;rw [kI z rk];exact DGet.k j
 | true =>
   obtain ⟨ps,j,pr⟩:=ro;exact nN (.inl j) pr ok rk
theorem An (j:X.A.units+1 < Js):IxR X (fun x y H Q=>∃ a v,x = .ref a/\DGet H a y (some v)/\Q v H):=by
 intro value slice pins s σ H x y v u Q I rx ry h hs;obtain ⟨a,w,rfl,g,q⟩:=h
 cases rx
 have hd:IsD H a:=by
  rcases g with ⟨kvs,k,e,_⟩ | ⟨kvs,k,b,e,_⟩
  ·exact .inl ⟨kvs,e⟩
  ·exact .inr ⟨kvs,e⟩
 obtain ⟨z,_⟩:=cW I hd;exact tail_any z PySem.F.slot_dict_getitem.lookup (u5 j I g ry fun w' s' I' r'=>⟨w,H,I',r',q⟩) hs
theorem EG (G:X.A.units+1 < Js):IxR X (l2 X.K wIx):=by
 refine IxR.of (ix_list.or (ix_tup.or (An G))) fun v u H Q h=>?_;obtain ⟨x,y,M,rm,rx,ry,q⟩:=h
 cases x with
 | tup ds =>
   obtain ⟨i,d,rfl,e,q⟩:=q;obtain ⟨a,vs,rfl,j,rs⟩:=SI rx
   cases SD.mp ry
   obtain ⟨w,hw,rw'⟩:=jA rs e;exact .inr (.inl ⟨a,vs,i,w,rfl,rfl,j,hw,q w H Ext.refl rm rw'⟩)
 | con ds =>
   obtain ⟨i,d,rfl,e,q⟩:=q;obtain ⟨a,vs,rfl,j,rs⟩:=SJ.mp rx
   cases SD.mp ry
   obtain ⟨w,hw,rw'⟩:=jA rs e;exact .inl ⟨a,vs,i,w,rfl,rfl,j.sq,hw,q w H Ext.refl rm rw'⟩
 | ref a =>
   cases SE.mp rx
   rcases q with ⟨ds,i,d,z,rfl,B,q⟩ | ⟨t,kvs,d,z,F,B,q⟩ | ⟨kvs,d,z,F,B,q⟩
   ·cases SD.mp ry
    obtain ⟨vs,j,rs⟩:=rm _ _ z;obtain ⟨w,hw,rw'⟩:=jA rs B;exact .inl ⟨a,vs,i,w,rfl,rfl,SqL.of j,hw,q w H Ext.refl rm rw'⟩
   ·obtain ⟨o,g,g1,_⟩:=kJ rm z F ry;obtain ⟨w,rfl,rw'⟩:=g1 d B;exact .inr (.inr ⟨a,w,rfl,g,q w H Ext.refl rm rw'⟩)
   ·obtain ⟨ob,ps,J,pr⟩:=rm _ _ z;obtain ⟨o,g,g1,_⟩:=nN (.inr ⟨ob,J⟩) pr F ry;obtain ⟨w,rfl,rw'⟩:=g1 d B;exact .inr (.inr ⟨a,w,rfl,g,q w H Ext.refl rm rw'⟩)
 | _=>exact q.elim
noncomputable def iU (M:Mem):D->Option Nat
 | .tup ds=>some ds.length
 | .con ds=>some ds.length
 | .ref a=>match M a with
  | some (.lst ds)=>some ds.length
  | _=>none
 | _=>none
noncomputable def fY:RAd:=fun xs M Q=>∃ x n,xs=[x]/\iU M x=some n/\Q (.int n) M
theorem nO:aQ fY:=fun _ _ _ _ h ⟨x,n,e,l,q⟩=>⟨x,n,e,l,h _ _ q⟩
theorem RDs.one {K:Frag} {H:Hp} {d:D} {vs:List V} (h:RDs K H [d] vs):∃ v,vs=[v]/\RD K H d v:=by
 obtain ⟨v,r,rfl,h1,h2⟩:=SG.mp h;rw [RDs.nil_iff.mp h2];exact ⟨v,rfl,h1⟩
theorem RDs.two {K:Frag} {H:Hp} {d e:D} {vs:List V} (h:RDs K H [d,e] vs):∃ v u,vs=[v,u]/\RD K H d v/\RD K H e u:=by
 obtain ⟨v,r,rfl,h1,h2⟩:=SG.mp h;obtain ⟨u,rfl,j⟩:=RDs.one h2;exact ⟨v,u,rfl,h1,j⟩
theorem sd:CallR X (.builtin "len") (lR X.K fY):=by
 refine CallR.of wL fun vs H Q h=>?_;obtain ⟨ds,M,rm,rs,x,n,rfl,l,q⟩:=h;obtain ⟨v,rfl,r⟩:=rs.one;refine ⟨v,n,rfl,?_,q _ H Ext.refl rm (SD.mpr rfl)⟩
 cases x with
 | tup ds =>
   cases l
   obtain ⟨a,us,rfl,j,ru⟩:=SI r;exact .inr ⟨us,j,ru.length.symm⟩
 | con ds =>
   cases l
   obtain ⟨a,us,rfl,j,ru⟩:=SJ.mp r;exact .inl ⟨us,j.sq,ru.length.symm⟩
 | ref a =>
   cases SE.mp r
   simp only [iU] at l
   cases e:M a with
   | none=>rw [e] at l;cases l
   | some o =>
     rw [e] at l
     cases o with
     | dct _ _=>cases l
     | fdc _=>cases l
     | lst ds =>
       cases l
       obtain ⟨us,j,ru⟩:=rm _ _ e;exact .inl ⟨us,SqL.of j,ru.length.symm⟩
 | _=>cases l
noncomputable def nP:RAd:=fun xs M Q=>∃ i,xs=[.int i]/\Q (.int (if i < 0 then -i else i)) M
noncomputable def mX:RAd:=fun xs M Q=>∃ i j,xs=[.int i,.int j]/\Q (.int (if j < i then j else i)) M
noncomputable def nQ:RAd:=fun xs M Q=>(∃ i,xs=[.int i]/\Q (.int i) M)∨∃ k,xs=[.bl k]/\Q (.int (if k then 1 else 0)) M
theorem nR:aQ nP:=fun _ _ _ _ h ⟨i,e,q⟩=>⟨i,e,h _ _ q⟩
theorem lJ:aQ mX:=fun _ _ _ _ h ⟨i,j,e,q⟩=>⟨i,j,e,h _ _ q⟩
theorem nS:aQ nQ:=fun _ _ _ _ h q=>q.elim (fun ⟨i,e,q⟩=>.inl ⟨i,e,h _ _ q⟩) fun ⟨i,e,q⟩=>.inr ⟨i,e,h _ _ q⟩
theorem se:CallR X (.builtin "abs") (lR X.K nP):=by
 refine CallR.of wK fun vs H Q h=>?_;obtain ⟨ds,M,rm,rs,i,rfl,q⟩:=h;obtain ⟨v,rfl,r⟩:=rs.one
 cases SD.mp r
 exact ⟨i,rfl,q _ H Ext.refl rm (SD.mpr rfl)⟩
theorem qf (z:X.calm=true):CallR X (.builtin "min") (lR X.K mX):=by
 refine CallR.of (tS z) fun vs H Q h=>?_;obtain ⟨ds,M,rm,rs,i,j,rfl,q⟩:=h;obtain ⟨v,u,rfl,B,F⟩:=rs.two
 cases SD.mp B
 cases SD.mp F
 exact ⟨i,j,rfl,q _ H Ext.refl rm (SD.mpr rfl)⟩
theorem sg:CallR X (.type "int") (lR X.K nQ):=by
 refine CallR.of tT fun vs H Q h=>?_;obtain ⟨ds,M,rm,rs,⟨i,rfl,q⟩ | ⟨i,rfl,q⟩⟩:=h
 ·obtain ⟨v,rfl,r⟩:=rs.one
  cases SD.mp r
  exact .inl ⟨i,rfl,q _ H Ext.refl rm (SD.mpr rfl)⟩
 ·obtain ⟨v,rfl,r⟩:=rs.one
  cases SF.mp r
  exact .inr ⟨i,rfl,q _ H Ext.refl rm (SD.mpr rfl)⟩
noncomputable def au (M:Mem):D->Option (List D)
 | .tup ds=>some ds
 | .con ds=>some ds
 | .ref a=>match M a with
  | some (.lst ds)=>some ds
  | _=>none
 | _=>none
theorem Cg {K:Frag} {M:Mem} {H:Hp} {x:D} {ds:List D} {v:V} (rm:RM K M H) (r:RD K H x v) (e:au M x=some ds):∃ p vs,v = .ref p/\(SqL K H p vs∨SqT K H p vs)/\RDs K H ds vs:=by
 cases x with
 | tup es =>
   cases e
   obtain ⟨a,us,rfl,j,ru⟩:=SI r;exact ⟨a,us,rfl,.inr j,ru⟩
 | con es =>
   cases e
   obtain ⟨a,us,rfl,j,ru⟩:=SJ.mp r;exact ⟨a,us,rfl,.inl j.sq,ru⟩
 | ref a =>
   cases SE.mp r
   simp only [au] at e
   cases e0:M a with
   | none=>rw [e0] at e;cases e
   | some o =>
     rw [e0] at e
     cases o with
     | dct _ _=>cases e
     | fdc _=>cases e
     | lst es =>
       cases e
       obtain ⟨us,j,ru⟩:=rm _ _ e0;exact ⟨a,us,rfl,.inl (SqL.of j),ru⟩
 | _=>cases e
noncomputable def nT:RAd:=fun xs M Q=>∃ x ds,xs=[x]/\au M x=some ds/\Q (.tup ds) M
theorem jB:aQ nT:=fun _ _ _ _ h ⟨x,ds,e,l,q⟩=>⟨x,ds,e,l,h _ _ q⟩
theorem nU:CallR X (.type "tuple") (lR X.K nT):=by
 refine CallR.of mQ fun vs H Q h=>?_;obtain ⟨ds,M,rm,rs,x,es,rfl,l,q⟩:=h;obtain ⟨v,rfl,r⟩:=rs.one
 cases x with
 | tup ds' =>
   cases l
   obtain ⟨a,us,rfl,j,ru⟩:=SI r;exact ⟨a,us,rfl,.inr ⟨j,q _ H Ext.refl rm r⟩⟩
 | con ds' =>
   cases l
   obtain ⟨a,us,rfl,j,ru⟩:=SJ.mp r;exact ⟨a,us,rfl,.inl ⟨j.sq,fun l' n=>dD rm ru q n⟩⟩
 | ref a =>
   cases SE.mp r
   simp only [au] at l
   cases e0:M a with
   | none=>rw [e0] at l;cases l
   | some o =>
     rw [e0] at l
     cases o with
     | dct _ _=>cases l
     | fdc _=>cases l
     | lst es' =>
       cases l
       obtain ⟨us,j,ru⟩:=rm _ _ e0;exact ⟨a,us,rfl,.inl ⟨SqL.of j,fun l' n=>dD rm ru q n⟩⟩
 | _=>cases l
end
end
section
section
variable {X:Cx}
noncomputable def si:RAd:=fun xs M Q=>∃ (x:D) (ns:List Int),xs=[x]/\au M x=some (ns.map D.int)/\Q (.int ns.sum) M
theorem nV:aQ si:=fun _ _ _ _ h ⟨x,ds,e,l,q⟩=>⟨x,ds,e,l,h _ _ q⟩
theorem RDs.ints_eq {K:Frag} {H:Hp}:∀ {ns:List Int} {vs:List V},RDs K H (ns.map D.int) vs->vs=ns.map V.int
 | [],_,h=>RDs.nil_iff.mp h
 | n::ns,_,h=>by
   obtain ⟨v,r,rfl,h1,h2⟩:=SG.mp h;rw [SD.mp h1,RDs.ints_eq h2];rfl
theorem nW {pins:List (Addr×Obj)} {σ:St} {H:Hp} {s:tv} {Q:VK} {p:Addr} {ns:List Int} {its:List hH} (I:Inv X pins σ H s) (O:X.calm=true) (rv:Vals (ns.map V.int) its) (q:Q (.int ns.sum) H)
 (h:∀ (R:hH->tv->Prop),(∀ I' St fp,(∀ b∈fp,b < (s.heap.push I').objs.size)->St 0 (s.heap.push I')->Walks X.prog X.w X.A.in1 s.heap.objs.size fp [s.heap.objs.size] its.toArray.size (fun i v=>its.toArray[i]? = some v) St->R (.ref s.heap.objs.size) { s with heap:=s.heap.push I' })->Hh (model X.prog X.w) X.A.in1 (O8 (.ref p)) R X.xe s) :
 Hh (model X.prog X.w) X.A (call (.builtin "sum") [.ref p]) (EP X pins σ Q) X.xe s:=by
 refine call_sum_walkG (h _ fun ob St fp z st W=>⟨_,fp,_,_,_,St,fun i=>ns.getD i 0,rfl,W,st,z,fun i v F=>?_,fun h' tk t' G=>?_⟩)
 ·have j:its[i]? = some v:=by simpa using F
  have J:=rv.length;rw [H8] at J;have hi:i < its.length:=(Hy.mp j).1;have L:(ns.map V.int)[i]? = some (.int (ns.getD i 0)):=by
   rw [HG,D0 (by lia)]
   simp [Hs,D0 (show i < ns.length by lia)]
  obtain ⟨u,B,t,rfl⟩:=rv.get L;rw [j] at B;cases B;exact ⟨t,rfl⟩
 ·have e:preSum (fun i=>ns.getD i 0) its.toArray.size=ns.sum:=by
   rw [preSum_getD,Hn,<- rv.length,H8,Ri]
  rw [e];refine ⟨.int ns.sum,H,I.kept (h':=h') (t':=tk) fun b o eb=>?_,⟨t',rfl⟩,q⟩;exact G b o (by simp;exact HJ (H0 eb)) (h6 _ eb)
theorem sj (B:X.calm=true):CallR X (.builtin "sum") (lR X.K si):=by
 intro pins s σ H xs us Q I rv h;obtain ⟨ds,M,rm,rs,x,ns,rfl,l,q⟩:=h;obtain ⟨v,rfl,r⟩:=rs.one;obtain ⟨u,rfl,ru⟩:=dq rv;obtain ⟨p,vs,rfl,sq,L⟩:=Cg rm r l
 cases ru
 have e:=RDs.ints_eq L;subst e;have fin:=q (.int ns.sum) H Ext.refl rm (SD.mpr rfl)
 rcases sq with sq | sq
 ·obtain ⟨its,rv,pl,hz⟩:=I.list sq;have F:p≠s.heap.objs.size:=by
   obtain ⟨o,n,e,_⟩:=pl;exact HJ (H0 e)
  refine nW I B rv fin fun R G=>Jz pl.isList ?_;refine G _ _ [s.heap.objs.size,p] (fun b J=>?_) ⟨⟨_,GZ _ rfl,rfl,rfl⟩,pl.isList.at fun o e=>h6 _ e⟩ (Walks.list (by rw [Qo];exact I.ok.hd B) s.heap.objs.size p F its.toArray)
  rw [IX]
  rcases He.mp J with z | z
  ·lia
  ·have z':b=p:=by simpa using z
   subst z';obtain ⟨o,n,e,_⟩:=pl;exact Mj (H0 e)
 ·obtain ⟨its,rv,pl,hz⟩:=I.tuple sq;have j:p < s.heap.objs.size:=by
   obtain ⟨o,e,_⟩:=pl;exact H0 e
  refine nW I B rv fin fun R G=>Jt (show s.heap.IsTuple p its.toArray from pl) ?_;refine G _ _ [s.heap.objs.size,p] (fun b J=>?_) ⟨⟨_,GZ _ rfl,rfl,rfl⟩,?_⟩ (Walks.tuple (by rw [Qo];exact I.ok.hd B) s.heap.objs.size p (HJ j) its.toArray)
  ·rw [IX]
   rcases He.mp J with z | z
   ·lia
   ·have z':b=p:=by simpa using z
    rw [z'];exact Mj j
  ·obtain ⟨o,e,c,n,d⟩:=pl;exact ⟨o,h6 _ e,c,n,d⟩
noncomputable def sn (M:Mem):D->Option Bool
 | .non=>some false
 | .bl b=>some b
 | .int i=>some (i != 0)
 | .tup ds=>some (!ds.isEmpty)
 | .con ds=>some (!ds.isEmpty)
 | .ref a=>match M a with
  | some (.lst ds)=>some (!ds.isEmpty)
  | _=>none
 | _=>none
noncomputable def nX (t:TEd):TTd:=fun ρ M Q=>t ρ M fun x M1=>∃ b,sn M1 x=some b/\Q b M1
theorem xE {t:TEd} (h:ad t):aE (nX t):=fun ρ M Q Q' i q=>h _ _ _ _ (fun x z ⟨k,e,j⟩=>⟨k,e,i _ _ j⟩) q
theorem Ch {K:Frag} {M:Mem} {H:Hp} {x:D} {b:Bool} {v:V} (rm:RM K M H) (r:RD K H x v) (e:sn M x=some b):wH K v H b:=by
 have emp:∀ {ds:List D} {vs:List V},RDs K H ds vs->(!ds.isEmpty) = !vs.isEmpty:=fun {ds vs} h=>by
  have l:=h.length
  cases ds <;> cases vs <;> first | rfl | (simp at l)
 cases x with
 | non=>cases e;cases SM.mp r;rfl
 | bl k=>cases e;cases SF.mp r;rfl
 | int i=>cases e;cases SD.mp r;rfl
 | tup ds =>
   cases e
   obtain ⟨a,vs,rfl,j,rs⟩:=SI r;exact .inr (.inl ⟨vs,j,emp rs⟩)
 | con ds =>
   cases e
   obtain ⟨a,vs,rfl,j,rs⟩:=SJ.mp r;exact .inl ⟨vs,j.sq,emp rs⟩
 | ref a =>
   cases SE.mp r
   simp only [sn] at e
   cases e0:M a with
   | none=>rw [e0] at e;cases e
   | some o =>
     rw [e0] at e
     cases o with
     | dct _ _=>cases e
     | fdc _=>cases e
     | lst ds =>
       cases e
       obtain ⟨vs,j,rs⟩:=rm _ _ e0;exact .inl ⟨vs,SqL.of j,emp rs⟩
 | str _=>cases e
 | fn _=>cases e
variable {a b:Expr} {ta tb:TEd} {pos:Pos}
theorem Ci (m:ad ta) (B:PE X a (lE X.K ta)) (he:∀ whole,isTrue a X.env whole=(do let v <- whole;MR a.pos;holding [v] (truthy v))):PT X a (lT X.K (nX ta)):=by
 refine PT.imp (wJ B he) fun σ H Q h=>?_;obtain ⟨ρ,M,rs,rm,q⟩:=h;exact ⟨ρ,M,rs,rm,m _ _ _ _ (fun x J ⟨k,e,F⟩ v H1 G j z=>⟨k,Ch j z e,F H1 G j⟩) q⟩
noncomputable def jC (t:TTd):TTd:=fun ρ M Q=>t ρ M fun c M1=>Q (!c) M1
theorem ug {t:TTd} (h:aE t):aE (jC t):=fun ρ M Q Q' i q=>h _ _ _ _ (fun c z j=>i _ _ j) q
theorem Cj {tA:TTd} (m:aE tA) (j:PT X a (lT X.K tA)):PT X (.UnaryOp .Not a pos) (lT X.K (jC tA)):=by
 refine PT.imp (BC j) fun σ H Q h=>?_;obtain ⟨ρ,M,rs,rm,q⟩:=h;exact ⟨ρ,M,rs,rm,m _ _ _ _ (fun c B z=>z) q⟩
noncomputable def jD (t u:TTd):TTd:=fun ρ M Q=>t ρ M fun c M1=>if c=true then u ρ M1 Q else Q false M1
noncomputable def nY (t u:TTd):TTd:=fun ρ M Q=>t ρ M fun c M1=>if c=true then Q true M1 else u ρ M1 Q
theorem uh {t u:TTd} (h:aE t) (k:aE u):aE (jD t u):=fun ρ M Q Q' i q=>h _ _ _ _ (fun c z j=>by
 cases c with
 | true=>rw [if_pos rfl] at j ⊢;exact k _ _ _ _ i j
 | false=>rw [if_neg Hi] at j ⊢;exact i _ _ j) q
theorem xF {t u:TTd} (h:aE t) (k:aE u):aE (nY t u):=fun ρ M Q Q' i q=>h _ _ _ _ (fun c z j=>by
 cases c with
 | true=>rw [if_pos rfl] at j ⊢;exact i _ _ j
 | false=>rw [if_neg Hi] at j ⊢;exact k _ _ _ _ i j) q
theorem Ao {tA:TTd} (j:PT X a (lT X.K tA)):PW X (.BoolOp .And [a] pos) (lT X.K tA):=zR j
theorem Ck {tA:TTd} (j:PT X a (lT X.K tA)):PW X (.BoolOp .Or [a] pos) (lT X.K tA):=BA j
theorem Cl {tA tB:TTd} {rest:List Expr} (mA:aE tA) (mB:aE tB) (F:PT X a (lT X.K tA)) (G:PW X (.BoolOp .And (b::rest) pos) (lT X.K tB)):PW X (.BoolOp .And (a::b::rest) pos) (lT X.K (jD tA tB)):=by
 refine PW.imp (BB F G) fun σ H Q h=>?_;obtain ⟨ρ,M,rs,rm,q⟩:=h;refine ⟨ρ,M,rs,rm,mA _ _ _ _ (fun c J z H1 B j=>?_) q⟩
 cases c with
 | true=>rw [if_pos rfl] at z ⊢;exact ⟨ρ,J,rs.mono (B.stab rm),j,mB _ _ _ _ (fun d M2 k=>k.ext B) z⟩
 | false=>rw [if_neg Hi] at z ⊢;exact z H1 B j
theorem DV {tA tB:TTd} {rest:List Expr} (mA:aE tA) (mB:aE tB) (F:PT X a (lT X.K tA)) (G:PW X (.BoolOp .Or (b::rest) pos) (lT X.K tB)):PW X (.BoolOp .Or (a::b::rest) pos) (lT X.K (nY tA tB)):=by
 refine PW.imp (Du F G) fun σ H Q h=>?_;obtain ⟨ρ,M,rs,rm,q⟩:=h;refine ⟨ρ,M,rs,rm,mA _ _ _ _ (fun c J z H1 B j=>?_) q⟩
 cases c with
 | true=>rw [if_pos rfl] at z ⊢;exact z H1 B j
 | false=>rw [if_neg Hi] at z ⊢;exact ⟨ρ,J,rs.mono (B.stab rm),j,mB _ _ _ _ (fun d M2 k=>k.ext B) z⟩
noncomputable def jE (ta tb:TEd):TEd:=fun ρ M Q=>ta ρ M fun x M1=>∃ c,x = .bl c/\if c=true then tb ρ M1 Q else Q (.bl false) M1
noncomputable def nZ (ta tb:TEd):TEd:=fun ρ M Q=>ta ρ M fun x M1=>∃ c,x = .bl c/\if c=true then Q (.bl true) M1 else tb ρ M1 Q
noncomputable def jF (ta:TEd):TEd:=fun ρ M Q=>ta ρ M fun x M1=>∃ c,x = .bl c/\Q (.bl (!c)) M1
theorem ui (h:ad ta) (k:ad tb):ad (jE ta tb):=fun ρ M Q Q' i q=>h _ _ _ _ (fun x z ⟨c,e,j⟩=>⟨c,e,by
 cases c with
 | true=>rw [if_pos rfl] at j ⊢;exact k _ _ _ _ i j
 | false=>rw [if_neg Hi] at j ⊢;exact i _ _ j⟩) q
theorem xG (h:ad ta) (k:ad tb):ad (nZ ta tb):=fun ρ M Q Q' i q=>h _ _ _ _ (fun x z ⟨c,e,j⟩=>⟨c,e,by
 cases c with
 | true=>rw [if_pos rfl] at j ⊢;exact i _ _ j
 | false=>rw [if_neg Hi] at j ⊢;exact k _ _ _ _ i j⟩) q
theorem uj (h:ad ta):ad (jF ta):=fun ρ M Q Q' i q=>h _ _ _ _ (fun x z ⟨c,e,j⟩=>⟨c,e,i _ _ j⟩) q
theorem uk {op:BoolOp} {t:TEd} (h:PE X a (lE X.K t)):PE X (.BoolOp op [a] pos) (lE X.K t):=BD h
theorem Cn {rest:List Expr} (ma:ad ta) (mb:ad tb) (G:PE X a (lE X.K ta)) (J:PE X (.BoolOp .And (b::rest) pos) (lE X.K tb)):PE X (.BoolOp .And (a::b::rest) pos) (lE X.K (jE ta tb)):=by
 refine PE.imp (BE G J) fun σ H Q h=>?_;obtain ⟨ρ,M,rs,rm,q⟩:=h;refine ⟨ρ,M,rs,rm,ma _ _ _ _ (fun x L ⟨c,e,z⟩ v H1 B j F=>?_) q⟩;subst e;refine ⟨c,SF.mp F,?_⟩
 cases c with
 | true=>rw [if_pos rfl] at z ⊢;exact ⟨ρ,L,rs.mono (B.stab rm),j,mb _ _ _ _ (fun d M2 k=>k.ext B) z⟩
 | false=>rw [if_neg Hi] at z ⊢;exact z _ H1 B j (SF.mpr rfl)
theorem DW {rest:List Expr} (ma:ad ta) (mb:ad tb) (G:PE X a (lE X.K ta)) (J:PE X (.BoolOp .Or (b::rest) pos) (lE X.K tb)):PE X (.BoolOp .Or (a::b::rest) pos) (lE X.K (nZ ta tb)):=by
 refine PE.imp (Dx G J) fun σ H Q h=>?_;obtain ⟨ρ,M,rs,rm,q⟩:=h;refine ⟨ρ,M,rs,rm,ma _ _ _ _ (fun x L ⟨c,e,z⟩ v H1 B j F=>?_) q⟩;subst e;refine ⟨c,SF.mp F,?_⟩
 cases c with
 | true=>rw [if_pos rfl] at z ⊢;exact z _ H1 B j (SF.mpr rfl)
 | false=>rw [if_neg Hi] at z ⊢;exact ⟨ρ,L,rs.mono (B.stab rm),j,mb _ _ _ _ (fun d M2 k=>k.ext B) z⟩
theorem Co (ma:ad ta) (B:PE X a (lE X.K ta)):PE X (.UnaryOp .Not a pos) (lE X.K (jF ta)):=by
 refine PE.imp (BG B) fun σ H Q h=>?_;obtain ⟨ρ,M,rs,rm,q⟩:=h;refine ⟨ρ,M,rs,rm,ma _ _ _ _ (fun x J ⟨c,e,F⟩ v H1 G j z=>?_) q⟩;subst e;exact ⟨c,SF.mp z,F _ H1 G j (SF.mpr rfl)⟩
noncomputable def wIf (t:TTd) (ta tb:TEd):TEd:=fun ρ M Q=>t ρ M fun c M1=>if c=true then ta ρ M1 Q else tb ρ M1 Q
theorem Ap {t:TTd} (h:aE t) (z:ad ta) (B:ad tb):ad (wIf t ta tb):=fun ρ M Q Q' i q=>h _ _ _ _ (fun c F j=>by
 cases c with
 | true=>rw [if_pos rfl] at j ⊢;exact z _ _ _ _ i j
 | false=>rw [if_neg Hi] at j ⊢;exact B _ _ _ _ i j) q
theorem DX {c:Expr} {t:TTd} (mt:aE t) (ma:ad ta) (mb:ad tb) (G:PT X c (lT X.K t)) (J:PE X a (lE X.K ta)) (L:PE X b (lE X.K tb)):PE X (.IfExp c a b pos) (lE X.K (wIf t ta tb)):=by
 refine PE.imp (wx G J L) fun σ H Q h=>?_;obtain ⟨ρ,M,rs,rm,q⟩:=h;refine ⟨ρ,M,rs,rm,mt _ _ _ _ (fun x F z H1 B j=>?_) q⟩
 cases x with
 | true=>rw [if_pos rfl] at z ⊢;exact ⟨ρ,F,rs.mono (B.stab rm),j,ma _ _ _ _ (fun d M2 k=>k.ext B) z⟩
 | false=>rw [if_neg Hi] at z ⊢;exact ⟨ρ,F,rs.mono (B.stab rm),j,mb _ _ _ _ (fun d M2 k=>k.ext B) z⟩
noncomputable def iV (xs:List D) (lo hi:Option Int):List D:=(xs.drop (HT.sIx xs.length 0 lo)).take (HT.sIx xs.length xs.length hi - HT.sIx xs.length 0 lo)
theorem og {K:Frag} {H:Hp} {ds:List D} {vs:List V} (r:RDs K H ds vs) (lo hi:Option Int):RDs K H (iV ds lo hi) (fV vs lo hi):=by
 unfold iV fV;rw [r.length];exact (r.drop _).take _
noncomputable abbrev TOd:=al->Mem->(Option Int->Mem->Prop)->Prop
def fC (T:TOd):Prop:=∀ ρ M Q Q',(∀ d M',Q d M'->Q' d M')->T ρ M Q->T ρ M Q'
noncomputable def eY:TOd:=fun _ M Q=>Q none M
noncomputable def jG (t:TEd):TOd:=fun ρ M Q=>t ρ M fun x M1=>∃ i,x = .int i/\Q (some i) M1
theorem qg:fC eY:=fun _ _ _ _ h q=>h _ _ q
theorem um (h:ad ta):fC (jG ta):=fun ρ M Q Q' i q=>h _ _ _ _ (fun x z ⟨c,e,j⟩=>⟨c,e,i _ _ j⟩) q
noncomputable def lO (K:Frag) (T:TOd):TO:=fun σ H Q=>∃ ρ M,RS K H σ ρ /\ RM K M H/\T ρ M (fun o M'=>∀ H',Ext M H M' H'->RM K M' H'->Q o H')
theorem Aq:PO X none (lO X.K eY):=fun pins s σ H Q I h=>by
 obtain ⟨ρ,M,rs,rm,q⟩:=h;exact A4 pins s σ H Q I (q H Ext.refl rm)
theorem Ar {e:Expr} (m:ad ta) (h:PE X e (lE X.K ta)):PO X (some e) (lO X.K (jG ta)):=fun pins s σ H Q I hq=>by
 obtain ⟨ρ,M,rs,rm,q⟩:=hq;refine A5 h pins s σ H Q I ⟨ρ,M,rs,rm,m _ _ _ _ (fun x G ⟨i,e,B⟩ v H1 F j z=>?_) q⟩;subst e;exact ⟨i,SD.mp z,B H1 F j⟩
noncomputable def dW:D->Option Int->Option Int->Mem->QD->Prop:=fun x lo hi M Q=>match x with
 | .tup ds=>Q (.tup (iV ds lo hi)) M
 | .ref a=>∃ ds,M a=some (.lst ds) /\ ∀ p,M p=none->Q (.ref p) (af M p (.lst (iV ds lo hi)))
 | .con ds=>∀ p,M p=none->Q (.ref p) (af M p (.lst (iV ds lo hi)))
 | _=>False
noncomputable def wSl (te:TEd) (tl th:TOd):TEd:=fun ρ M Q=>te ρ M fun x M1=>tl ρ M1 fun l M2=>th ρ M2 fun u M3=>dW x l u M3 Q
theorem so {x:D} {lo hi:Option Int} {M:Mem} {Q Q':QD} (h:∀ d M',Q d M'->Q' d M') (q:dW x lo hi M Q):dW x lo hi M Q':=by
 cases x with
 | tup ds=>exact h _ _ q
 | ref a=>obtain ⟨ds,e,q⟩:=q;exact ⟨ds,e,fun p n=>h _ _ (q p n)⟩
 | con ds=>exact fun p n=>h _ _ (q p n)
 | _=>exact q.elim
theorem As {tl th:TOd} (m:ad ta) (ml:fC tl) (mh:fC th):ad (wSl ta tl th):=fun ρ M Q Q' i q =>
 m _ _ _ _ (fun x F j=>ml _ _ _ _ (fun l M2 z=>mh _ _ _ _ (fun u G B=>so i B) z) j) q
theorem DY {e:Expr} {lo hi:Option Expr} {tl th:TOd} {p2:Pos} (m:ad ta) (ml:fC tl) (mh:fC th) (he:PE X e (lE X.K ta)) (hl:PO X lo (lO X.K tl)) (hu:PO X hi (lO X.K th)) :
 PE X (.Subscript e (.Slice lo hi none p2) pos) (lE X.K (wSl ta tl th)):=by
 refine PE.imp (wR (sl_tup.or (sl_list.or wW)) he hl hu) fun σ H Q h=>?_;obtain ⟨ρ,M,rs,rm,q⟩:=h;refine ⟨ρ,M,rs,rm,m _ _ _ _ (fun x M1 q1 v H1 O G U=>?_) q⟩;refine ⟨ρ,M1,rs.mono (O.stab rm),G,ml _ _ _ _ (fun l M2 q2 H2 Y L=>?_) q1⟩;refine ⟨ρ,M2,(rs.mono (O.stab rm)).mono (Y.stab G),L,mh _ _ _ _ (fun u M3 z H3 Z j=>?_) q2⟩;have B:=O.trans (Y.trans Z);have F:=(U.mono (Y.stab G)).mono (Z.stab L)
 cases x with
 | tup ds =>
   obtain ⟨a,vs,rfl,J,r⟩:=SI F
   by_cases hw:HT.sIx vs.length 0 l=0/\HT.sIx vs.length vs.length u=vs.length
   ·refine .inr (.inr ⟨a,vs,rfl,J,hw,?_⟩);have e:iV ds l u=ds:=by
     unfold iV;rw [<- r.length,hw.1,hw.2,r.length];simp
    simp only [dW] at z;rw [e] at z;exact z.ext B _ H3 Ext.refl j F
   ·simp only [dW] at z;exact .inl ⟨a,vs,rfl,J,hw,fun p n=>dD j (og r l u) (z.ext B) n⟩
 | ref a =>
   cases SE.mp F
   obtain ⟨ds,e,z⟩:=z;obtain ⟨vs,J,r⟩:=j _ _ e;exact .inr (.inl ⟨a,vs,rfl,SqL.of J,fun p n=>cH j (og r l u) (fun p' n'=>(z p' n').ext B) n⟩)
 | con ds =>
   obtain ⟨a,vs,rfl,J,r⟩:=SJ.mp F;exact .inr (.inl ⟨a,vs,rfl,J.sq,fun p n=>cH j (og r l u) (fun p' n'=>(z p' n').ext B) n⟩)
 | _=>exact z.elim
end
end
section
section
variable {X:Cx}
noncomputable def tyN (M:Mem):D->Option String
 | .non=>some "NoneType"
 | .bl _=>some "bool"
 | .int _=>some "int"
 | .str _=>some "str"
 | .tup _=>some "tuple"
 | .ref a=>match M a with
  | some (.lst _)=>some "list"
  | some (.dct _ _)=>some "dict"
  | _=>none
 | .con _=>none
 | .fn _=>none
noncomputable def xH (T t:String):Bool:=t==T || (t == "bool" && T == "int")
theorem DZ {K:Frag} {M:Mem} {H:Hp} {x:D} {t:String} {v:V} (rm:RM K M H) (r:RD K H x v) (e:tyN M x=some t):cu K H v (.type t):=by
 cases x with
 | non=>cases e;cases SM.mp r;exact .non
 | bl k=>cases e;cases SF.mp r;exact .bl k
 | int i=>cases e;cases SD.mp r;exact .int i
 | str i=>cases e;cases SK.mp r;exact .str i
 | tup ds =>
   cases e
   obtain ⟨a,vs,rfl,j,rs⟩:=SI r;exact .tup j
 | con ds=>cases e
 | fn _=>cases e
 | ref a =>
   cases SE.mp r
   simp only [tyN] at e
   cases e0:M a with
   | none=>rw [e0] at e;cases e
   | some o =>
     rw [e0] at e
     cases o with
     | lst ds =>
       cases e
       obtain ⟨vs,j,rs⟩:=rm _ _ e0;exact .lst j
     | dct t kvs =>
       cases e
       have ro:=rm _ _ e0
       cases t with
       | false=>obtain ⟨ps,j,_⟩:=ro;exact .dK j
       | true=>obtain ⟨ps,j,_⟩:=ro;exact .dT j
     | fdc kvs=>cases e
noncomputable def dE:List String:=["NoneType","bool","int","str","tuple","list","dict"]
theorem Au (K:Frag):∀ T∈["bool","int","str","tuple","list","dict"],∀ t∈dE,PySem.W.kitOne K (.type t) (.type T)=some (xH T t):=by
 intro T j t q;simp only [dE,He,I9,or_false] at j q
 rcases j with rfl | rfl | rfl | rfl | rfl | rfl <;> rcases q with rfl | rfl | rfl | rfl | rfl | rfl | rfl <;> rfl
noncomputable def jH (T:String) (ta:TEd):TEd:=fun ρ M Q=>ta ρ M fun x M1=>∃ t,tyN M1 x=some t/\Q (.bl (xH T t)) M1
theorem uo {T:String} {ta:TEd} (h:ad ta):ad (jH T ta):=fun ρ M Q Q' i q=>h _ _ _ _ (fun x z ⟨t,e,j⟩=>⟨t,e,i _ _ j⟩) q
theorem Av {M:Mem} {x:D} {t:String} (e:tyN M x=some t):t∈dE:=by
 cases x with
 | ref a =>
   simp only [tyN] at e
   cases e0:M a with
   | none=>rw [e0] at e;cases e
   | some o=>rw [e0] at e;cases o <;> cases e <;> simp [dE]
 | con _=>cases e
 | fn _=>cases e
 | _=>cases e;simp [dE]
theorem uq (T:String) (j:T∈["bool","int","str","tuple","list","dict"]):CallR X (.builtin "isinstance") (fun vs H Q=>∃ v t,vs=[v,.ty T]/\cu X.K H v (.type t)/\t∈dE/\Q (.bl (xH T t)) H):=by
 intro pins s σ H xs us Q I r h;obtain ⟨v,t,rfl,ty,z,q⟩:=h;obtain ⟨u,c,rfl,ru,rc⟩:=zh r
 cases rc
 exact tV I ru ty (Au X.K T j t z) fun tk=>⟨.bl _,H,I.tok tk,rfl,q⟩
theorem Aw {e:Expr} {ta:TEd} {T:String} {y:Str} {p p2 pos:Pos} (L:T∈["bool","int","str","tuple","list","dict"]) (m:ad ta) (he:PE X e (lE X.K ta)) (O:Gl X "isinstance") (hm:X.mg "isinstance" = none)
 (z:Gl X y) (B:X.mg y=none) (U:KQ y=some (.type T)) (Y:y ≠ "__name__") (F:(y==("__debug__":Str))=false)
 (hs:HP [e,.Name y p2] X.env=(false,eval e X.env)::HP [.Name y p2] X.env) (G:(LM pos (HP [.Name y p2] X.env)).any (·.1)=false) :
 PE X (.Call (.Name "isinstance" p) [e,.Name y p2] [] pos) (lE X.K (jH T ta)):=by
 have h2:PE X (.Name y p2) (tC (.ty T)):=zQ z B U rfl Y F;refine PE.imp (ci (uq T L) O hm (by decide +kernel) (kz he (kz h2 tW rfl) hs) (by decide) (by decide) hs G) fun σ H Q h=>?_
 obtain ⟨ρ,M,rs,rm,q⟩:=h;exact ⟨ρ,M,rs,rm,m _ _ _ _ (fun x M1 ⟨t,e,Z⟩ v H1 x1 j J=>⟨v,t,rfl,DZ j J e,Av e,Z _ H1 x1 j (SF.mpr rfl)⟩) q⟩
noncomputable def wBM (rd:D->List D->Mem->QD->Prop) (to:TEd) (t:TAd):TEd:=fun ρ M Q=>to ρ M fun x M1=>(∃ a xs,x = .ref a/\M1 a=some (.lst xs))/\t ρ M1 fun ds M2=>rd x ds M2 Q
def mY (rd:D->List D->Mem->QD->Prop):Prop:=∀ x ds M Q Q',(∀ d M',Q d M'->Q' d M')->rd x ds M Q->rd x ds M Q'
theorem Ax {rd:D->List D->Mem->QD->Prop} {to:TEd} {t:TAd} (j:mY rd) (mo:ad to) (mt:bn t):ad (wBM rd to t):=fun ρ M Q Q' i q =>
 mo _ _ _ _ (fun x F ⟨e,z⟩=>⟨e,mt _ _ _ _ (fun ds M2 B=>j _ _ _ _ _ i B) z⟩) q
theorem E1 {K:Frag} {M:Mem} {H:Hp} {x:D} {v:V} (rm:RM K M H) (r:RD K H x v) (h:∃ a xs,x = .ref a/\M a=some (.lst xs)):tyV K "list" v H:=by
 obtain ⟨a,xs,rfl,e⟩:=h
 cases SE.mp r
 obtain ⟨vs,j,_⟩:=rm _ _ e;exact .inl ⟨rfl,vs,SqL.of j⟩
theorem Ay {K:Frag} {rd:D->List D->Mem->QD->Prop} {r:V->List V->Hp->VK->Prop} {to:TEd} {t:TAd} (L:mY rd) (mo:ad to) (mt:bn t)
 (O:∀ v vs H Q,lMt K rd v vs H Q->r v vs H Q) (σ:St) (H:Hp) (Q:VK) (h:lE K (wBM rd to t) σ H Q):tBM K "list" r (lE K to) (lA K t) σ H Q:=by
 obtain ⟨ρ,M,rs,rm,q⟩:=h;refine ⟨ρ,M,rs,rm,mo _ _ _ _ (fun x U ⟨e,Y⟩ v H1 G j z=>⟨E1 j z e,?_⟩) q⟩;refine ⟨ρ,U,rs.mono (G.stab rm),j,mt _ _ _ _ (fun ds M2 Z vs H2 J B F=>?_) Y⟩;exact O v vs H2 Q ⟨x,ds,M2,B,z.mono (J.stab j),F,L _ _ _ _ _ (fun d M' k=>k.ext (G.trans J)) Z⟩
noncomputable def kK:D->List D->Mem->QD->Prop:=fun x ds M Q=>∃ a xs y,x = .ref a/\ds=[y]/\M a=some (.lst xs)/\xs.length < Hd/\Q .non (af M a (.lst (xs++[y])))
noncomputable def Cp:D->List D->Mem->QD->Prop:=fun x ds M Q=>∃ a xs,x = .ref a/\ds=[]/\M a=some (.lst xs)/\Q .non (af M a (.lst []))
theorem iE:mY kK:=fun _ _ _ _ _ h ⟨a,xs,y,j,B,F,z,q⟩=>⟨a,xs,y,j,B,F,z,h _ _ q⟩
theorem Az {K:Frag} {M:Mem} {H:Hp} {Q:VK} {d:D} {v:V} {a:Addr} {o0:O} {ds:List D} {vs:List V} (rm:RM K M H) (m:M a=some o0) (rd:RDs K H ds vs) (r:RD K H d v) (q:KE' K M H Q d (af M a (.lst ds))) (w:fz (some o0)=false:=by rfl) :
 Q v (upd H a (.lst vs)):=by
 have st:Stab H (upd H a (.lst vs)):=rm.stabPut m w;exact q v _ (Ext.put m w) (rm.put m ⟨vs,ao,rd.mono st⟩ w) (r.mono st)
theorem xI {K:Frag} (v:V) (vs:List V) (H:Hp) (Q:VK) (h:lMt K kK v vs H Q):qA v vs H Q:=by
 obtain ⟨x,ds,M,rm,rx,rs,a,xs,y,rfl,rfl,e,z,q⟩:=h
 cases SE.mp rx
 obtain ⟨w,rfl,rw'⟩:=rs.one;obtain ⟨us,j,ru⟩:=rm _ _ e;exact ⟨a,us,w,rfl,rfl,j,by rw [ru.length];exact z,Az rm e (ru.append (RDs.cons rw' RDs.nil)) (SM.mpr rfl) q⟩
noncomputable abbrev BT:=D->al->Option al
noncomputable abbrev BTs:=List D->al->Option al
noncomputable def ce (i:Nat):BT:=fun d ρ=>some (ρ.set i (some d))
noncomputable def fZ:BTs:=fun ds ρ=>match ds with | []=>some ρ | _=>none
noncomputable def bV (b:BT) (bs:BTs):BTs:=fun ds ρ=>match ds with | d::r=>(b d ρ).bind fun ρ'=>bs r ρ' | []=>none
noncomputable def oh (bs:BTs):BT:=fun d ρ=>match d with | .tup ds=>bs ds ρ | _=>none
noncomputable def lG (K:Frag) (b:BT):TG:=fun v σ H Q=>∃ d ρ ρ',RD K H d v/\RS K H σ ρ /\ b d ρ = some ρ' /\ ∀ σ',RS K H σ' ρ'->Q σ' H
noncomputable def lGs (K:Frag) (b:BTs):TGs:=fun vs σ H Q=>∃ ds ρ ρ',RDs K H ds vs/\RS K H σ ρ /\ b ds ρ = some ρ' /\ ∀ σ',RS K H σ' ρ'->Q σ' H
theorem PG.imp {e:Expr} {t t':TG} (h:PG X e t) (i:∀ v σ H Q,t' v σ H Q->t v σ H Q):PG X e t':=fun pins s σ H v u Q I r q=>h pins s σ H v u Q I r (i _ _ _ _ q)
theorem PGs.imp {e:List Expr} {t t':TGs} (h:PGs X e t) (i:∀ v σ H Q,t' v σ H Q->t v σ H Q):PGs X e t':=fun pins s σ H v u Q I r q=>h pins s σ H v u Q I r (i _ _ _ _ q)
theorem AA {i:Nat} {x:Str} {pos:Pos} (j:X.N.Nodup) (hi:X.N[i]? = some x) (hx:Loc X.env.scope x) (hf:X.fn x=true∨X.env.scope.names.lookup x=some .local):PG X (.Name x pos) (lG X.K (ce i)) :=
 PG.imp (qu j hi hx hf) fun v σ H Q ⟨d,ρ,ρ',r,rs,e,q⟩=>by
  cases e
  exact q _ (rs.set i r)
theorem AB:PGs X [] (lGs X.K fZ):=PGs.imp qv fun vs σ H Q ⟨ds,ρ,ρ',r,rs,e,q⟩=>by
 cases ds with
 | nil=>cases e;exact ⟨RDs.nil_iff.mp r,q σ rs⟩
 | cons _ _=>cases e
theorem xJ {e:Expr} {es:List Expr} {b:BT} {bs:BTs} (h1:PG X e (lG X.K b)) (h2:PGs X es (lGs X.K bs)) (hs:(JH (e::es) X.env).map (·.2)=assign e X.env::(JH es X.env).map (·.2)) :
 PGs X (e::es) (lGs X.K (bV b bs)):=PGs.imp (iL h1 h2 hs) fun vs σ H Q ⟨ds,ρ,ρ',r,rs,e,q⟩=>by
 cases ds with
 | nil=>cases e
 | cons d ds =>
   obtain ⟨v,vr,rfl,z,B⟩:=SG.mp r;simp only [bV] at e
   cases j:b d ρ with
   | none=>rw [j] at e;cases e
   | some ρ1 =>
     rw [j] at e;exact ⟨v,vr,rfl,d,ρ,ρ1,z,rs,j,fun σ' rs'=>⟨ds,ρ1,ρ',B,rs',e,q⟩⟩
theorem Cq {es:List Expr} {k:Nat} {bs:BTs} {n:Nat} {pos:Pos} (z:X.calm=true) (hlen:∀ ds ρ ρ',bs ds ρ = some ρ'->ds.length=n) (h:PGs X es (lGs X.K bs)) (B:(JH es X.env).length=n) (j:(JH es X.env).findIdx? (·.1)=none) :
 PG X (.Tuple es k pos) (lG X.K (oh bs)):=PG.imp (tN z h B j) fun v σ H Q ⟨d,ρ,ρ',r,rs,e,q⟩=>by
 cases d with
 | tup ds =>
   obtain ⟨a,vs,rfl,F,rv⟩:=SI r;exact ⟨a,vs,rfl,F,by rw [rv.length];exact hlen _ _ _ e,ds,ρ,ρ',rv,rs,e,q⟩
 | _=>cases e
noncomputable abbrev TId:=al->Mem->(List D->(Mem->Prop)->Mem->Prop)->Prop
def bW (T:TId):Prop:=∀ ρ M Q Q',(∀ xs c M',Q xs c M'->Q' xs c M')->T ρ M Q->T ρ M Q'
def Yl (H H':Hp):Prop:=H'=H∨∃ q vs,H q=none/\H'=upd H q (.tup vs)
def fD (K:Frag) (H1:Hp) (xs:List D) (chk:Mem->Prop) (J:It):Prop:=∀ M H,Stab H1 H->RM K M H->chk M -> ∀ i,(xs.length<=i->J.stop i H)/\(i < xs.length->J.go i H /\
 ∀ x H',J.yld i H x H'->Yl H H' /\ ∃ d,xs[i]? = some d/\RD K H' d x)
noncomputable def lI (K:Frag) (T:TId):TI:=fun σ H R=>∃ ρ M,RS K H σ ρ /\ RM K M H/\T ρ M (fun xs chk M1=>∀ J H1,Ext M H M1 H1->RM K M1 H1->fD K H1 xs chk J->R J H1)
theorem PI.imp {tg e:Expr} {t t':TI} (h:PI X tg e t) (i:∀ σ H Q,t' σ H Q->t σ H Q):PI X tg e t':=fun pins s σ H Q I q=>h pins s σ H Q I (i _ _ _ q)
theorem Yl.ext {K:Frag} {M:Mem} {H H':Hp} (rm:RM K M H) (y:Yl H H'):Ext M H M H'/\RM K M H':=by
 rcases y with rfl | ⟨q,vs,n,rfl⟩
 ·exact ⟨Ext.refl,rm⟩
 ·exact ⟨SN n,rm.new n⟩
noncomputable def EH (K:Frag) (tl:TE):TI:=fun σ H R=>tl σ H fun x H1=>∃ a,x = .ref a/\(((∃ xs,SqL K H1 a xs)/\R (Itl K a) H1)∨((∃ xs,SqT K H1 a xs)/\R (Itt K a) H1))
theorem Cr {tg l:Expr} {tl:TE} (F:PE X l tl):PI X tg l (EH X.K tl):=by
 intro pins s σ H R I h;refine thn (F pins s σ H _ I h) fun v s1 ⟨x,H1,j,G,J⟩=>?_;obtain ⟨a,e,q⟩:=J;subst e
 cases G
 rcases q with ⟨⟨xs,z⟩,q⟩ | ⟨⟨xs,z⟩,q⟩
 ·obtain ⟨its,rv,p,hz⟩:=j.list z;refine Jz p.isList ?_;refine ⟨s1.heap.objs.size,[s1.heap.objs.size],_,_,H1,rfl,j.kept (t':=s1.toks) fun b o e=>h6 _ e,tP a _,⟨_,GZ _ rfl,rfl,rfl⟩,fun b B=>?_,q⟩;have e:b=s1.heap.objs.size:=by simpa using B
  subst e;exact j.fpOk (Hg _) (j.hok.fresh (Hg _))
 ·obtain ⟨its,rv,p,hz⟩:=j.tuple z;refine Jt (show s1.heap.IsTuple a its.toArray from p) ?_;refine ⟨s1.heap.objs.size,[s1.heap.objs.size],_,_,H1,rfl,j.kept (t':=s1.toks) fun b o e=>h6 _ e,rH a _,⟨_,GZ _ rfl,rfl,rfl⟩,fun b B=>?_,q⟩;have e:b=s1.heap.objs.size:=by simpa using B
  subst e;exact j.fpOk (Hg _) (j.hok.fresh (Hg _))
noncomputable def oi (ta:TEd):TId:=fun ρ M R=>ta ρ M fun x M1=>∃ ds,au M1 x=some ds/\R ds (fun M=>au M x=some ds) M1
theorem xK {ta:TEd} (h:ad ta):bW (oi ta):=fun ρ M Q Q' i q=>h _ _ _ _ (fun x z ⟨ds,e,j⟩=>⟨ds,e,i _ _ _ j⟩) q
theorem ut {K:Frag} {H1:Hp} {a:Addr} {ds:List D} {chk:Mem->Prop} (h:∀ M H,Stab H1 H->RM K M H->chk M -> ∃ vs,SqL K H a vs/\RDs K H ds vs):fD K H1 ds chk (Itl K a):=fun M H st rm c i=>by
 obtain ⟨vs,sq,r⟩:=h M H st rm c;have l:=r.length;refine ⟨fun hi=>⟨vs,sq,by lia⟩,fun hi=>⟨⟨vs,vs[i]'(by lia),sq,D0 (by lia)⟩,fun x H' y=>?_⟩⟩
 obtain ⟨e,y⟩:=y;subst e;exact ⟨.inl rfl,r.getV (y vs sq)⟩
theorem Ct {K:Frag} {H1:Hp} {a:Addr} {ds:List D} {chk:Mem->Prop} (h:∀ M H,Stab H1 H->RM K M H->chk M -> ∃ vs,SqT K H a vs/\RDs K H ds vs):fD K H1 ds chk (Itt K a):=fun M H st rm c i=>by
 obtain ⟨vs,sq,r⟩:=h M H st rm c;have l:=r.length;refine ⟨fun hi=>⟨vs,sq,by lia⟩,fun hi=>⟨⟨vs,vs[i]'(by lia),sq,D0 (by lia)⟩,fun x H' y=>?_⟩⟩
 obtain ⟨e,y⟩:=y;subst e;exact ⟨.inl rfl,r.getV (y vs sq)⟩
theorem Cu {tg l:Expr} {ta:TEd} (m:ad ta) (G:PE X l (lE X.K ta)):PI X tg l (lI X.K (oi ta)):=by
 refine PI.imp (Cr G) fun σ H R h=>?_;obtain ⟨ρ,M,rs,rm,q⟩:=h;refine ⟨ρ,M,rs,rm,m _ _ _ _ (fun x L ⟨ds,e,B⟩ v H1 F j rd1=>?_) q⟩
 cases x with
 | tup es =>
   cases e
   obtain ⟨a,vs,rfl,z,rv⟩:=SI rd1;exact ⟨a,rfl,.inr ⟨⟨vs,z⟩,B _ H1 F j (Ct fun M' H' st _ _=>⟨vs,st.sqT z,rv.mono st⟩)⟩⟩
 | con es =>
   cases e
   obtain ⟨a,vs,rfl,z,rv⟩:=SJ.mp rd1;exact ⟨a,rfl,.inl ⟨⟨vs,z.sq⟩,B _ H1 F j (ut fun M' H' st _ _=>⟨vs,(st.sqF z).sq,rv.mono st⟩)⟩⟩
 | ref a =>
   cases SE.mp rd1
   have get:∀ {M':Mem} {es:List D},au M' (.ref a)=some es->M' a=some (.lst es):=fun {M' es} e=>by
    simp only [au] at e
    cases e0:M' a with
    | none=>rw [e0] at e;cases e
    | some o =>
      rw [e0] at e
      cases o with
      | dct _ _=>cases e
      | fdc _=>cases e
      | lst es'=>cases e;rfl
   obtain ⟨vs,z,rv⟩:=j _ _ (get e);exact ⟨a,rfl,.inl ⟨⟨vs,SqL.of z⟩,B _ H1 F j (ut fun M' H' st rm' c=>by
    obtain ⟨us,J,ru⟩:=rm' _ _ (get c);exact ⟨us,SqL.of J,ru⟩)⟩⟩
 | _=>cases e
noncomputable def cz (lo:Int) (n:Nat):List D:=(IV n).map fun i=>.int (lo+(i:Nat))
theorem Cv {K:Frag} {H1:Hp} {lo:Int} {n:Nat}:fD K H1 (cz lo n) (fun _=>True) (Itr lo n):=fun M H st rm c i=>by
 have l:(cz lo n).length=n:=by simp [cz]
 refine ⟨fun hi=>by show n<=i;lia,fun hi=>⟨by show i < n;lia,fun x H' y=>?_⟩⟩
 obtain ⟨e,y⟩:=y;subst e y;refine ⟨.inl rfl,.int (lo+i),?_,SD.mpr rfl⟩;simp only [cz,HG,Nq (show i < n by lia),L3]
noncomputable def jI (ta:TAd):TId:=fun ρ M R=>ta ρ M fun ds M1=>∃ j:Int,ds=[.int j] /\ -(2 ^ 62)<=j/\j < 2 ^ 62/\R (cz 0 j.toNat) (fun _=>True) M1
theorem uu {ta:TAd} (h:bn ta):bW (jI ta):=fun ρ M Q Q' i q=>h _ _ _ _ (fun x B ⟨j,e,a,b,z⟩=>⟨j,e,a,b,i _ _ _ z⟩) q
theorem AC {tg a:Expr} {ta:TAd} {p pos:Pos} (m:bn ta) (B:Gl X "range") (hm:X.mg "range" = none) (F:PA X [a] (lA X.K ta)) (hs:HP [a] X.env=[(false,eval a X.env)]):PI X tg (.Call (.Name "range" p) [a] [] pos) (lI X.K (jI ta)):=by
 refine PI.imp (tQ B hm F hs) fun σ H R h=>?_;obtain ⟨ρ,M,rs,rm,q⟩:=h;refine ⟨ρ,M,rs,rm,m _ _ _ _ (fun ds U ⟨j,e,G,J,L⟩ vs H1 O z rd1=>?_) q⟩;subst e;obtain ⟨v,rfl,r⟩:=rd1.one
 cases SD.mp r
 exact ⟨j,rfl,G,J,L _ H1 O z Cv⟩
end
end
section
section
variable {X:Cx}
noncomputable def isT:D->Bool | .tup _=>true | _=>false
theorem eZ {K:Frag} {M:Mem} {H:Hp} {x:D} {ds:List D} {v:V} (rm:RM K M H) (r:RD K H x v) (e:au M x=some ds):∃ p vs,v = .ref p/\SqV K (isT x) H p vs/\RDs K H ds vs:=by
 cases x with
 | tup es =>
   cases e
   obtain ⟨a,vs,rfl,j,rv⟩:=SI r;exact ⟨a,vs,rfl,j,rv⟩
 | con es =>
   cases e
   obtain ⟨a,vs,rfl,j,rv⟩:=SJ.mp r;exact ⟨a,vs,rfl,j.sq,rv⟩
 | ref a =>
   cases SE.mp r
   simp only [au] at e
   cases e0:M a with
   | none=>rw [e0] at e;cases e
   | some o =>
     rw [e0] at e
     cases o with
     | dct _ _=>cases e
     | fdc _=>cases e
     | lst es =>
       cases e
       obtain ⟨vs,j,rv⟩:=rm _ _ e0;exact ⟨a,vs,rfl,SqL.of j,rv⟩
 | _=>cases e
noncomputable def jJ (x y:D):D:=.tup [x,y]
noncomputable def oj (ta tb:TEd):TId:=fun ρ M R=>bq ta (bq tb cy) ρ M fun ds M1=>∃ x y xs ys,ds=[x,y]/\au M1 x=some xs/\au M1 y=some ys/\R (JN jJ xs ys) (fun M=>au M x=some xs/\au M y=some ys) M1
theorem xL {ta tb:TEd} (j:ad ta) (z:ad tb):bW (oj ta tb):=fun ρ M Q Q' i q=>aH j (aH z aI) _ _ _ _ (fun ds J ⟨x,y,xs,ys,e,B,F,G⟩=>⟨x,y,xs,ys,e,B,F,i _ _ _ G⟩) q
theorem ot {H:Hp} {p:Addr} {o:HO} (n:H p=none):Stab H (upd H p o):=⟨fun a xs e=>by rw [ah (fun z=>by rw [z,n] at e;cases e)];exact e,fun a o u e=>by rw [ah (fun z=>by rw [z,n] at e;cases e)];exact e⟩
theorem Cw {K:Frag} {H1:Hp} {x y:D} {xs ys:List D} {a b:Addr} (rx:RD K H1 x (.ref a)) (ry:RD K H1 y (.ref b)):fD K H1 (JN jJ xs ys) (fun M=>au M x=some xs/\au M y=some ys) (Itz K (isT x) (isT y) a b):=fun M H st rm c i=>by
 obtain ⟨Y,vs,L,j,G⟩:=eZ rm (rx.mono st) c.1;obtain ⟨p2,us,O,q,J⟩:=eZ rm (ry.mono st) c.2
 cases L
 cases O
 have l1:=G.length;have l2:=J.length;have lz:(JN jJ xs ys).length=min xs.length ys.length:=PX;refine ⟨fun hi=>⟨vs,us,j,q,by lia⟩,fun hi=>⟨⟨vs,us,vs[i]'(by lia),us[i]'(by lia),j,q,D0 (by lia),D0 (by lia)⟩,fun v H' U=>?_⟩⟩
 obtain ⟨p,v1,v2,n,rfl,rfl,g⟩:=U;obtain ⟨g1,g2⟩:=g vs us j q;obtain ⟨d1,z,B⟩:=G.getV g1;obtain ⟨d2,hd2,F⟩:=J.getV g2;have sb:=ot (o:=.tup [v1,v2]) n;refine ⟨.inr ⟨p,[v1,v2],n,rfl⟩,.tup [d1,d2],?_,SO ⟨p,[v1,v2],rfl,ao,RDs.cons (B.mono sb) (RDs.cons (F.mono sb) RDs.nil)⟩⟩;rw [List.getElem?_zipWith,z,hd2];rfl
theorem Cy {elts:List Expr} {cx} {pos p pos':Pos} {a b:Expr} {ta tb:TEd} (ma:ad ta) (mb:ad tb) (G:Gl X "zip") (hm:X.mg "zip" = none) (J:PA X [a,b] (lA X.K (bq ta (bq tb cy)))) (hs:HP [a,b] X.env=[(false,eval a X.env),(false,eval b X.env)]) (z:HP [b] X.env=[(false,eval b X.env)]) :
 PI X (.Tuple elts cx pos) (.Call (.Name "zip" p) [a,b] [] pos') (lI X.K (oj ta tb)):=by
 refine PI.imp (C7 G hm J hs z) fun σ H R h=>?_;obtain ⟨ρ,M,rs,rm,q⟩:=h;refine ⟨ρ,M,rs,rm,aH ma (aH mb aI) _ _ _ _ (fun ds M1 ⟨x,y,xs,ys,e,L,O,U⟩ vs H1 Y j rd1=>?_) q⟩;subst e;obtain ⟨v,u,rfl,B,F⟩:=rd1.two;obtain ⟨Z,vs,rfl,s1,_⟩:=eZ j B L;obtain ⟨p2,us,rfl,s2,_⟩:=eZ j F O;exact ⟨Z,p2,isT x,isT y,vs,us,rfl,s1,s2,U _ H1 Y j (Cw B F)⟩
end
end
section
section
variable {X:Cx}
noncomputable def fE (xs:List D):List D:=xs.mapIdx fun i x=>.tup [.int (i:Nat),x]
noncomputable def jK (ta:TEd):TId:=fun ρ M R=>ta ρ M fun x M1=>∃ xs,au M1 x=some xs/\R (fE xs) (fun M=>au M x=some xs) M1
theorem uw {ta:TEd} (h:ad ta):bW (jK ta):=fun ρ M Q Q' i q=>h _ _ _ _ (fun x z ⟨ds,e,j⟩=>⟨ds,e,i _ _ _ j⟩) q
theorem Cz {K:Frag} {H1:Hp} {x:D} {xs:List D} {a:Addr} (rx:RD K H1 x (.ref a)):fD K H1 (fE xs) (fun M=>au M x=some xs) (Ite K (isT x) a):=fun M H st rm c i=>by
 obtain ⟨J,vs,F,j,B⟩:=eZ rm (rx.mono st) c
 cases F
 have l1:=B.length;have lz:(fE xs).length=xs.length:=by simp [fE]
 refine ⟨fun hi=>⟨vs,j,by lia⟩,fun hi=>⟨⟨vs,vs[i]'(by lia),j,D0 (by lia)⟩,fun v H' G=>?_⟩⟩
 obtain ⟨p,v1,n,rfl,rfl,g⟩:=G;obtain ⟨d1,q,z⟩:=B.getV (g vs j);have sb:=ot (o:=.tup [.int (i:Nat),v1]) n;refine ⟨.inr ⟨p,[.int (i:Nat),v1],n,rfl⟩,.tup [.int (i:Nat),d1],?_,SO ⟨p,[.int (i:Nat),v1],rfl,ao,RDs.cons (SD.mpr rfl) (RDs.cons (z.mono sb) RDs.nil)⟩⟩;simp [fE,N4,q]
theorem AD {elts:List Expr} {cx} {pos p pos':Pos} {a:Expr} {ta:TEd} (ma:ad ta) (B:Gl X "enumerate") (hm:X.mg "enumerate" = none) (F:PA X [a] (lA X.K (bq ta cy))) (hs:HP [a] X.env=[(false,eval a X.env)]) :
 PI X (.Tuple elts cx pos) (.Call (.Name "enumerate" p) [a] [] pos') (lI X.K (jK ta)):=by
 refine PI.imp (A9 B hm F hs) fun σ H R h=>?_;obtain ⟨ρ,M,rs,rm,q⟩:=h;refine ⟨ρ,M,rs,rm,ma _ _ _ _ (fun x U ⟨xs,G,J⟩ vs H1 L j rd1=>?_) q⟩;obtain ⟨v,rfl,z⟩:=rd1.one;obtain ⟨O,us,rfl,s1,_⟩:=eZ j z G;exact ⟨O,isT x,us,rfl,s1,J _ H1 L j (Cz z)⟩
end
end
section
noncomputable abbrev NC:=al->Mem->List D->Prop
noncomputable abbrev TCd:=al->Mem->List D->NC->Prop
def bX (T:TCd):Prop:=∀ ρ M acc N N',(∀ ρ' M' acc',N ρ' M' acc'->N' ρ' M' acc')->T ρ M acc N->T ρ M acc N'
structure ExtP (p:Addr) (M:Mem) (H:Hp) (M':Mem) (H':Hp):Prop where
 kp:∀ a o,a≠p->fz (M a)=true->H a=some o->H' a=some o
 nw:∀ a o,fz (M a)=true->H a=some o->M' a=M a
section
variable {K:Frag} {M M' M'':Mem} {H H' H'':Hp} {p:Addr}
theorem ExtP.new (x:ExtP p M H M' H') (a:Addr) (o:HO) (n:M a=none) (e:H a=some o):M' a=none:=(x.nw a o (by rw [n];rfl) e).trans n
theorem Ext.toP (x:Ext M H M' H'):ExtP p M H M' H':=⟨fun a o _=>x.kp a o,x.nw⟩
theorem ExtP.refl:ExtP p M H M H:=⟨fun _ _ _ _ h=>h,fun _ _ _ _=>rfl⟩
theorem ExtP.trans {vs:List V} (a:ExtP p M H M' H') (q:H p=some (.lst vs)) (j:∃ vs',H' p=some (.lst vs')) (b:ExtP p M' H' M'' H''):ExtP p M H M'' H'' :=
 ⟨fun c o ne n h=>b.kp c o ne (by rw [a.nw c o n h];exact n) (a.kp c o ne n h),fun c o n h=>by
   have n':fz (M' c)=true:=by rw [a.nw c o n h];exact n
   refine Eq.trans ?_ (a.nw c o n h)
   by_cases z:c=p
   ·subst z;obtain ⟨vs',e⟩:=j;exact b.nw c _ n' e
   ·exact b.nw c o n' (a.kp c o z n h)⟩
theorem ExtP.stab {vs:List V} (r:RM K M H) (j:H p=some (.lst vs)) (x:ExtP p M H M' H'):Stab H H' where
 tup:=fun a xs e=>x.kp a _ (fun z=>by subst z;rw [j] at e;cases e) (by rw [r.fzT e];rfl) e
 frz:=fun a o u e=>x.kp a _ (fun z=>by subst z;rw [j] at e;cases e) (r.fzF e) e
theorem ou {vs:List V} {ho:HO} (j:H p=some (.lst vs)):Stab H (upd H p ho) :=
 ⟨fun a xs e=>by rw [ah (fun z=>by subst z;rw [j] at e;cases e)];exact e,fun a o u e=>by rw [ah (fun z=>by subst z;rw [j] at e;cases e)];exact e⟩
theorem RM.side {vs:List V} {ho:HO} (r:RM K M H) (n:M p=none) (j:H p=some (.lst vs)):RM K M (upd H p ho):=fun a o e=>by
 have ne:a≠p:=fun z=>by subst z;rw [n] at e;cases e
 exact (r a o e).mono (ou j) fun B q=>by rw [ah ne];exact q
end
def gU (K:Frag) (H:Hp) (p:Addr) (acc:List D):Prop:=∃ vs,H p=some (.lst vs)/\RDs K H acc vs
noncomputable def KC (K:Frag) (p:Addr) (M:Mem) (H:Hp) (N:St->Hp->Prop):NC:=fun ρ' M' acc'=>∀ σ' H',ExtP p M H M' H'->RS K H' σ' ρ'->RM K M' H'->gU K H' p acc'->N σ' H'
noncomputable def lC (K:Frag) (p:Addr) (T:TCd):TC:=fun σ H N=>∃ ρ M acc,RS K H σ ρ /\ RM K M H/\M p=none/\gU K H p acc/\T ρ M acc (KC K p M H N)
theorem KC.ext {K:Frag} {p:Addr} {M M2 M':Mem} {H H2:Hp} {N:St->Hp->Prop} {ρ:al} {acc:List D} {vs:List V} (q:H p=some (.lst vs)) (j:∃ vs',H2 p=some (.lst vs')) (x:ExtP p M H M2 H2) (h:KC K p M H N ρ M' acc):KC K p M2 H2 N ρ M' acc :=
 fun σ' H' y=>h σ' H' (x.trans q j y)
noncomputable def eG (te:TEd):TCd:=fun ρ M acc N=>te ρ M fun x M1=>acc.length < Hd/\N ρ M1 (acc++[x])
noncomputable def br:List TTd->TCd->TCd
 | [],tb=>tb
 | t::r,tb=>fun ρ M acc N=>t ρ M fun b M1=>if b=true then br r tb ρ M1 acc N else N ρ M1 acc
noncomputable def bO (b:BT) (tb:TCd) (chk:Mem->Prop) (N:NC):List D->NC
 | []=>fun ρ M acc=>chk M/\N ρ M acc
 | x::xs=>fun ρ M acc=>chk M /\ ∃ ρ',b x ρ = some ρ'/\tb ρ' M acc (bO b tb chk N xs)
noncomputable def dF (src:TId) (b:BT) (tb:TCd):TCd:=fun ρ M acc N=>src ρ M fun xs chk M1=>bO b tb chk N xs ρ M1 acc
noncomputable def gW (fr:List (Option Nat)) (src:TId) (b:BT) (tb:TCd):TEd:=fun ρ M Q=>src ρ M fun xs chk M1=>bO b tb chk (fun _ M' acc=>∀ p,M' p=none->Q (.ref p) (af M' p (.lst acc))) xs (kF fr ρ) M1 []
theorem bA {te:TEd} (h:ad te):bX (eG te):=fun ρ M acc N N' i q=>h _ _ _ _ (fun x B ⟨z,j⟩=>⟨z,i _ _ _ j⟩) q
theorem aJ {tb:TCd} (z:bX tb):∀ {ts:List TTd},(∀ t∈ts,aE t)->bX (br ts tb)
 | [],_=>z
 | t::r,h=>fun ρ M acc N N' i q=>h t Ij _ _ _ _ (fun b F j=>by
   cases b with
   | true=>rw [if_pos rfl] at j ⊢;exact aJ z (fun t' B=>h t' (HM _ B)) _ _ _ _ _ i j
   | false=>rw [if_neg Hi] at j ⊢;exact i _ _ _ j) q
theorem gb {b:BT} {tb:TCd} (z:bX tb) {chk:Mem->Prop} {N N':NC} (i:∀ ρ' M' acc',N ρ' M' acc'->N' ρ' M' acc'):∀ (xs:List D) (ρ:al) (M:Mem) (acc:List D),bO b tb chk N xs ρ M acc->bO b tb chk N' xs ρ M acc
 | [],ρ,M,acc,h=>⟨h.1,i _ _ _ h.2⟩
 | x::xs,ρ,M,acc,⟨c,ρ',e,q⟩=>⟨c,ρ',e,z _ _ _ _ _ (fun ρ2 M2 j B=>gb z i xs ρ2 M2 j B) q⟩
theorem iF {src:TId} {b:BT} {tb:TCd} (hs:bW src) (j:bX tb):bX (dF src b tb):=fun ρ M acc N N' i q=>hs _ _ _ _ (fun xs c B z=>gb j i xs _ _ _ z) q
theorem lK {fr:List (Option Nat)} {src:TId} {b:BT} {tb:TCd} (hs:bW src) (j:bX tb):ad (gW fr src b tb):=fun ρ M Q Q' i q =>
 hs _ _ _ _ (fun xs c F z=>gb j (fun _ M' acc B p n=>i _ _ (B p n)) xs _ _ _ z) q
section
variable {K:Frag} {p:Addr}
theorem gc {te:TEd} (m:ad te) (σ:St) (H:Hp) (N:St->Hp->Prop) (h:lC K p (eG te) σ H N):zp p (lE K te) σ H N:=by
 obtain ⟨ρ,M,acc,rs,rm,n,⟨vs,L,ra⟩,q⟩:=h;refine ⟨ρ,M,rs,rm,m _ _ _ _ (fun x Y ⟨z,O⟩ v H1 F G J=>?_) q⟩;have j:=F.keep p _ n L;have U:=F.new p _ n L;have st:=F.stab rm;have B:Stab H1 (upd H1 p (.lst (vs++[v]))):=ou j;refine ⟨vs,j,by rw [ra.length];exact z,O σ _ ⟨fun a o ne m' e=>?_,F.nw⟩ ((rs.mono st).mono B) (G.side U j) ⟨vs++[v],ao,((ra.mono st).mono B).append (RDs.cons (J.mono B) RDs.nil)⟩⟩
 rw [ah ne];exact F.kp a o m' e
theorem jL {tb:TCd} (mb:bX tb):∀ {ts:List TTd},(∀ t∈ts,aE t) -> ∀ (σ:St) (H:Hp) (N:St->Hp->Prop),lC K p (br ts tb) σ H N->jv (ts.map (lT K)) (lC K p tb) σ H N
 | [],_,σ,H,N,h=>h
 | t::r,hm,σ,H,N,h=>by
   obtain ⟨ρ,M,acc,rs,rm,n,⟨vs,G,ra⟩,q⟩:=h;refine ⟨ρ,M,rs,rm,hm t Ij _ _ _ _ (fun b L F H1 z B=>?_) q⟩;have j:=z.keep p _ n G;have O:=z.new p _ n G;have st:=z.stab rm
   cases b with
   | false =>
     rw [if_neg Hi] at F;dsimp only;rw [if_neg Hi];exact F σ H1 z.toP (rs.mono st) B ⟨vs,j,ra.mono st⟩
   | true =>
     rw [if_pos rfl] at F;dsimp only;rw [if_pos rfl];exact jL mb (fun t' J=>hm t' (HM _ J)) σ H1 N ⟨ρ,L,acc,rs.mono st,B,O,⟨vs,j,ra.mono st⟩,
      aJ mb (fun t' J=>hm t' (HM _ J)) _ _ _ _ _ (fun ρ' M' acc' k=>k.ext G ⟨vs,j⟩ z.toP) F⟩
theorem lL {b:BT} {tb:TCd} (mb:bX tb) {xs:List D} {chk:Mem->Prop} {J:It} {H1:Hp} {B:Mem} {Nd:NC} {N:St->Hp->Prop} {σ:St} {ρ:al} {acc:List D} (it:fD K H1 xs chk J) (rs:RS K H1 σ ρ) (rm:RM K B H1) (n:B p=none)
 (ac:gU K H1 p acc) (q:bO b tb chk Nd xs ρ B acc) (hN:∀ ρ' M' acc' σ' H',ExtP p B H1 M' H'->RS K H' σ' ρ'->RM K M' H'->gU K H' p acc'->Nd ρ' M' acc'->N σ' H') :
 cv J (lG K b) (lC K p tb) N σ H1:=by
 obtain ⟨ES,F,_⟩:=id ac;refine ⟨fun i m σ H=>m=xs.length - i/\i<=xs.length /\ ∃ ρ M acc,RS K H σ ρ /\ RM K M H/\M p=none/\gU K H p acc/\ExtP p B H1 M H/\bO b tb chk Nd (xs.drop i) ρ M acc,⟨xs.length,by simp,Jj _,ρ,B,acc,rs,rm,n,ac,ExtP.refl,q⟩,?_⟩
 rintro i m σ H ⟨rfl,hi,ρ,M,acc,rs,j,n,ac,x,q⟩;have st:=x.stab rm F;obtain ⟨vs,hp,ra⟩:=id ac
 by_cases z:i < xs.length
 ·rw [IZ z] at q;obtain ⟨c,ρ',hb,q⟩:=q;obtain ⟨go,yl⟩:=(it M H st j c i).2 z;refine .inr ⟨go,fun σ' H'=>∃ m',m' < xs.length - i/\(m'=xs.length - (i+1)/\i+1<=xs.length /\ ∃ ρ M acc,RS K H' σ' ρ /\ RM K M H'/\M p=none/\gU K H' p acc/\ExtP p B H1 M H'/\bO b tb chk Nd (xs.drop (i+1)) ρ M acc),fun σ' H' h=>h,fun x' H' y=>?_⟩;obtain ⟨yy,d,hd,rd⟩:=yl x' H' y;rw [D0 z] at hd
  cases hd
  obtain ⟨xy,rmy⟩:=yy.ext j;have sty:=xy.stab j;have G:=xy.keep p _ n hp;refine ⟨_,ρ,ρ',rd,rs.mono sty,hb,fun σ2 O=>?_⟩;refine ⟨ρ',M,acc,O,rmy,n,⟨vs,G,ra.mono sty⟩,mb _ _ _ _ _ (fun ρ3 M3 L q3 σ3 H3 x3 U Y Z=>?_) q⟩;have n3:M3 p=none:=x3.new p _ n G;exact ⟨xs.length - (i+1),by lia,rfl,z,ρ3,M3,L,U,Y,n3,Z,(x.trans F ⟨vs,hp⟩ xy.toP).trans F ⟨vs,G⟩ x3,q3⟩
 ·have e:i=xs.length:=by lia
  subst e;rw [Ou] at q;exact .inl ⟨(it M H st j q.1 _).1 (Hg _),hN ρ M acc σ H x rs j ac q.2⟩
theorem iG {src:TId} {b:BT} {tb:TCd} (ms:bW src) (mb:bX tb) (σ:St) (H:Hp) (N:St->Hp->Prop) (h:lC K p (dF src b tb) σ H N):(lI K src) σ H fun J H1=>cv J (lG K b) (lC K p tb) N σ H1:=by
 obtain ⟨ρ,M,acc,rs,rm,n,⟨vs,B,ra⟩,q⟩:=h;refine ⟨ρ,M,rs,rm,ms _ _ _ _ (fun xs chk O G J H1 z F it=>?_) q⟩;have j:=z.keep p _ n B;have L:=z.new p _ n B;have st:=z.stab rm;exact lL mb it (rs.mono st) F L ⟨vs,j,ra.mono st⟩ G fun ρ' M' acc' σ' H' x2 rs' rm' ac' k=>k σ' H' (z.toP.trans B ⟨vs,j⟩ x2) rs' rm' ac'
theorem eI {fr:List (Option Nat)} {src:TId} {b:BT} {tb:TCd} (ms:bW src) (mb:bX tb) (σ:St) (H:Hp) (Q:VK) (h:lE K (gW fr src b tb) σ H Q):rV (lI K src) (lG K b) (fun p=>lC K p tb) fr σ H Q:=by
 obtain ⟨ρ,M,rs,rm,q⟩:=h;refine ⟨ρ,M,rs,rm,ms _ _ _ _ (fun xs chk G U J H1 F j it p n=>?_) q⟩;have st:=F.stab rm;have xn:Ext G H1 G (upd H1 p (.lst [])):=SN n;have stn:=xn.stab j;have O:G p=none:=j.out n;refine lL (p:=p) mb (xs:=xs) (chk:=chk) (fun M' H' st'=>it M' H' ⟨fun a xs e=>st'.tup _ _ (stn.tup _ _ e),fun a o u e=>st'.frz _ _ _ (stn.frz _ _ _ e)⟩) (((rs.mono st).mono stn).inh fr) (j.new n) O ⟨[],ao,RDs.nil⟩ U fun ρ' M' acc' σ' H' L rs' rm' ac' k=>?_;obtain ⟨vs,Y,ra⟩:=ac';have n':M' p=none:=L.new p _ O ao;refine k p n' (.ref p) H' ⟨fun a o m e=>?_,fun a o m e=>?_⟩ (fun a o e=>?_) (SE.mpr rfl)
 ·have B:=F.kp a o m e;have ne:a≠p:=fun z=>by subst z;rw [n] at B;cases B
  exact L.kp a o ne (by rw [F.nw a o m e];exact m) (by rw [ah ne];exact B)
 ·have B:=F.kp a o m e;have ne:a≠p:=fun z=>by subst z;rw [n] at B;cases B
  rw [ak ne];exact (L.nw a o (by rw [F.nw a o m e];exact m) (by rw [ah ne];exact B)).trans (F.nw a o m e)
 ·by_cases z:a=p
  ·subst z;rw [aa] at e;cases e;exact ⟨vs,Y,ra⟩
  ·rw [ak z] at e;exact rm' a o e
end
end
section
noncomputable def gX:TSd:=fun D ρ M=>D.nx ρ M
noncomputable def ow (t u:TSd):TSd:=fun D ρ M=>t { D with nx:=u D } ρ M
noncomputable def gd:TSd:=fun D ρ M=>D.bk ρ M
noncomputable def jM:TSd:=fun D ρ M=>D.ct ρ M
noncomputable def jN (te:TEd):TSd:=fun D ρ M=>te ρ M fun _ M1=>D.nx ρ M1
noncomputable def ox (te:TEd):TSd:=fun D ρ M=>te ρ M D.rt
noncomputable def sIf (c:TTd) (t u:TSd):TSd:=fun D ρ M=>c ρ M fun b M1=>if b=true then t D ρ M1 else u D ρ M1
noncomputable def iW (te:TEd) (b:BT):TSd:=fun D ρ M=>te ρ M fun x M1=>∃ ρ',b x ρ = some ρ'/\D.nx ρ' M1
noncomputable def oz (ta:TAd) (bs:BTs):TSd:=fun D ρ M=>ta ρ M fun xs M1=>∃ ρ',bs xs ρ = some ρ'/\D.nx ρ' M1
noncomputable def bv (b:BT) (tb:TSd) (chk:Mem->Prop) (D:aX):List Mi.D->al->Mem->Prop
 | []=>fun ρ M=>chk M/\D.nx ρ M
 | x::xs=>fun ρ M=>chk M /\ ∃ ρ',b x ρ = some ρ'/\tb { D with nx:=bv b tb chk D xs,ct:=bv b tb chk D xs,bk:=D.nx } ρ' M
noncomputable def oA (src:TId) (b:BT) (tb:TSd):TSd:=fun D ρ M=>src ρ M fun xs chk M1=>bv b tb chk D xs ρ M1
noncomputable def ba (c:TTd) (tb:TSd) (D:aX):Nat->al->Mem->Prop
 | 0=>fun _ _=>False
 | n+1=>fun ρ M=>c ρ M fun b M1=>if b=true then tb { D with nx:=ba c tb D n,ct:=ba c tb D n,bk:=D.nx } ρ M1 else D.nx ρ M1
noncomputable def gf (c:TTd) (tb:TSd):TSd:=fun D ρ M=>∃ n,ba c tb D n ρ M
theorem lM:aC gX:=fun _ _ _ _ h q=>h.nx _ _ q
theorem su:aC gd:=fun _ _ _ _ h q=>h.bk _ _ q
theorem uz:aC jM:=fun _ _ _ _ h q=>h.ct _ _ q
theorem uA {t u:TSd} (j:aC t) (z:aC u):aC (ow t u):=fun a b ρ M h q=>j { a with nx:=u a } { b with nx:=u b } _ _ ⟨fun ρ' M' q'=>z _ _ _ _ h q',h.rt,h.bk,h.ct⟩ q
theorem uB {te:TEd} (h:ad te):aC (jN te):=fun a b ρ M i q=>h _ _ _ _ (fun _ z j=>i.nx _ _ j) q
theorem xM {te:TEd} (h:ad te):aC (ox te):=fun a b ρ M i q=>h _ _ _ _ (fun d z j=>i.rt _ _ j) q
theorem xN {c:TTd} {t u:TSd} (z:aE c) (B:aC t) (F:aC u):aC (sIf c t u):=fun a b ρ M i q=>z _ _ _ _ (fun k G j=>by
 cases k with
 | true=>rw [if_pos rfl] at j ⊢;exact B _ _ _ _ i j
 | false=>rw [if_neg Hi] at j ⊢;exact F _ _ _ _ i j) q
theorem xO {te:TEd} {bt:BT} (h:ad te):aC (iW te bt):=fun a b ρ M i q=>h _ _ _ _ (fun d z ⟨ρ',e,j⟩=>⟨ρ',e,i.nx _ _ j⟩) q
theorem xP {ta:TAd} {bs:BTs} (h:bn ta):aC (oz ta bs):=fun a b ρ M i q=>h _ _ _ _ (fun d z ⟨ρ',e,j⟩=>⟨ρ',e,i.nx _ _ j⟩) q
theorem gh {bt:BT} {tb:TSd} (j:aC tb) {chk:Mem->Prop} {a b:aX} (i:LeD a b):∀ (xs:List D) (ρ:al) (M:Mem),bv bt tb chk a xs ρ M->bv bt tb chk b xs ρ M
 | [],ρ,M,h=>⟨h.1,i.nx _ _ h.2⟩
 | x::xs,ρ,M,⟨c,ρ',e,q⟩=>⟨c,ρ',e,j { a with nx:=bv bt tb chk a xs,ct:=bv bt tb chk a xs,bk:=a.nx } { b with nx:=bv bt tb chk b xs,ct:=bv bt tb chk b xs,bk:=b.nx } _ _ ⟨fun ρ2 M2 z=>gh j i xs ρ2 M2 z,i.rt,i.nx,fun ρ2 M2 z=>gh j i xs ρ2 M2 z⟩ q⟩
theorem xQ {src:TId} {bt:BT} {tb:TSd} (hs:bW src) (j:aC tb):aC (oA src bt tb):=fun a b ρ M i q=>hs _ _ _ _ (fun xs c B z=>gh j i xs _ _ z) q
theorem eS {c:TTd} {tb:TSd} (q:aE c) (z:aC tb) {a b:aX} (i:LeD a b):∀ (n:Nat) (ρ:al) (M:Mem),ba c tb a n ρ M->ba c tb b n ρ M
 | 0,ρ,M,h=>h
 | n+1,ρ,M,h=>q _ _ _ _ (fun k F j=>by
   cases k with
   | true=>rw [if_pos rfl] at j ⊢;exact z { a with nx:=ba c tb a n,ct:=ba c tb a n,bk:=a.nx } { b with nx:=ba c tb b n,ct:=ba c tb b n,bk:=b.nx } _ _ ⟨fun ρ2 M2 B=>eS q z i n ρ2 M2 B,i.rt,i.nx,fun ρ2 M2 B=>eS q z i n ρ2 M2 B⟩ j
   | false=>rw [if_neg Hi] at j ⊢;exact i.nx _ _ j) h
theorem sv {c:TTd} {tb:TSd} (j:aE c) (z:aC tb):aC (gf c tb):=fun a b ρ M i ⟨n,q⟩=>⟨n,eS j z i n _ _ q⟩
section
variable {K:Frag}
theorem lN (D:bC) (σ:St) (H:Hp) (h:lS K gX D σ H):rF D σ H:=by
 obtain ⟨ρ,M,A,rs,rm,l,q⟩:=h;exact l.nx ρ M σ H Ext.refl rs rm q
theorem sx (D:bC) (σ:St) (H:Hp) (h:lS K gd D σ H):tM D σ H:=by
 obtain ⟨ρ,M,A,rs,rm,l,q⟩:=h;exact l.bk ρ M σ H Ext.refl rs rm q
theorem uC (D:bC) (σ:St) (H:Hp) (h:lS K jM D σ H):ze D σ H:=by
 obtain ⟨ρ,M,A,rs,rm,l,q⟩:=h;exact l.ct ρ M σ H Ext.refl rs rm q
theorem xR {t u:TSd} (mt:aC t) (mu:aC u) (D:bC) (σ:St) (H:Hp) (h:lS K (ow t u) D σ H):BH (lS K t) (lS K u) D σ H:=by
 obtain ⟨ρ,M,A,rs,rm,l,q⟩:=h;exact ⟨ρ,M,{ A with nx:=u A },rs,rm,⟨fun ρ' M' σ' H' x rs' rm' q'=>⟨ρ',M',A,rs',rm',l.ext x,q'⟩,l.rt,l.bk,l.ct⟩,q⟩
theorem uD {te:TEd} (m:ad te) (D:bC) (σ:St) (H:Hp) (h:lS K (jN te) D σ H):zf (lE K te) D σ H:=by
 obtain ⟨ρ,M,A,rs,rm,l,q⟩:=h;exact ⟨ρ,M,rs,rm,m _ _ _ _ (fun d B F v H1 z j G=>l.nx ρ B σ H1 z (rs.mono (z.stab rm)) j F) q⟩
theorem xS {te:TEd} (m:ad te) (D:bC) (σ:St) (H:Hp) (h:lS K (ox te) D σ H):BI (lE K te) D σ H:=by
 obtain ⟨ρ,M,A,rs,rm,l,q⟩:=h;exact ⟨ρ,M,rs,rm,m _ _ _ _ (fun d B F v H1 G j z=>l.rt d B v H1 G j z F) q⟩
theorem AE {c:TTd} {t u:TSd} (mc:aE c) (D:bC) (σ:St) (H:Hp) (h:lS K (sIf c t u) D σ H):BK (lT K c) (lS K t) (lS K u) D σ H:=by
 obtain ⟨ρ,M,A,rs,rm,l,q⟩:=h;refine ⟨ρ,M,rs,rm,mc _ _ _ _ (fun k F z H1 B j=>?_) q⟩
 cases k with
 | true=>rw [if_pos rfl] at z ⊢;exact ⟨ρ,F,A,rs.mono (B.stab rm),j,l.ext B,z⟩
 | false=>rw [if_neg Hi] at z ⊢;exact ⟨ρ,F,A,rs.mono (B.stab rm),j,l.ext B,z⟩
theorem xT {te:TEd} {b:BT} (m:ad te) (D:bC) (σ:St) (H:Hp) (h:lS K (iW te b) D σ H):rG (lE K te) (lG K b) D σ H:=by
 obtain ⟨ρ,M,A,rs,rm,l,q⟩:=h;refine ⟨ρ,M,rs,rm,m _ _ _ _ (fun d F ⟨ρ',e,G⟩ v H1 B j z=>?_) q⟩;exact ⟨d,ρ,ρ',z,rs.mono (B.stab rm),e,fun σ' rs'=>l.nx ρ' F σ' H1 B rs' j G⟩
theorem lP {te:TEd} {i:Nat} (m:ad te) (D:bC) (σ:St) (H:Hp) (h:lS K (iW te (ce i)) D σ H):rG (lE K te) (jl i) D σ H:=by
 obtain ⟨ρ,M,A,rs,rm,l,q⟩:=h;refine ⟨ρ,M,rs,rm,m _ _ _ _ (fun d z ⟨ρ',e,B⟩ v H1 j rm1 rd1=>?_) q⟩
 cases e
 exact l.nx _ z _ H1 j ((rs.mono (j.stab rm)).set i rd1) rm1 B
theorem xU {src:TId} {b:BT} {tb:TSd} (ms:bW src) (mb:aC tb) (D:bC) (σ:St) (H:Hp) (h:lS K (oA src b tb) D σ H):BO (lI K src) (lG K b) (lS K tb) D σ H:=by
 obtain ⟨ρ,M,A,rs,rm,l,q⟩:=h;refine ⟨ρ,M,rs,rm,ms _ _ _ _ (fun xs chk M1 q1 J H1 x1 G it=>?_) q⟩;refine ⟨fun i m σ H'=>m=xs.length - i/\i<=xs.length /\ ∃ ρ M2,RS K H' σ ρ /\ RM K M2 H'/\Ext M1 H1 M2 H'/\bv b tb chk A (xs.drop i) ρ M2,⟨xs.length,by simp,Jj _,ρ,M1,rs.mono (x1.stab rm),G,Ext.refl,q1⟩,?_⟩
 rintro i m σ2 H2 ⟨rfl,hi,ρ2,M2,L,j,x2,O⟩;have U:=x2.stab G
 by_cases B:i < xs.length
 ·rw [IZ B] at O;obtain ⟨c,ρ',hb,q3⟩:=O;obtain ⟨go,yl⟩:=(it M2 H2 U j c i).2 B;refine .inr ⟨go,fun σ' H'=>∃ m',m' < xs.length - i/\(m'=xs.length - (i+1)/\i+1<=xs.length /\ ∃ ρ M,RS K H' σ' ρ /\ RM K M H'/\Ext M1 H1 M H'/\bv b tb chk A (xs.drop (i+1)) ρ M),fun σ' H' h=>h,fun x' H' y=>?_⟩;obtain ⟨yy,d,hd,rd⟩:=yl x' H' y;rw [D0 B] at hd
  cases hd
  obtain ⟨xy,rmy⟩:=yy.ext j;have Y:=x1.trans (x2.trans xy);refine ⟨_,ρ2,ρ',rd,L.mono (xy.stab j),hb,fun σ3 ES=>?_⟩;have nx:∀ ρ5 F σ5 z,Ext M2 H' F z->RS K z σ5 ρ5->RM K F z->bv b tb chk A (xs.drop (i+1)) ρ5 F -> ∃ m',m' < xs.length - i/\(m'=xs.length - (i+1)/\i+1<=xs.length /\ ∃ ρ M,RS K z σ5 ρ /\ RM K M z/\Ext M1 H1 M z/\bv b tb chk A (xs.drop (i+1)) ρ M) :=
   fun ρ5 F σ5 z Z ET EU q5=>⟨xs.length - (i+1),by lia,rfl,B,ρ5,F,ET,EU,(x2.trans xy).trans Z,q5⟩
  refine ⟨ρ',M2,{ A with nx:=bv b tb chk A (xs.drop (i+1)),ct:=bv b tb chk A (xs.drop (i+1)),bk:=A.nx },ES,rmy,⟨nx,fun d F v z Z=>l.rt d F v z (Y.trans Z),fun ρ5 F σ5 z Z=>l.nx ρ5 F σ5 z (Y.trans Z),nx⟩,q3⟩
 ·have e:i=xs.length:=by lia
  subst e;rw [Ou] at O;exact .inl ⟨(it M2 H2 U j O.1 _).1 (Hg _),l.nx ρ2 M2 σ2 H2 (x1.trans x2) L j O.2⟩
theorem sy {c:TTd} {tb:TSd} (mc:aE c) (mb:aC tb) (D:bC) (σ:St) (H:Hp) (h:lS K (gf c tb) D σ H):tO (lT K c) (lS K tb) D σ H:=by
 obtain ⟨ρ,M,A,rs,rm,l,n,q⟩:=h;refine ⟨fun m σ' H'=>∃ ρ' M',RS K H' σ' ρ'/\RM K M' H'/\Ext M H M' H'/\ba c tb A m ρ' M',⟨n,ρ,M,rs,rm,Ext.refl,q⟩,?_⟩;rintro m σ1 H1 ⟨ρ1,M1,J,L,x1,q1⟩
 cases m with
 | zero=>exact q1.elim
 | succ m =>
   refine ⟨ρ1,M1,J,L,mc _ _ _ _ (fun k M2 Z H2 x2 O=>?_) q1⟩;have j:=x1.trans x2;have U:=J.mono (x2.stab L)
   cases k with
   | false=>rw [if_neg Hi] at Z;dsimp only;rw [if_neg Hi];exact l.nx ρ1 M2 σ1 H2 j U O Z
   | true =>
     rw [if_pos rfl] at Z;dsimp only;rw [if_pos rfl];refine ⟨fun σ' H'=>∃ ρ' M',RS K H' σ' ρ'/\RM K M' H'/\Ext M H M' H'/\ba c tb A m ρ' M',fun σ' H' h=>⟨m,Rj m,h⟩,ρ1,M2,{ A with nx:=ba c tb A m,ct:=ba c tb A m,bk:=A.nx },U,O,⟨?_,fun d z v Y B=>l.rt d z v Y (j.trans B),fun ρ5 z σ5 Y B=>l.nx ρ5 z σ5 Y (j.trans B),?_⟩,Z⟩
     ·exact fun ρ5 z σ5 Y B F G q5=>⟨ρ5,z,F,G,j.trans B,q5⟩
     ·exact fun ρ5 z σ5 Y B F G q5=>⟨ρ5,z,F,G,j.trans B,q5⟩
end
noncomputable def dy:D->D->D->Mem->(Mem->Prop)->Prop:=fun o i v M Q=>∃ a,o = .ref a /\
 ((∃ xs k j,i = .int k/\M a=some (.lst xs)/\ixN xs.length k=some j/\Q (af M a (.lst (xs.set j v)))) ∨
  ∃ t kvs,M a=some (.dct t kvs)/\eF t i=true/\kvs.length < Hd/\Q (af M a (.dct t (bQ kvs i v))))
noncomputable def oB (te to ti:TEd):TSd:=fun D ρ M=>te ρ M fun v M1=>to ρ M1 fun o M2=>ti ρ M2 fun i M3=>dy o i v M3 fun M4=>D.nx ρ M4
theorem eJ {o i v:D} {M:Mem} {Q Q':Mem->Prop} (h:∀ M',Q M'->Q' M') (q:dy o i v M Q):dy o i v M Q':=by
 obtain ⟨a,e,⟨xs,k,j,z,B,F,q⟩ | ⟨t,kvs,z,B,F,q⟩⟩:=q
 ·exact ⟨a,e,.inl ⟨xs,k,j,z,B,F,h _ q⟩⟩
 ·exact ⟨a,e,.inr ⟨t,kvs,z,B,F,h _ q⟩⟩
theorem xV {te to ti:TEd} (he:ad te) (ho:ad to) (hi:ad ti):aC (oB te to ti):=fun a b ρ M i q =>
 he _ _ _ _ (fun v F j=>ho _ _ _ _ (fun o M2 z=>hi _ _ _ _ (fun k G B=>eJ (fun M' q'=>i.nx _ _ q') B) z) j) q
section
variable {X:Cx} {K:Frag}
theorem iX (j:X.A.units+1 < Js):PSet X (fun o i v H Q=>∃ a H',o = .ref a/\DPut H a i v H'/\Q H'):=by
 intro pins s σ H o i v ov iv u Q I ro ri rv h;obtain ⟨a,H',rfl,g,q⟩:=h
 cases ro
 exact u6 j I g ri rv fun s' I'=>⟨H',I',q⟩
theorem PSet.or {t t':ky} (h:PSet X t) (h':PSet X t'):PSet X (fun o i v H Q=>t o i v H Q∨t' o i v H Q):=by
 intro pins s σ H o i v ov iv u Q I ro ri rv q
 rcases q with q | q
 ·exact h pins s σ H o i v ov iv u Q I ro ri rv q
 ·exact h' pins s σ H o i v ov iv u Q I ro ri rv q
section
variable {κ:Type} [DecidableEq κ] {H:Hp} {RK:D -> κ -> Prop} (inj:∀ {d e:D} {k : κ},RK d k->RK e k->d=e) (fn:∀ {d:D} {k k' : κ},RK d k->RK d k'->k=k')
include inj fn
theorem qE {k:D} {q : κ} (j:RK k q):∀ {kvs:List (D×D)} {ps:List (κ × V)},I8 (fun p r=>RK p.1 r.1/\RD K H p.2 r.2) kvs ps ->
 (kvs.any fun p=>decide (p.1=k))=(ps.any fun p=>decide (p.1=q))
 | _,_,.nil=>rfl
 | _,_,.cons (a:=p) (b:=r) hr t=>by
   rw [La,La,qE j t];congr 1
   by_cases e:p.1=k
   ·have e':r.1=q:=by have h1:=hr.1;rw [e] at h1;exact fn h1 j
    rw [decide_eq_true e,decide_eq_true e']
   ·have e' : ¬ r.1=q:=fun z=>e (by have h1:=hr.1;rw [z] at h1;exact inj h1 j)
    rw [decide_eq_false e,decide_eq_false e']
theorem qF {k:D} {q : κ} (B:RK k q) {d:D} {v:V} (F:RD K H d v):∀ {kvs:List (D×D)} {ps:List (κ × V)},I8 (fun p r=>RK p.1 r.1/\RD K H p.2 r.2) kvs ps ->
 I8 (fun p r=>RK p.1 r.1/\RD K H p.2 r.2) (kvs.map fun p=>if p.1=k then (p.1,d) else p) (ps.map fun p=>if p.1=q then (p.1,v) else p)
 | _,_,.nil=>.nil
 | _,_,.cons (a:=p) (b:=r) j t=>by
   refine .cons ?_ (qF B F t)
   by_cases e:p.1=k
   ·have e':r.1=q:=by have h1:=j.1;rw [e] at h1;exact fn h1 B
    dsimp only;rw [if_pos e,if_pos e'];exact ⟨j.1,F⟩
   ·have e' : ¬ r.1=q:=fun z=>e (by have h1:=j.1;rw [z] at h1;exact inj h1 B)
    dsimp only;rw [if_neg e,if_neg e'];exact j
theorem iY {k:D} {q : κ} (j:RK k q) {d:D} {v:V} (z:RD K H d v) {kvs:List (D×D)} {ps:List (κ × V)} (r:I8 (fun p r=>RK p.1 r.1/\RD K H p.2 r.2) kvs ps) :
 I8 (fun p r=>RK p.1 r.1/\RD K H p.2 r.2) (bQ kvs k d) (bf ps q v):=by
 unfold bQ bf;rw [qE (K:=K) (H:=H) (RK:=RK) inj fn j r]
 by_cases e:(ps.any fun p=>decide (p.1=q))=true
 ·rw [if_pos e,if_pos e];exact qF (RK:=RK) inj fn j z r
 ·rw [if_neg e,if_neg e];exact r.snoc ⟨j,z⟩
end
theorem fF {M:Mem} {H:Hp} {o i v:D} {ov iv vv:V} {Qd:Mem->Prop} {Q:Hp->Prop} (rm:RM K M H) (ro:RD K H o ov) (ri:RD K H i iv) (rv:RD K H v vv) (h:dy o i v M Qd) (O:∀ M' H',Ext M H M' H'->RM K M' H'->Qd M'->Q H') :
 zm ov iv vv H Q∨∃ a H',ov = .ref a/\DPut H a iv vv H'/\Q H':=by
 obtain ⟨a,rfl,⟨xs,k,j,rfl,B,L,q⟩ | ⟨t,kvs,F,B,L,q⟩⟩:=h
 ·cases SE.mp ro
  cases SD.mp ri
  obtain ⟨vs,Z,rs⟩:=rm _ _ B;have st:Stab H (upd H a (.lst (vs.set j vv))):=rm.stabPut B;exact .inl ⟨a,vs,k,j,rfl,rfl,Z,by rw [rs.length];exact L,O _ _ (Ext.put B) (rm.put (o:=.lst (xs.set j v)) B ⟨_,ao,(rs.set j rv).mono st⟩) q⟩
 ·cases SE.mp ro
  have ro':=rm _ _ F
  cases t with
  | false =>
    obtain ⟨ps,U,pr⟩:=ro';obtain ⟨kq,J⟩:=nH (show fB i=true from B);have st:Stab H (upd H a (.dK (bf ps kq vv))):=rm.stabPut F;have G:=iY (RK:=RKey) RKey.inj RKey.fun J rv pr;rw [kI J ri];refine .inr ⟨a,_,rfl,DPut.k U (by rw [<- JL pr];exact L),O _ _ (Ext.put F) (rm.put (o:=.dct false (bQ kvs i v)) F ⟨_,ao,SH G fun _ _ z=>⟨z.1,z.2.mono st⟩⟩) q⟩
  | true =>
    obtain ⟨ps,U,pr⟩:=ro';obtain ⟨kq,J⟩:=gO (show bJ i=true from B);have st:Stab H (upd H a (.dT (bf ps kq vv))):=rm.stabPut F;have G:=iY (RK:=RKeys) RKeys.inj RKeys.fun J rv pr
    cases i <;> first
     | exact J.elim
     | (obtain ⟨b,us,rfl,Y,ru⟩:=SR (gP B) ri
        rw [dS J ru] at Y;exact .inr ⟨a,_,rfl,DPut.t U Y (by rw [<- JL pr];exact L),O _ _ (Ext.put F) (rm.put (o:=.dct true (bQ kvs _ v)) F ⟨_,ao,SH G fun _ _ z=>⟨z.1,z.2.mono st⟩⟩) q⟩)
theorem CA {o i e:Expr} {te to ti:TEd} {pos tpos:Pos} (hu:X.A.units+1 < Js) (me:ad te) (mo:ad to) (mi:ad ti) (he:PE X e (lE X.K te)) (ho:PE X o (lE X.K to)) (hi:PE X i (lE X.K ti))
 (hs:L9 [.Subscript o i tpos] e pos.line X.env=pure false) (hw:Jv [.Subscript o i tpos] e X.env=pure none)
 (ha:∀ v,assign (.Subscript o i tpos) X.env v=(do
   let ov <- holding [v] (eval o X.env)
   let iv <- holding [v,ov] (eval i X.env)
   MR tpos
   holding [v,ov,iv] (NY ov iv v)
   release [v,ov,iv] [])):PS X (.Assign [.Subscript o i tpos] e pos) (lS X.K (oB te to ti)):=by
 refine PS.imp (nA he (ny ho hi (PSet.or iN (iX hu)) ha) hs hw rfl) fun D σ H h=>?_;obtain ⟨ρ,M,A,rs,rm,l,q⟩:=h;refine ⟨ρ,M,rs,rm,me _ _ _ _ (fun v M1 q1 vv H1 F j G=>?_) q⟩;refine ⟨ρ,M1,rs.mono (F.stab rm),j,mo _ _ _ _ (fun ov M2 q2 vo H2 J z L=>?_) q1⟩;refine ⟨ρ,M2,(rs.mono (F.stab rm)).mono (J.stab j),z,mi _ _ _ _ (fun iv M3 q3 vi H3 O U Y=>?_) q2⟩;have B:=F.trans (J.trans O);exact fF U (L.mono (O.stab z)) Y ((G.mono (J.stab j)).mono (O.stab z)) q3 fun M' H' x4 Z q4=>l.nx ρ M' σ H' (B.trans x4) (rs.mono ((B.trans x4).stab rm)) Z q4
noncomputable def mZ:R2d
 | .int i,.int j,M,Q=>Q (.int (i+j)) M
 | _,_,_,_=>False
noncomputable def n6:R2d
 | .int i,.int j,M,Q=>Q (.int (i - j)) M
 | _,_,_,_=>False
noncomputable def nc:R2d
 | .int i,.int j,M,Q=>MulOk i j/\Q (.int (i*j)) M
 | _,_,_,_=>False
theorem lQ:aB mZ:=by
 intro x y M Q Q' h q
 cases x <;> cases y <;> first | exact q.elim | exact h _ _ q
theorem lU:aB n6:=by
 intro x y M Q Q' h q
 cases x <;> cases y <;> first | exact q.elim | exact h _ _ q
theorem lV:aB nc:=by
 intro x y M Q Q' h q
 cases x <;> cases y <;> first | exact q.elim | exact ⟨q.1,h _ _ q.2⟩
theorem uE:OpR X (Mv .Add) (l2 X.K mZ):=by
 refine OpR.of zW fun v u H Q h=>?_;obtain ⟨x,y,M,rm,rx,ry,q⟩:=h
 cases x <;> cases y <;> first
  | exact q.elim
  | (cases SD.mp rx;cases SD.mp ry;exact ⟨_,_,rfl,rfl,q _ H Ext.refl rm (SD.mpr rfl)⟩)
theorem uF:OpR X (Mv .Sub) (l2 X.K n6):=by
 refine OpR.of zX fun v u H Q h=>?_;obtain ⟨x,y,M,rm,rx,ry,q⟩:=h
 cases x <;> cases y <;> first
  | exact q.elim
  | (cases SD.mp rx;cases SD.mp ry;exact ⟨_,_,rfl,rfl,q _ H Ext.refl rm (SD.mpr rfl)⟩)
theorem uG:OpR X (Mv .Mult) (rI MulOk fun i j=>.int (i*j)):=opI fun _ _ _ _ _ _ _ z q=>imul_int q z.ok
theorem uH:OpR X (Mv .Mult) (l2 X.K nc):=by
 refine OpR.of uG fun v u H Q h=>?_;obtain ⟨x,y,M,rm,rx,ry,q⟩:=h
 cases x <;> cases y <;> first
  | exact q.elim
  | (cases SD.mp rx;cases SD.mp ry;exact ⟨_,_,rfl,rfl,q.1,q.2 _ H Ext.refl rm (SD.mpr rfl)⟩)
end
end
end Mi
end L2
namespace L2
open PySem PySem.Spec PyProof.Rows
namespace Mi
variable {K:Frag}
theorem uI {ta:TAd} {i j:Nat} (m:bn ta) (D:bC) (σ:St) (H:Hp) (h:lS K (oz ta (bV (ce i) (bV (ce j) fZ))) D σ H):BL i j (lA K ta) D σ H:=by
 obtain ⟨ρ,M,A,rs,rm,l,q⟩:=h;refine ⟨ρ,M,rs,rm,m _ _ _ _ (fun ds G ⟨ρ',e,J⟩ vs H1 F B z=>?_) q⟩
 match ds,e,z with
 | [d1,d2],e,z =>
  obtain ⟨v,u,rfl,L,O⟩:=z.two;simp only [bV,ce,fZ,Ov,QO] at e;subst e;exact ⟨v,u,rfl,l.nx _ G _ H1 F (((rs.mono (F.stab rm)).set i L).set j O) B J⟩
end Mi
end L2
namespace L2
open PySem PySem.Spec PyProof.Rows
section
section
variable {X:Cx}
theorem ax:BN X (fun o i H Q=>∃ a xs k x,o = .ref a/\i = .int k/\SqL X.K H a xs/\atI xs k=some x/\Q x H):=by
 intro pins s σ H o i ov iv Q I ro ri h;obtain ⟨a,xs,k,x,rfl,rfl,sq,he,q⟩:=h
 cases ro
 obtain ⟨t,rfl⟩:=ri;obtain ⟨its,r,pl,hz⟩:=I.list sq;obtain ⟨j,h1,h2,J,B,F⟩:=kC he;obtain ⟨w,ew,rw'⟩:=r.get h2;have G:=r.length;have L:=eV;have fin:EP X pins σ Q w s:=⟨x,H,I,rw',q⟩
 by_cases h0 : 0<=k
 ·have z:k.toNat=j:=Ju.inj (by rw [<- h1,Pe h0 F])
  exact wpAny_getItem_list pl.isList h0 (by lia) (by rw [z];simpa using ew) fin
 ·have z:(k+(its.toArray.size:Int)).toNat=j:=by
   rw [Hn,<- G];exact Ju.inj (by rw [<- h1,OG (by lia) B])
  exact OI pl.isList (by lia) (by rw [Hn];lia) (by lia) (by rw [z];simpa using ew) fin
end
namespace Mi
section
variable {X:Cx}
noncomputable def zr:R2d:=fun x y M Q=>∃ a ds k d,x = .ref a/\y = .int k/\M a=some (.lst ds)/\atI ds k=some d/\Q d M
theorem uJ:aB zr:=fun _ _ _ _ _ h ⟨a,ds,k,d,j,z,B,F,q⟩=>⟨a,ds,k,d,j,z,B,F,h _ _ q⟩
noncomputable def jO (to ti te:TEd) (rd:R2d):TSd:=fun D ρ M=>to ρ M fun o M1=>ti ρ M1 fun i M2=>zr o i M2 fun x M3=>te ρ M3 fun y M4=>rd x y M4 fun z M5=>dy o i z M5 fun M6=>D.nx ρ M6
theorem uK {to ti te:TEd} {rd:R2d} (ho:ad to) (hi:ad ti) (he:ad te) (j:aB rd):aC (jO to ti te rd):=fun a b ρ M l q =>
 ho _ _ _ _ (fun o U B=>hi _ _ _ _ (fun i M2 F=>uJ _ _ _ _ _ (fun x Y G=>he _ _ _ _ (fun y Z J=>j _ _ _ _ _ (fun z M5 L=>eJ (fun M6 O=>l.nx _ _ O) L) J) G) F) B) q
theorem kL {o i e:Expr} {to ti te:TEd} {op:Mc} {rd:R2d} {pos tpos:Pos} (hu:X.A.units+1 < Js) (mo:ad to) (mi:ad ti) (me:ad te) (hr:aB rd) (ho:PE X o (lE X.K to)) (hi:PE X i (lE X.K ti)) (he:PE X e (lE X.K te)) (J:OpR X (Mv op) (l2 X.K rd))
 (ha:∀ ov iv new,augStore i ov iv new=(do holding [new,ov,iv] (NY ov iv new);release [new,ov,iv] [];pure .next)):PS X (.AugAssign (.Subscript o i tpos) op e pos) (lS X.K (jO to ti te rd)):=by
 refine PS.imp (zV ho hi ax he (tip:=l2 X.K rd) J (PSet.or iN (iX hu)) ha) fun D σ H h=>?_;obtain ⟨ρ,M,A,rs,rm,l,q⟩:=h;refine ⟨ρ,M,rs,rm,mo _ _ _ _ (fun d1 M1 q1 v1 H1 x1 j L=>?_) q⟩;have B:=rs.mono (x1.stab rm);refine ⟨ρ,M1,B,j,mi _ _ _ _ (fun d2 M2 q2 v2 H2 O z U=>?_) q1⟩;have Y:=B.mono (O.stab j);have F:=L.mono (O.stab j);obtain ⟨a,ds,k,d,rfl,rfl,e3,e4,q3⟩:=q2
 cases SE.mp F
 cases SD.mp U
 obtain ⟨vs,Z,rv⟩:=z _ _ e3;obtain ⟨v3,ES,ET⟩:=jA rv e4;refine ⟨a,vs,k,v3,rfl,rfl,SqL.of Z,ES,?_⟩;refine ⟨ρ,M2,Y,z,me _ _ _ _ (fun d4 M4 q4 v4 H4 x4 EU EV=>?_) q3⟩;refine ⟨d,d4,M4,EU,ET.mono (x4.stab z),EV,hr _ _ _ _ _ (fun d5 M5 q5 v5 H5 x5 EW EX=>?_) q4⟩;have G:=((x1.trans O).trans x4).trans x5;exact fF EW (SE.mpr rfl) (SD.mpr rfl) EX q5 fun M' H' x6 EY q6=>l.nx ρ M' σ H' (G.trans x6) (rs.mono ((G.trans x6).stab rm)) EY q6
end
section
section
variable {X:Cx}
noncomputable def isD:D->D->Option Bool
 | x,.non=>some (match x with | .non=>true | _=>false)
 | x,.bl b=>some (match x with | .bl c=>c==b | _=>false)
 | _,_=>none
noncomputable def wIs:R2d:=fun x y M Q=>∃ k,isD x y=some k/\Q (.bl k) M
noncomputable def xW:R2d:=fun x y M Q=>∃ k,isD x y=some k/\Q (.bl (!k)) M
theorem AF:aB wIs:=fun _ _ _ _ _ h ⟨k,e,q⟩=>⟨k,e,h _ _ q⟩
theorem xX:aB xW:=fun _ _ _ _ _ h ⟨k,e,q⟩=>⟨k,e,h _ _ q⟩
theorem AG {M:LS} {A:I0} {E:hH->tv->Prop} {s:tv} {Q:hH->tv->Prop} {v:hH} {b:Bool} (j:∀ id,v ≠ .builtin id) (h:Q (.bool (v == .bool b)) s):Hh M A (IW .Is v (.bool b)) Q E s:=by
 cases v <;> first | exact hW h | exact absurd rfl (j _)
theorem xY {M:LS} {A:I0} {E:hH->tv->Prop} {s:tv} {Q:hH->tv->Prop} {v:hH} {b:Bool} (j:∀ id,v ≠ .builtin id) (h:Q (.bool (!(v == .bool b))) s):Hh M A (IW .IsNot v (.bool b)) Q E s:=by
 cases v <;> first | exact hW h | exact absurd rfl (j _)
theorem uL {K:Frag} {H:Hp} {x y:D} {v w:V} {u t:hH} {k:Bool} (e:isD x y=some k) (rx:RD K H x v) (ry:RD K H y w) (ru:RelV v u) (rt:RelV w t):(t = .none/\(u == .none)=k)∨∃ b,t = .bool b/\(u == .bool b)=k /\ ∀ id,u ≠ .builtin id:=by
 cases y with
 | non =>
   cases SM.mp ry
   cases rt
   refine .inl ⟨rfl,?_⟩
   cases x with
   | non=>cases SM.mp rx;cases ru;cases e;rfl
   | bl c=>cases SF.mp rx;cases ru;cases e;rfl
   | int i=>cases SD.mp rx;obtain ⟨tk,rfl⟩:=ru;cases e;rfl
   | str z=>cases SK.mp rx;obtain ⟨tk,rfl⟩:=ru;cases e;rfl
   | tup ds=>obtain ⟨a,vs,rfl,_⟩:=SI rx;cases ru;cases e;rfl
   | con ds=>obtain ⟨a,vs,rfl,_⟩:=SJ.mp rx;cases ru;cases e;rfl
   | ref a=>cases SE.mp rx;cases ru;cases e;rfl
   | fn z=>obtain ⟨a,rfl,_⟩:=SX.mp rx;cases ru;cases e;rfl
 | bl b =>
   cases SF.mp ry
   cases rt
   refine .inr ⟨b,rfl,?_⟩
   cases x with
   | non=>cases SM.mp rx;cases ru;cases e;exact ⟨rfl,fun _ z=>by cases z⟩
   | bl c=>cases SF.mp rx;cases ru;cases e;exact ⟨by cases b <;> cases c <;> rfl,fun _ z=>by cases z⟩
   | int i=>cases SD.mp rx;obtain ⟨tk,rfl⟩:=ru;cases e;exact ⟨rfl,fun _ z=>by cases z⟩
   | str z=>cases SK.mp rx;obtain ⟨tk,rfl⟩:=ru;cases e;exact ⟨rfl,fun _ z=>by cases z⟩
   | tup ds=>obtain ⟨a,vs,rfl,_⟩:=SI rx;cases ru;cases e;exact ⟨rfl,fun _ z=>by cases z⟩
   | con ds=>obtain ⟨a,vs,rfl,_⟩:=SJ.mp rx;cases ru;cases e;exact ⟨rfl,fun _ z=>by cases z⟩
   | ref a=>cases SE.mp rx;cases ru;cases e;exact ⟨rfl,fun _ z=>by cases z⟩
   | fn z=>obtain ⟨a,rfl,_⟩:=SX.mp rx;cases ru;cases e;exact ⟨rfl,fun _ z=>by cases z⟩
 | _=>cases e
theorem AH:OpR X (IW .Is) (l2 X.K wIs):=by
 intro pins s σ H v w u t Q I ru rt h;obtain ⟨x,y,M,rm,rx,ry,k,e,q⟩:=h;have fin:EP X pins σ Q (.bool k) s:=⟨.bl k,H,I,rfl,q _ H Ext.refl rm (SF.mpr rfl)⟩
 rcases uL e rx ry ru rt with ⟨rfl,j⟩ | ⟨b,rfl,j,nb⟩
 ·exact is_none_gen (by rw [j];exact fin)
 ·exact AG nb (by rw [j];exact fin)
theorem xZ:OpR X (IW .IsNot) (l2 X.K xW):=by
 intro pins s σ H v w u t Q I ru rt h;obtain ⟨x,y,M,rm,rx,ry,k,e,q⟩:=h;have fin:EP X pins σ Q (.bool (!k)) s:=⟨.bl (!k),H,I,rfl,q _ H Ext.refl rm (SF.mpr rfl)⟩
 rcases uL e rx ry ru rt with ⟨rfl,j⟩ | ⟨b,rfl,j,nb⟩
 ·exact isnot_none_gen (by rw [j];exact fin)
 ·exact xY nb (by rw [j];exact fin)
noncomputable def jP (t:Bool):TEd:=fun _ M Q=>∀ p,M p=none->Q (.ref p) (af M p (.dct t []))
theorem uM {t:Bool}:ad (jP t):=fun _ _ _ _ i q p n=>i _ _ (q p n)
theorem AI {t:Bool} {pos:Pos}:PE X (.Dict [] [] pos) (lE X.K (jP t)):=by
 cases t with
 | false =>
   refine PE.imp wZ fun σ H Q ⟨ρ,M,rs,rm,q⟩ p n=>?_;exact q p (rm.out n) (.ref p) _ (Ext.lay n) (rm.lay n ⟨[],ao,.nil⟩) (SE.mpr rfl)
 | true =>
   refine PE.imp xc fun σ H Q ⟨ρ,M,rs,rm,q⟩ p n=>?_;exact q p (rm.out n) (.ref p) _ (Ext.lay n) (rm.lay n ⟨[],ao,.nil⟩) (SE.mpr rfl)
end
end
end Mi
end
end L2
namespace L2
namespace Srt
open PySem PySem.Spec PyProof.Rows
structure Cm (prog:HB) (w:HX) (A:I0) (s:tv) (kd:LF) (P:Hf->Prop) (lt:Hf->Hf->Bool):Prop where
 asym:∀ x y,lt x y=true->lt y x=false
 neg:∀ x y z,lt x z=true->lt x y=true∨lt y z=true
 run:∀ (x y:Hf) (E:hH->tv->Prop) (Q:Bool->tv->Prop),P x->P y->Q (lt x y) s->Hh (Hx prog w) A (keyLt' kd x.1 y.1) Q E s
section
variable {prog:HB} {w:HX} {A:I0} {E:hH->tv->Prop} {s:tv} {kd:LF} {P:Hf->Prop} {lt:Hf->Hf->Bool}
theorem ab {σ α:Type} {M:LS} {x : α} {st : σ} {Q : α -> σ -> Prop} (q:Q x st):wpS M A E s (pure x) Q st :=
 fun _ _ _=>⟨rfl,q⟩
theorem cI {σ:Type} {M:LS} {tag:String} {st : σ} {Q:Unit -> σ -> Prop} (q:Q () st):wpS M A E s (liftM (PySem.rule tag)) Q st :=
 wpS_lift (J6 ⟨rfl,q⟩)
theorem AJ {σ:Type} {M:LS} {st st' : σ} {Q:PUnit -> σ -> Prop} (q:Q PUnit.unit st'):wpS M A E s (set st') Q st :=
 fun _ _ _=>⟨rfl,q⟩
theorem jQ (c:Cm prog w A s kd P lt) {x y:Hf} {st:IC} {Q:Option Bool->IC->Prop} (j:Jh st=kd) (hx:P x) (z:P y) (q:Q (some (lt x y)) st):wpS (Hx prog w) A E s (lt' x y) Q st:=by
 rw [lt'_eq];refine Hc (LK ?_);refine Hc (wpS_lift ?_);rw [j];intro Γ p hp;rw [Sem.wp_attempt];exact c.run x y (fun e s'=>s'=s/\wpS (Hx prog w) A E s (do modify fun s=>MJ (Jh s) (Ii s) (Hw s) (gallopOf s) (some e);pure none) Q st) (fun b s'=>s'=s/\wpS (Hx prog w) A E s (pure (some b)) Q st) hx z ⟨rfl,ab q⟩ Γ p hp
theorem ay {arr:Array Hf} {i:Nat} {x:Hf} {st:IC} {Q:Hf->IC->Prop} (h:arr[i]? = some x) (q:Q x st):wpS (Hx prog w) A E s (elem' arr i) Q st:=by
 rw [elem'_eq,h];exact ab q
theorem Cm.le_trans (c:Cm prog w A s kd P lt) {x y z:Hf} (h:lt y x=false) (h2:lt z y=false):lt z x=false:=by
 cases e:lt z x with
 | false=>rfl
 | true=>rcases c.neg z y x e with q | q <;> simp_all
theorem Cm.irr (c:Cm prog w A s kd P lt) {x:Hf}:lt x x=false:=by
 cases e:lt x x with
 | false=>rfl
 | true=>have:=c.asym x x e;rw [e] at this;exact this
theorem az {σ α:Type} {M:LS} {m:StateT σ Sem α} {st : σ} {Q Q' : α -> σ -> Prop} (h:wpS M A E s m Q st) (q:∀ a st',Q a st'->Q' a st'):wpS M A E s m Q' st :=
 IK h (fun a s' z=>⟨z.1,q _ _ z.2⟩) fun _ _ z=>z
end
noncomputable abbrev CB:=Bool->Hf->Array Hf->Nat->Nat->Nat->StateT IC Sem (Option Nat)
noncomputable abbrev CC:=Array Hf->Array Hf->StateT IC Sem (Array Hf)
noncomputable def bey (lt:Hf->Hf->Bool) (left:Bool) (key x:Hf):Bool:=if left=true then lt x key else !(lt key x)
structure Same (st st':IC):Prop where
 arr:Ii st'=Ii st
 kind:Jh st'=Jh st
 pend:Hw st'=Hw st
 fail:K1 st'=K1 st
def gY (prog:HB) (w:HX) (A:I0) (E:hH->tv->Prop) (s:tv) (kd:LF) (P:Hf->Prop) (lt:Hf->Hf->Bool) (g:CB):Prop :=
 ∀ (left:Bool) (key:Hf) (arr:Array Hf) (L xs R:List Hf) (base n hint:Nat) (st:IC) (Q:Option Nat->IC->Prop),Jh st=kd->P key->arr.toList=L++xs++R->base=L.length->n=xs.length->(∀ x∈xs,P x)->hint < n ->
  xs.Pairwise (fun x y=>lt y x=false) ->
  (∀ X Y,xs=X++Y->(∀ x∈X,bey lt left key x=true)->(∀ x∈Y,bey lt left key x=false)->Q (some X.length) st) ->
  wpS (Hx prog w) A E s (g left key arr base n hint) Q st
def gZ (prog:HB) (w:HX) (A:I0) (E:hH->tv->Prop) (s:tv) (kd:LF) (P:Hf->Prop) (lt:Hf->Hf->Bool) (m:CC):Prop :=
 ∀ (a b:Array Hf) (st:IC) (Q:Array Hf->IC->Prop),Jh st=kd->(∀ x∈a.toList,P x)->(∀ x∈b.toList,P x)->0 < a.size->0 < b.size ->
  a.toList.Pairwise (fun x y=>lt y x=false)->b.toList.Pairwise (fun x y=>lt y x=false)->(∀ x y,a[0]? = some x->b[0]? = some y->lt x y=false)->(∀ x y,a[a.size - 1]? = some x->b[b.size - 1]? = some y->lt x y=false) ->
  (∀ r st',r.toList.Perm (a.toList++b.toList)->r.toList.Pairwise (fun x y=>lt y x=false)->Same st st'->Q r st') ->
  wpS (Hx prog w) A E s (m a b) Q st
section
variable {prog:HB} {w:HX} {A:I0} {E:hH->tv->Prop} {s:tv} {kd:LF} {P:Hf->Prop} {lt:Hf->Hf->Bool}
theorem gj (c:Cm prog w A s kd P lt) {left:Bool} {key x:Hf} {arr:Array Hf} {j:Nat} {st:IC} {Q:Option Bool->IC->Prop} (z:Jh st=kd) (hx:P key) (B:P x) (e:arr[j]? = some x) (q:Q (some (bey lt left key x)) st) :
 wpS (Hx prog w) A E s (do
  let x <- elem' arr j
  if left=true then lt' x key else do
   let r <- lt' key x
   pure (Qp (fun x=>!x) r)) Q st:=by
 refine Hc (ay e ?_)
 cases left with
 | true=>exact jQ c z B hx q
 | false=>exact Hc (jQ c z hx B (ab q))
theorem oC (c:Cm prog w A s kd P lt) {left:Bool} {key x y:Hf} (h:lt y x=false) (j:bey lt left key y=true):bey lt left key x=true:=by
 unfold bey at j ⊢
 cases left with
 | true =>
   rw [if_pos rfl] at j ⊢
   rcases c.neg y x key j with q | q
   ·rw [h] at q;cases q
   ·exact q
 | false =>
   simp at j ⊢
   cases e:lt key x with
   | false=>rfl
   | true =>
     rcases c.neg key y x e with q | q
     ·rw [j] at q;cases q
     ·rw [h] at q;cases q
structure Gal (lt:Hf->Hf->Bool) (left:Bool) (key:Hf) (xs:List Hf) (lo hi:Nat):Prop where
 le:lo<=hi
 len:hi<=xs.length
 up:∀ i x,i < lo->xs[i]? = some x->bey lt left key x=true
 dn:∀ i x,hi<=i->xs[i]? = some x->bey lt left key x=false
theorem fe {xs:List Hf} {R:Hf->Hf->Prop} (h:xs.Pairwise R) {i j:Nat} {x y:Hf} (q:i < j) (hx:xs[i]? = some x) (z:xs[j]? = some y):R x y:=by
 obtain ⟨h1,B⟩:=Hy.mp hx;obtain ⟨h2,F⟩:=Hy.mp z;rw [<- B,<- F];exact List.pairwise_iff_getElem.mp h i j h1 h2 q
theorem hJ (c:Cm prog w A s kd P lt) {left:Bool} {key:Hf} {xs:List Hf} (h:xs.Pairwise (fun x y=>lt y x=false)) {j:Nat} {y:Hf} (q:xs[j]? = some y) (z:bey lt left key y=true):∀ i x,i < j+1->xs[i]? = some x->bey lt left key x=true:=by
 intro i x hi hx
 by_cases e:i=j
 ·subst e;rw [hx] at q;cases q;exact z
 ·exact oC c (fe h (by lia) hx q) z
theorem i3 (c:Cm prog w A s kd P lt) {left:Bool} {key:Hf} {xs:List Hf} (h:xs.Pairwise (fun x y=>lt y x=false)) {j:Nat} {y:Hf} (z:xs[j]? = some y) (B:bey lt left key y=false):∀ i x,j<=i->xs[i]? = some x->bey lt left key x=false:=by
 intro i x hi hx
 by_cases e:i=j
 ·subst e;rw [hx] at z;cases z;exact B
 ·cases q:bey lt left key x with
  | false=>rfl
  | true=>have:=oC c (fe h (by lia) z hx) q;rw [B] at this;cases this
theorem Gal.out {left:Bool} {key:Hf} {xs:List Hf} {k:Nat} (g:Gal lt left key xs k k):∃ X Y,xs=X++Y/\X.length=k/\(∀ x∈X,bey lt left key x=true)/\(∀ x∈Y,bey lt left key x=false):=by
 refine ⟨xs.take k,xs.drop k,(JG k xs).symm,by rw [HR];exact LL g.len,fun x hx=>?_,fun x hx=>?_⟩
 ·obtain ⟨i,hi,e⟩:=Jb.mp hx;rw [HR] at hi;exact g.up i x (by lia) (by rw [List.getElem_take] at e;rw [<- e];exact D0 _)
 ·obtain ⟨i,hi,e⟩:=Jb.mp hx;rw [My] at hi;refine g.dn (k+i) x (by lia) ?_
  rw [List.getElem_drop] at e;rw [<- e];exact D0 _
noncomputable abbrev Ord (lt:Hf->Hf->Bool) (l:List Hf):Prop:=l.Pairwise fun x y=>lt y x=false
theorem oD {out X A' B:List Hf} (h1:Ord lt (out++(X++A'))) (h2:Ord lt (out++B)) (h:∀ x∈X,∀ y∈B,lt y x=false):Ord lt ((out++X)++A')/\Ord lt ((out++X)++B):=by
 refine ⟨by rw [Ho];exact h1,?_⟩
 rw [Ho];obtain ⟨j,q,F⟩:=Hb.mp h1;obtain ⟨O,p2,G⟩:=Hb.mp h2;obtain ⟨J,U,Y⟩:=Hb.mp q;refine Hb.mpr ⟨j,Hb.mpr ⟨J,p2,h⟩,fun x hx y L=>?_⟩
 rcases Hu.mp L with z | z
 ·exact F x hx y (Iv _ z)
 ·exact G x hx y z
structure ML (lt:Hf->Hf->Bool) (la lb out:List Hf) (ia ib:Nat):Prop where
 pa:Ord lt (out++la.drop ia)
 pb:Ord lt (out++lb.drop ib)
 pm:(out++(la.drop ia++lb.drop ib)).Perm (la++lb)
theorem qG (c:Cm prog w A s kd P lt) {l:List Hf} {i:Nat} {x y:Hf} (h:Ord lt (l.drop i)) (j:l[i]? = some y) (hx:lt y x=false):∀ z∈l.drop i,lt z x=false:=by
 obtain ⟨hi,e⟩:=Hy.mp j;rw [IZ hi,e] at h ⊢;intro z hz
 rcases He.mp hz with q | q
 ·rw [q];exact hx
 ·exact c.le_trans hx ((LN.mp h).1 z q)
theorem dX {l X Y:List Hf} {i:Nat} (e:l.drop i=X++Y):l.drop (i+X.length)=Y:=by
 rw [<- NP,e,List.drop_left]
theorem ML.galA (c:Cm prog w A s kd P lt) {la lb out X Y:List Hf} {ia ib:Nat} {y:Hf} (m:ML lt la lb out ia ib) (e:la.drop ia=X++Y) (j:lb[ib]? = some y) (h:∀ x∈X,lt y x=false):ML lt la lb (out++X) (ia+X.length) ib:=by
 have p2:=(Hb.mp m.pb).2.1;have q:=oD (X:=X) (A':=Y) (by rw [<- e];exact m.pa) m.pb fun x hx=>qG c p2 j (h x hx)
 refine ⟨by rw [dX e];exact q.1,q.2,?_⟩
 rw [dX e];refine Kd.trans (L4 ?_) m.pm;rw [e];simp
theorem ML.galB (c:Cm prog w A s kd P lt) {la lb out X Y:List Hf} {ia ib:Nat} {y:Hf} (m:ML lt la lb out ia ib) (e:lb.drop ib=X++Y) (j:la[ia]? = some y) (h:∀ x∈X,lt y x=false):ML lt la lb (out++X) ia (ib+X.length):=by
 have p2:=(Hb.mp m.pa).2.1;have q:=oD (X:=X) (A':=Y) (by rw [<- e];exact m.pb) m.pa fun x hx=>qG c p2 j (h x hx)
 refine ⟨q.2,by rw [dX e];exact q.1,?_⟩
 rw [dX e];refine Kd.trans ?_ m.pm;rw [e,Ho];refine Iz _ ?_;rw [<- Ho,<- Ho];exact IH _ Lc
theorem dY {l:List Hf} {i:Nat} {x:Hf} (h:l[i]? = some x):l.drop i=[x]++l.drop (i+1):=by
 obtain ⟨hi,e⟩:=Hy.mp h;rw [IZ hi,e];rfl
theorem ML.pushA (c:Cm prog w A s kd P lt) {la lb out:List Hf} {ia ib:Nat} {x y:Hf} (m:ML lt la lb out ia ib) (hx:la[ia]? = some x) (j:lb[ib]? = some y) (h:lt y x=false):ML lt la lb (out++[x]) (ia+1) ib :=
 m.galA c (dY hx) j (by simpa using h)
theorem ML.pushB (c:Cm prog w A s kd P lt) {la lb out:List Hf} {ia ib:Nat} {x y:Hf} (m:ML lt la lb out ia ib) (hx:la[ia]? = some x) (j:lb[ib]? = some y) (h:lt x y=false):ML lt la lb (out++[y]) ia (ib+1) :=
 m.galB c (dY j) hx (by simpa using h)
def Res (lt:Hf->Hf->Bool) (la lb r:List Hf):Prop:=r.Perm (la++lb)/\Ord lt r
theorem ML.fin {la lb out:List Hf} {ia ib:Nat} (m:ML lt la lb out ia ib) (h:lb.length<=ib):Res lt la lb (out++la.drop ia++lb.drop ib):=by
 rw [K8 h,IU];refine ⟨?_,m.pa⟩;have:=m.pm;rw [K8 h,IU] at this;exact this
theorem ML.finE {la lb out:List Hf} {ia ib:Nat} (m:ML lt la lb out ia ib) (h:la.length<=ia):Res lt la lb (out++la.drop ia++lb.drop ib):=by
 rw [K8 h,IU];refine ⟨?_,m.pb⟩;have:=m.pm;rw [K8 h,Na] at this;exact this
theorem ML.finA {la lb out:List Hf} {ia ib:Nat} (m:ML lt la lb out ia ib) (h:∀ x∈lb,∀ y∈la.drop ia,lt y x=false):Res lt la lb (out++lb.drop ib++la.drop ia):=by
 refine ⟨?_,?_⟩
 ·refine Kd.trans ?_ m.pm;rw [Ho];exact Iz _ Lc
 ·obtain ⟨F,q,B⟩:=Hb.mp m.pa;refine Hb.mpr ⟨m.pb,q,fun x hx y j=>?_⟩
  rcases Hu.mp hx with z | z
  ·exact B x z y j
  ·exact h x (N5 z) y j
theorem ML.size {la lb out:List Hf} {ia ib:Nat} (m:ML lt la lb out ia ib) (j:ia<=la.length) (q:ib<=lb.length):out.length=ia+ib:=by
 have:=m.pm.length_eq;simp only [H9,My] at this;lia
theorem ax {a:Array Hf} {i:Nat} (h:i < a.size):∃ x,a[i]? = some x/\a.toList[i]? = some x/\x∈a.toList:=by
 refine ⟨a[i],HC h,?_,Array.getElem_mem_toList h⟩;rw [Hz];exact HC h
theorem bD {a:Array Hf} {i:Nat}:(a.extract i).toList=a.toList.drop i:=by
 rw [JQ];simp only [Ml];exact Mm (by simp)
theorem AK {a:Array Hf} {i:Nat} {X Y:List Hf} (e:a.toList.drop i=X++Y):(a.extract i (i+X.length)).toList=X:=by
 rw [JQ];simp [Ml,e]
theorem Same.refl {st:IC}:Same st st:=⟨rfl,rfl,rfl,rfl⟩
theorem Same.trans {a b c:IC} (h:Same a b) (g:Same b c):Same a c:=⟨g.arr.trans h.arr,g.kind.trans h.kind,g.pend.trans h.pend,g.fail.trans h.fail⟩
theorem lW {O Y A' B:List Hf} (h1:Ord lt (A'++(Y++O))) (h2:Ord lt (B++O)) (h:∀ y∈Y,∀ x∈B,lt y x=false):Ord lt (B++(Y++O)):=by
 obtain ⟨J,j,L⟩:=Hb.mp h1;obtain ⟨q,p2,F⟩:=Hb.mp h2;refine Hb.mpr ⟨q,j,fun x hx y G=>?_⟩
 rcases Hu.mp G with z | z
 ·exact h y z x hx
 ·exact F x hx y z
structure MH (lt:Hf->Hf->Bool) (la lb out:List Hf) (na nb:Nat):Prop where
 pa:Ord lt (la.take na++out.reverse)
 pb:Ord lt (lb.take nb++out.reverse)
 pm:(la.take na++lb.take nb++out.reverse).Perm (la++lb)
theorem i4 (c:Cm prog w A s kd P lt) {l:List Hf} {n:Nat} {x y:Hf} (h:Ord lt (l.take n)) (F : 0 < n) (B:l[n - 1]? = some y) (hx:lt x y=false):∀ z∈l.take n,lt x z=false:=by
 intro z hz;obtain ⟨i,hi,e⟩:=Jb.mp hz;have j:(l.take n)[i]? = some z:=by rw [<- e];exact D0 hi
 have q:(l.take n)[n - 1]? = some y:=by rw [Lz (by lia)];exact B
 rw [HR] at hi
 by_cases hin:i=n - 1
 ·subst hin;rw [q] at j;cases j;exact hx
 ·exact c.le_trans (fe h (by lia) j q) hx
theorem dZ {l X Y:List Hf} {n:Nat} (e:l.take n=X++Y):l.take X.length=X:=by
 have h:X.length<=n:=by
  have:=congrArg MX e;simp only [HR,H9] at this;lia
 have h2:(l.take n).take X.length=X:=by rw [e,List.take_left]
 rw [List.take_take,LL h] at h2;exact h2
theorem MH.galA (c:Cm prog w A s kd P lt) {la lb out X Y:List Hf} {na nb:Nat} {y:Hf} (m:MH lt la lb out na nb) (e:la.take na=X++Y) (j : 0 < nb) (z:lb[nb - 1]? = some y) (h:∀ x∈Y,lt x y=false):MH lt la lb (out++Y.reverse) X.length nb:=by
 have p2:=(Hb.mp m.pb).1;have h1:Ord lt (X++(Y++out.reverse)):=by rw [<- Ho,<- e];exact m.pa
 have q:=lW h1 m.pb fun x hx=>i4 c p2 j z (h x hx);refine ⟨by rw [dZ e];simpa using h1,by simpa using q,?_⟩
 rw [dZ e];refine Kd.trans ?_ m.pm;rw [e];simp only [List.reverse_append,Pp,Ho];refine Iz _ ?_;rw [<- Ho,<- Ho];exact IH _ Lc
theorem MH.galB (c:Cm prog w A s kd P lt) {la lb out X Y:List Hf} {na nb:Nat} {y:Hf} (m:MH lt la lb out na nb) (e:lb.take nb=X++Y) (j : 0 < na) (z:la[na - 1]? = some y) (h:∀ x∈Y,lt x y=false):MH lt la lb (out++Y.reverse) na X.length:=by
 have p2:=(Hb.mp m.pa).1;have h1:Ord lt (X++(Y++out.reverse)):=by rw [<- Ho,<- e];exact m.pb
 have q:=lW h1 m.pa fun x hx=>i4 c p2 j z (h x hx);refine ⟨by simpa using q,by rw [dZ e];simpa using h1,?_⟩
 rw [dZ e];refine Kd.trans (L4 ?_) m.pm;rw [e];simp
theorem cJ {l:List Hf} {n:Nat} {x:Hf} (j : 0 < n) (h:l[n - 1]? = some x):l.take n=l.take (n - 1)++[x]:=by
 obtain ⟨k,rfl⟩:∃ k,n=k+1:=⟨n - 1,by lia⟩
 rw [NQ] at h ⊢;rw [QP,h];rfl
theorem qH {l:List Hf} {n:Nat} {x:Hf} (j : 0 < n) (h:l[n - 1]? = some x):(l.take (n - 1)).length=n - 1:=by
 obtain ⟨hi,_⟩:=Hy.mp h;rw [HR];lia
theorem MH.pushA (c:Cm prog w A s kd P lt) {la lb out:List Hf} {na nb:Nat} {x y:Hf} (m:MH lt la lb out na nb) (j : 0 < na) (z : 0 < nb) (hx:la[na - 1]? = some x) (B:lb[nb - 1]? = some y) (h:lt x y=false):MH lt la lb (out++[x]) (na - 1) nb:=by
 have q:=m.galA c (cJ j hx) z B (by simpa using h)
 rw [qH j hx] at q;simpa using q
theorem MH.pushB (c:Cm prog w A s kd P lt) {la lb out:List Hf} {na nb:Nat} {x y:Hf} (m:MH lt la lb out na nb) (B : 0 < na) (j : 0 < nb) (hx:la[na - 1]? = some x) (z:lb[nb - 1]? = some y) (h:lt y x=false):MH lt la lb (out++[y]) na (nb - 1):=by
 have q:=m.galB c (cJ j z) B hx (by simpa using h)
 rw [qH j z] at q;simpa using q
theorem MH.fin {la lb out:List Hf} {na nb:Nat} (m:MH lt la lb out na nb) (h:na=0∨nb=0):Res lt la lb (la.take na++lb.take nb++out.reverse):=by
 refine ⟨m.pm,?_⟩
 rcases h with rfl | rfl
 ·simpa using m.pb
 ·simpa using m.pa
theorem MH.finB {la lb out:List Hf} {na nb:Nat} (m:MH lt la lb out na nb) (h:∀ x∈lb.take nb,∀ y∈la,lt y x=false):Res lt la lb (lb.take nb++la.take na++out.reverse):=by
 refine ⟨Kd.trans (IH _ Lc) m.pm,?_⟩;obtain ⟨j,F,q⟩:=Hb.mp m.pb;rw [Ho];refine Hb.mpr ⟨j,m.pa,fun x hx y B=>?_⟩
 rcases Hu.mp B with z | z
 ·exact h x hx y (N6 z)
 ·exact q x hx y z
theorem MH.size {la lb out:List Hf} {na nb:Nat} (m:MH lt la lb out na nb) (j:na<=la.length) (q:nb<=lb.length):out.length+na+nb=la.length+lb.length:=by
 have:=m.pm.length_eq;simp only [H9,HR,PY] at this;lia
theorem eK {a:Array Hf}:a.toList.take a.size=a.toList:=Mm (by simp)
theorem b6 {a:Array Hf} {i:Nat}:(a.extract 0 i).toList=a.toList.take i:=by
 rw [JQ];simp [Ml]
theorem y7 {a:Array Hf} {n:Nat} {X Y:List Hf} (e:a.toList.take n=X++Y):(a.extract X.length n).toList=Y:=by
 rw [JQ];simp only [Ml];rw [<- List.drop_take,e,List.drop_left]
theorem y8:∀ (m old L R:List Hf) (a:Array Hf),a.toList=L++old++R->m.length=old.length->(MA (fun a x=>a.setIfInBounds (L.length+x.snd) x.fst) a m.zipIdx).toList=L++m++R:=by
 have g:∀ (m old L R:List Hf) (k:Nat) (a:Array Hf),a.toList=L++old++R->m.length=old.length -> ∀ b:Nat,b+k=L.length->(MA (fun a x=>a.setIfInBounds (b+x.snd) x.fst) a (m.zipIdx k)).toList=L++m++R:=by
  intro m
  induction m with
  | nil =>
    intro old L R k a e h b j;have:old=[]:=Ia.mp h.symm;subst this;simpa using e
  | cons x m ih =>
    intro old L R k a e h b j
    cases old with
    | nil=>simp at h
    | cons y old =>
      rw [Om,LJ];have q:(a.setIfInBounds (b+k) x).toList=(L++[x])++old++R:=by
       rw [NR,e,j];simp
      have:=ih old (L++[x]) R (k+1) _ q (by simpa using h) b (by simp;lia)
      rw [this];simp
 exact fun m old L R a e h=>g m old L R 0 a e h L.length (by lia)
theorem ae {σ α:Type} {M:LS} {p:Prop} [Decidable p] {j q:StateT σ Sem α} {st : σ} {Q : α -> σ -> Prop} (h1:p->wpS M A E s j Q st) (h2 : ¬p->wpS M A E s q Q st):wpS M A E s (if p then j else q) Q st:=by
 split
 ·next h=>exact h1 h
 ·next h=>exact h2 h
theorem ML.cut {a out:Array Hf} {la lb X Y:List Hf} {i j n:Nat} (m:ML lt la lb (out.toList++X) i j) (e:a.toList.drop n=X++Y):ML lt la lb (out++a.extract n (n+X.length)).toList i j:=by
 rw [Hm,AK e];exact m
theorem MH.cut {a out:Array Hf} {la lb X Y:List Hf} {i j n:Nat} (m:MH lt la lb (out.toList++Y.reverse) i j) (e:a.toList.take n=X++Y):MH lt la lb (out++(a.extract X.length n).reverse).toList i j:=by
 rw [Hm,Ie,y7 e];exact m
theorem uN {σ α:Type} {M:LS} {m:StateT σ Sem α} {st : σ} {Q : α -> σ -> Prop} {P : σ -> Prop} (j:P st) (h:∀ st',P st'->wpS M A E s m Q st'):wpS M A E s m Q st:=h st j
theorem zt {σ α:Type} {M:LS} {m:StateT σ Sem α} {st : σ} {Q : α -> σ -> Prop} (h:∀ Q' : α -> σ -> Prop,(∀ a st',Q a st'->Q' a st')->wpS M A E s m Q' st):wpS M A E s m Q st:=h Q fun _ _ h=>h
theorem zu {key x:Hf} (h:bey lt false key x=true):lt key x=false:=by simpa [bey] using h
theorem uO {key x:Hf} (h:bey lt false key x=false):lt key x=true:=by simpa [bey] using h
theorem zv {key x:Hf} (h:bey lt true key x=true):lt x key=true:=by simpa [bey] using h
theorem uP {key x:Hf} (h:bey lt true key x=false):lt x key=false:=by simpa [bey] using h
theorem oE {l X Y:List Hf} {i:Nat} {x:Hf} (e:l.drop i=X++Y) (h:l[i+X.length]? = some x):x∈Y:=by
 rw [<- dX e,dY h];simp
theorem oF {l X Y:List Hf} {n:Nat} {x:Hf} (e:l.take n=X++Y) (h0 : 0 < X.length) (h:l[X.length - 1]? = some x):x∈X:=by
 have:=cJ h0 h;rw [dZ e] at this;rw [this];simp
theorem oG {a:Array Hf} {X Y:List Hf} {i:Nat} (e:a.toList.drop i=X++Y):X.length<=a.size - i:=by
 have:=congrArg MX e;simp at this;lia
theorem lZ {a:Array Hf} {X Y:List Hf} {n:Nat} (e:a.toList.take n=X++Y) (h:n<=a.size):X.length+Y.length=n:=by
 have:=congrArg MX e;simp at this;lia
theorem fG {a:Array Hf} {n:Nat} (h:n<=a.size):n=(a.toList.take n).length:=by simp;lia
theorem ML.finR {a b out:Array Hf} {ia ib:Nat} (m:ML lt a.toList b.toList out.toList ia ib) (h:b.size<=ib):Res lt a.toList b.toList (out++a.extract ia++b.extract ib).toList:=by
 have:=m.fin (by simpa using h)
 simpa only [Hm,bD] using this
theorem ML.finS {a b out:Array Hf} {ia ib:Nat} (m:ML lt a.toList b.toList out.toList ia ib) (h:a.size<=ia):Res lt a.toList b.toList (out++a.extract ia++b.extract ib).toList:=by
 have:=m.finE (by simpa using h)
 simpa only [Hm,bD] using this
theorem ML.finL {a b out:Array Hf} {ia ib:Nat} (m:ML lt a.toList b.toList out.toList ia ib) (h:∀ x∈b.toList,∀ y∈a.toList.drop ia,lt y x=false):Res lt a.toList b.toList (out++b.extract ib++a.extract ia).toList:=by
 have:=m.finA h;simpa only [Hm,bD] using this
theorem MH.finR {a b out:Array Hf} {na nb:Nat} (m:MH lt a.toList b.toList out.toList na nb) (h:∀ x∈b.toList.take nb,∀ y∈a.toList,lt y x=false):Res lt a.toList b.toList (b.extract 0 nb++a.extract 0 na++out.reverse).toList:=by
 have:=m.finB h;simpa only [Hm,Ie,b6] using this
theorem MH.finL {a b out:Array Hf} {na nb:Nat} (m:MH lt a.toList b.toList out.toList na nb) (h:na=0∨nb=0):Res lt a.toList b.toList (a.extract 0 na++b.extract 0 nb++out.reverse).toList:=by
 have:=m.fin h;simpa only [Hm,Ie,b6] using this
theorem E2 (c:Cm prog w A s kd P lt) :
 ∃ (g:CB) (lo hi:CC),(gY prog w A E s kd P lt g/\(gY prog w A E s kd P lt g->gZ prog w A E s kd P lt lo)/\(gY prog w A E s kd P lt g->gZ prog w A E s kd P lt hi))/\(gY prog w A E s kd P lt g->gZ prog w A E s kd P lt lo->gZ prog w A E s kd P lt hi ->
  ∀ (i sa na pa sb nb pb:Nat) (L r1 r2 R:List Hf) (st:IC) (Q:Bool->IC->Prop),Jh st=kd->K1 st=none->(Hw st)[i]? = some (sa,na,pa)->(Hw st)[i+1]? = some (sb,nb,pb) ->
   (Ii st).toList=L++(r1++r2)++R->sa=L.length->na=r1.length->sb=L.length+r1.length->nb=r2.length->r1≠[]->r2≠[]->(∀ x∈r1,P x)->(∀ x∈r2,P x)->Ord lt r1->Ord lt r2 ->
   (∀ m st',(Ii st').toList=L++m++R->m.Perm (r1++r2)->Ord lt m->Jh st'=kd->K1 st'=none->Hw st'=((Hw st).setIfInBounds i (sa,na+nb,pa)).eraseIdxIfInBounds (i+1)->Q true st') ->
   wpS (Hx prog w) A E s (Sf i) Q st):=by
 apply QR;apply QR;apply QR;apply MB
 rotate_left
 ·intro hg GG GH i sa na pa sb nb pb L r1 r2 R st Q hk hf h1 h2 Z G7 Fx G8 FN GI GJ Gi Gj o1 o2 q;unfold Sf;refine Hc (LK ?_);rw [h1,h2];dsimp only;refine Hc (AJ ?_);obtain ⟨y0,t2,rfl⟩:∃ y t,r2=y::t:=by cases r2 with | nil=>exact absurd rfl GJ | cons y t=>exact ⟨y,t,rfl⟩
  have hz:(Ii st)[sb]? = some y0:=by
   rw [<- Hz,Z,G8];simp
  refine Hc (ay hz ?_);refine Hc (hg false y0 (Ii st) L r1 (y0::t2++R) sa na 0 _ _ hk (Gj _ (by simp)) (by rw [Z];simp) G7 Fx Gi (by rw [Fx];exact Il.mpr GI) o1 fun X Y e hX hY=>?_)
  dsimp only;have lX:∀ x∈X,lt y0 x=false:=fun x hx=>by have:=hX x hx;simpa [bey] using this
  have lY:∀ x∈Y,lt x y0=false:=fun x hx=>c.asym _ _ (by have:=hY x hx;simpa [bey] using this)
  have hlen:na - X.length=Y.length:=by rw [Fx,e];simp
  subst e;obtain ⟨oX,oY,oXY⟩:=Hb.mp o1;have oy:=LN.mp o2;have G9:∀ x∈X,∀ z∈y0::t2,lt z x=false:=fun x hx z hz=>by
   rcases He.mp hz with h | h
   ·rw [h];exact lX x hx
   ·exact c.le_trans (lX x hx) (oy.1 z h)
  refine ae (fun h=>?_) (fun h=>?_)
  ·have Ga:Y=[]:=Ia.mp (by rw [<- hlen];simpa using h)
   subst Ga;refine ab (q (X++(y0::t2)) _ (by simpa using Z) (by simp) ?_ hk hf rfl)
   exact Hb.mpr ⟨oX,o2,G9⟩
  ·have Ga : 0 < Y.length:=by
    have:na - X.length≠0:=by simpa using h
    lia
   obtain ⟨Y0,xl,rfl⟩:∃ Y0 xl,Y=Y0++[xl]:=⟨Y.dropLast,Y.getLast (by intro z;rw [z] at Ga;simp at Ga),(JX _).symm⟩
   have GK:(Ii st)[sa+X.length+(na - X.length) - 1]? = some xl:=by
    rw [<- Hz,Z,hlen,G7];simp only [Ho,H9,J7];rw [D1 (by lia),D1 (by lia),D1 (by lia)]
    rw [show L.length+X.length+(Y0.length+1) - 1 - L.length - X.length - Y0.length=0 by lia];rfl
   refine Hc (ay GK ?_);refine Hc (hg true xl (Ii st) (L++(X++(Y0++[xl]))) (y0::t2) R sb nb (nb - 1) _ _ hk (Gi _ (by simp)) (by rw [Z];simp) (by rw [G8];simp) FN Gj (by rw [FN];simp) o2 fun X2 Y2 e2 Fy Fz=>?_)
   dsimp only;have GL:∀ x∈X2,lt xl x=false:=fun x hx=>c.asym _ _ (by have:=Fy x hx;simpa [bey] using this)
   have Gu:∀ x∈Y2,lt x xl=false:=fun x hx=>by have:=Fz x hx;simpa [bey] using this
   have GM:Ord lt (X2++Y2):=by rw [<- e2];exact o2
   obtain ⟨GN,GO,Gv⟩:=Hb.mp GM;obtain ⟨GX,_,oYl⟩:=Hb.mp oY;have lYY:∀ x∈Y0++[xl],∀ z∈Y2,lt z x=false:=fun x hx z hz=>by
    rcases Hu.mp hx with h | h
    ·exact c.le_trans (oYl x h xl (by simp)) (Gu z hz)
    ·simp at h;subst h;exact Gu z hz
   refine ae (fun h=>?_) (fun h=>?_)
   ·have Fr:X2=[]:=Ia.mp (by simpa using h)
    subst Fr;have e2:y0::t2=Y2:=by simpa using e2
    refine ab (q (X++(Y0++[xl])++(y0::t2)) _ (by simpa using Z) (NS _) ?_ hk hf rfl)
    refine Hb.mpr ⟨o1,o2,fun x hx z hz=>?_⟩
    rcases Hu.mp hx with g | g
    ·exact G9 x g z hz
    ·exact lYY x g z (by rw [<- e2];exact hz)
   ·have Fr:X2≠[]:=fun z=>h (by rw [z];rfl)
    have hx:((Ii st).extract (sa+X.length) sb).toList=Y0++[xl]:=by
     rw [JQ,Z,G7,G8];simp only [Ml];have e1:(L++(X++(Y0++[xl])++y0::t2)++R).drop (L.length+X.length)=(Y0++[xl])++(y0::t2++R):=by
      rw [<- NP];simp
     rw [e1,show L.length+(X++(Y0++[xl])).length - (L.length+X.length)=(Y0++[xl]).length by simp only [H9];lia,List.take_left]
    have hy:((Ii st).extract sb (sb+X2.length)).toList=X2:=by
     rw [JQ,Z,G8];simp only [Ml];have e1:(L++(X++(Y0++[xl])++y0::t2)++R).drop (L.length+(X++(Y0++[xl])).length)=(y0::t2)++R:=by
      rw [<- NP];simp
     rw [e1,e2];simp
    have G:∀ (r:Array Hf) (EV:IC),r.toList.Perm ((Y0++[xl])++X2)->Ord lt r.toList->Same (PyProof.Rows.SortSt.mk' (Jh st) (Ii st) (((Hw st).setIfInBounds i (sa,na+nb,pa)).eraseIdxIfInBounds (i+1)) (gallopOf st) (K1 st)) EV -> ∀ ES:IC,Ii ES=MA (fun a x=>a.setIfInBounds (sa+X.length+x.snd) x.fst) (Ii EV) r.toList.zipIdx->Jh ES=Jh EV->K1 ES=K1 EV->Hw ES=Hw EV->Q (K1 ES).isNone ES:=by
     intro r EV hp ho hs ES g1 g2 g3 g4;have Gw:K1 ES=none:=g3.trans (hs.fail.trans hf);rw [Gw];refine q (X++r.toList++Y2) ES ?_ ?_ ?_ (g2.trans (hs.kind.trans hk)) Gw (g4.trans hs.pend)
     ·rw [g1,hs.arr];have e3:(Ii st).toList=(L++X)++((Y0++[xl])++X2)++(Y2++R):=by
       rw [Z,e2];simp
      rw [show sa+X.length=(L++X).length by rw [G7];simp]
      rw [y8 _ _ _ _ _ e3 (hp.length_eq)];simp
     ·rw [e2];refine Kd.trans (IH _ (Iz _ hp)) ?_;simp
     ·refine Hb.mpr ⟨Hb.mpr ⟨oX,ho,fun x hx z hz=>?_⟩,GO,fun x hx z hz=>?_⟩
      ·rcases Hu.mp (hp.mem_iff.mp hz) with g | g
       ·exact oXY x hx z g
       ·exact G9 x hx z (by rw [e2];exact Iv _ g)
      ·rcases Hu.mp hx with g | g
       ·exact G9 x g z (by rw [e2];exact HD _ hz)
       ·rcases Hu.mp (hp.mem_iff.mp g) with g | g
        ·exact lYY x g z hz
        ·exact Gv x g z hz
    have Gg:∀ x y,((Ii st).extract (sa+X.length) sb)[0]? = some x->((Ii st).extract sb (sb+X2.length))[0]? = some y->lt x y=false:=by
     intro x y Fj FO;rw [<- Hz,hx] at Fj;rw [<- Hz,hy] at FO;have FP:=HH Fj;have:y=y0:=by
      cases X2 with
      | nil=>exact absurd rfl Fr
      | cons z t=>simp at e2 FO;rw [<- FO,<- e2.1]
     subst this;exact lY x FP
    have preL:∀ x y,((Ii st).extract (sa+X.length) sb)[((Ii st).extract (sa+X.length) sb).size - 1]? = some x->((Ii st).extract sb (sb+X2.length))[((Ii st).extract sb (sb+X2.length)).size - 1]? = some y->lt x y=false:=by
     intro x y Fj FO;rw [<- Hz,<- HI,hx] at Fj;rw [<- Hz,<- HI,hy] at FO;have Fk:=HH FO;have:x=xl:=by simp at Fj;exact Fj.symm
     subst this;exact GL y Fk
    have Gx : 0 < ((Ii st).extract (sa+X.length) sb).size:=by rw [<- HI,hx];simp
    have Gy : 0 < ((Ii st).extract sb (sb+X2.length)).size:=by rw [<- HI,hy];exact Il.mpr Fr
    have Gz:∀ x∈((Ii st).extract (sa+X.length) sb).toList,P x:=by rw [hx];exact fun x hx=>Gi x (HD _ hx)
    have GA:∀ x∈((Ii st).extract sb (sb+X2.length)).toList,P x:=by rw [hy];exact fun x hx=>Gj x (by rw [e2];exact Iv _ hx)
    have GB:Ord lt ((Ii st).extract (sa+X.length) sb).toList:=by rw [hx];exact oY
    have GC:Ord lt ((Ii st).extract sb (sb+X2.length)).toList:=by rw [hy];exact GN
    refine ae (fun h=>?_) (fun h=>?_)
    ·refine Hc (GG _ _ _ _ hk Gz GA Gx Gy GB GC Gg preL fun r EV hp ho hs=>?_);rw [hx,hy] at hp;refine Hc (JJ ?_);refine Hc (LK ?_);exact ab (G r EV hp ho hs _ rfl rfl rfl rfl)
    ·refine Hc (GH _ _ _ _ hk Gz GA Gx Gy GB GC Gg preL fun r EV hp ho hs=>?_);rw [hx,hy] at hp;refine Hc (JJ ?_);refine Hc (LK ?_);exact ab (G r EV hp ho hs _ rfl rfl rfl rfl)
 apply MB
 ·intro left key arr L xs R base n hint st Q hk Fs Z Gk hn hP hh hs q;subst Gk hn;have at_:∀ i,i < xs.length -> ∃ x,xs[i]? = some x/\arr[L.length+i]? = some x/\P x:=by
   intro i hi;refine ⟨xs[i],D0 hi,?_,hP _ (JK _)⟩;rw [<- Hz,Z,Ho,D1 (by lia),Hq (by lia)]
   rw [show L.length+i - L.length=i by lia]
   exact D0 hi
  obtain ⟨x0,Fj,FQ,GP⟩:=at_ hint hh;refine Hc (gj c hk Fs GP FQ ?_)
  try dsimp only
  refine ae (fun hb=>?_) (fun hb=>?_)
  ·skip
   refine Hc (az (Q:=fun r st'=>st'=st /\ ∃ la ofs,r=(none,la,ofs)/\hint+la < xs.length/\la < ofs/\(∀ j x,j < hint+la+1->xs[j]? = some x->bey lt left key x=true)/\(xs.length<=hint+ofs∨∀ j x,hint+ofs<=j->xs[j]? = some x->bey lt left key x=false))
    (IA (fun i r st'=>st'=st /\ ∃ la ofs,r=(none,la,ofs)/\hint+la < xs.length/\la < ofs/\i+1<=ofs/\(∀ j x,j < hint+la+1->xs[j]? = some x->bey lt left key x=true)) ?_ ?_ ⟨rfl,0,1,rfl,hh,by lia,by lia,hJ c hs Fj hb⟩) ?_)
   ·rintro i r st' _ hi ⟨rfl,la,ofs,rfl,h1,h2,h3,h4⟩
    try dsimp only
    refine ae (fun FA=>?_) (fun FA=>?_)
    ·exact ab ⟨rfl,la,ofs,rfl,h1,h2,h4,.inl (by lia)⟩
    ·skip
     obtain ⟨x1,Fe,FB,FC⟩:=at_ (hint+ofs) (by lia)
     refine Hc (gj c hk Fs FC FB ?_)
     try dsimp only
     refine ae (fun hf=>?_) (fun hf=>?_)
     ·exact ab ⟨rfl,la,ofs,rfl,h1,h2,h4,.inr (i3 c hs Fe (by simpa using hf))⟩
     ·exact ab ⟨rfl,ofs,2*ofs+1,rfl,by lia,by lia,by lia,hJ c hs Fe (by simpa using hf)⟩
   ·rintro r st' ⟨rfl,la,ofs,rfl,h1,h2,h3,h4⟩;exact ⟨rfl,la,ofs,rfl,h1,h2,h4,.inl (by lia)⟩
   ·rintro r st' ⟨rfl,la,ofs,rfl,h1,h2,h3,h4⟩
    try dsimp only
    have hG:Gal lt left key xs (hint+la+1) (hint+min ofs (xs.length - hint)):=by
     refine ⟨by lia,by lia,h3,fun i x hi hx=>?_⟩
     have GY:i < xs.length:=(Hy.mp hx).1
     rcases h4 with h4 | h4
     ·lia
     ·exact h4 i x (by lia) hx
    generalize hint+la+1=lo at hG;generalize hint+min ofs (xs.length - hint)=hi at hG;refine Hc (az (Q:=fun r st''=>st''=st' /\ ∃ k,r=(none,k,k)/\Gal lt left key xs k k)
     (IA (fun i r st''=>st''=st' /\ ∃ lo hi,r=(none,lo,hi)/\Gal lt left key xs lo hi/\hi - lo+i<=xs.length) ?_ ?_ ⟨rfl,lo,hi,rfl,hG,by have:=hG.len;lia⟩) ?_)
    ·rintro i r st'' _ hi ⟨rfl,lo,hi,rfl,hG,hm⟩
     try dsimp only
     have hl:=hG.le;have FR:=hG.len;refine ae (fun FA=>?_) (fun FA=>?_)
     ·exact ab ⟨rfl,hi,by rw [show lo=hi by lia],by rw [show lo=hi by lia] at hG;exact hG⟩
     ·skip
      obtain ⟨x1,Fe,FB,FC⟩:=at_ (lo+(hi - lo) / 2) (by lia)
      refine Hc (gj c hk Fs FC FB ?_)
      try dsimp only
      refine ae (fun hf=>?_) (fun hf=>?_)
      ·exact ab ⟨rfl,_,_,rfl,⟨by lia,FR,hJ c hs Fe hf,hG.dn⟩,by lia⟩
      ·exact ab ⟨rfl,_,_,rfl,⟨by lia,by lia,hG.up,i3 c hs Fe (by simpa using hf)⟩,by lia⟩
    ·rintro r st'' ⟨rfl,lo,hi,rfl,hG,hm⟩;have hl:=hG.le;exact ⟨rfl,hi,by rw [show lo=hi by lia],by rw [show lo=hi by lia] at hG;exact hG⟩
    ·rintro r st'' ⟨rfl,k,rfl,hG⟩;obtain ⟨X,Y,e,hl,hX,hY⟩:=hG.out;subst hl;exact ab (q X Y e hX hY)
  ·skip
   refine Hc (az (Q:=fun r st'=>st'=st /\ ∃ la ofs,r=(none,la,ofs)/\la<=hint/\la < ofs/\(∀ j x,hint - la<=j->xs[j]? = some x->bey lt left key x=false)/\(hint < ofs∨∀ j x,j < hint - ofs+1->xs[j]? = some x->bey lt left key x=true))
    (IA (fun i r st'=>st'=st /\ ∃ la ofs,r=(none,la,ofs)/\la<=hint/\la < ofs/\i+1<=ofs/\(∀ j x,hint - la<=j->xs[j]? = some x->bey lt left key x=false)) ?_ ?_ ⟨rfl,0,1,rfl,by lia,by lia,by lia,i3 c hs Fj (by simpa using hb)⟩) ?_)
   ·rintro i r st' _ hi ⟨rfl,la,ofs,rfl,h1,h2,h3,h4⟩
    try dsimp only
    refine ae (fun FA=>?_) (fun FA=>?_)
    ·exact ab ⟨rfl,la,ofs,rfl,h1,h2,h4,.inl (by lia)⟩
    ·skip
     obtain ⟨x1,Fe,FB,FC⟩:=at_ (hint - ofs) (by lia)
     refine Hc (gj c hk Fs FC FB ?_)
     try dsimp only
     refine ae (fun hf=>?_) (fun hf=>?_)
     ·exact ab ⟨rfl,la,ofs,rfl,h1,h2,h4,.inr (hJ c hs Fe hf)⟩
     ·exact ab ⟨rfl,ofs,2*ofs+1,rfl,by lia,by lia,by lia,i3 c hs Fe (by simpa using hf)⟩
   ·rintro r st' ⟨rfl,la,ofs,rfl,h1,h2,h3,h4⟩;exact ⟨rfl,la,ofs,rfl,h1,h2,h4,.inl (by lia)⟩
   ·rintro r st' ⟨rfl,la,ofs,rfl,h1,h2,h3,h4⟩
    try dsimp only
    have hG:Gal lt left key xs (hint+1 - min ofs (hint+1)) (hint - la):=by
     refine ⟨by lia,by lia,fun i x hi hx=>?_,h3⟩
     rcases h4 with h4 | h4
     ·lia
     ·exact h4 i x (by lia) hx
    generalize hint+1 - min ofs (hint+1)=lo at hG;generalize hint - la=hi at hG;refine Hc (az (Q:=fun r st''=>st''=st' /\ ∃ k,r=(none,k,k)/\Gal lt left key xs k k)
     (IA (fun i r st''=>st''=st' /\ ∃ lo hi,r=(none,lo,hi)/\Gal lt left key xs lo hi/\hi - lo+i<=xs.length) ?_ ?_ ⟨rfl,lo,hi,rfl,hG,by have:=hG.len;lia⟩) ?_)
    ·rintro i r st'' _ hi ⟨rfl,lo,hi,rfl,hG,hm⟩
     try dsimp only
     have hl:=hG.le;have FR:=hG.len;refine ae (fun FA=>?_) (fun FA=>?_)
     ·exact ab ⟨rfl,hi,by rw [show lo=hi by lia],by rw [show lo=hi by lia] at hG;exact hG⟩
     ·skip
      obtain ⟨x1,Fe,FB,FC⟩:=at_ (lo+(hi - lo) / 2) (by lia)
      refine Hc (gj c hk Fs FC FB ?_)
      try dsimp only
      refine ae (fun hf=>?_) (fun hf=>?_)
      ·exact ab ⟨rfl,_,_,rfl,⟨by lia,FR,hJ c hs Fe hf,hG.dn⟩,by lia⟩
      ·exact ab ⟨rfl,_,_,rfl,⟨by lia,by lia,hG.up,i3 c hs Fe (by simpa using hf)⟩,by lia⟩
    ·rintro r st'' ⟨rfl,lo,hi,rfl,hG,hm⟩;have hl:=hG.le;exact ⟨rfl,hi,by rw [show lo=hi by lia],by rw [show lo=hi by lia] at hG;exact hG⟩
    ·rintro r st'' ⟨rfl,k,rfl,hG⟩;obtain ⟨X,Y,e,hl,hX,hY⟩:=hG.out;subst hl;exact ab (q X Y e hX hY)
 apply MB
 ·intro hg a b st Q hk FE FF Gb Gc sa sb FS FT q;refine Hc (cI ?_);obtain ⟨b0,Gd,FU,GR⟩:=ax Gc;obtain ⟨a0,FQ,FL,GS⟩:=ax Gb;refine Hc (ay Gd ?_);have m0:ML lt a.toList b.toList [] 0 0:=⟨sa,sb,by simp⟩
  have m1:ML lt a.toList b.toList [b0] 0 1:=m0.pushB c FL FU (FS a0 b0 FQ Gd);have Fl:∀ x∈b.toList,∀ (i:Nat),i+1=a.size -> ∀ y∈a.toList.drop i,lt y x=false:=by
   intro x hx i hi y hy;obtain ⟨aL,Gf,FV,_⟩:=ax (a:=a) (i:=i) (by lia)
   obtain ⟨bL,Gm,FM,_⟩:=ax (a:=b) (i:=b.size - 1) (by lia)
   have e:a.toList.drop i=[aL]:=by
    rw [dY FV,K8 (by simp;lia)];rfl
   rw [e] at hy;simp at hy;subst hy;have hl:=FT y bL (by rw [show a.size - 1=i by lia];exact Gf) Gm
   obtain ⟨j,hj,e⟩:=Jb.mp hx;have FG:b.toList[j]? = some x:=by rw [<- e];exact D0 hj
   by_cases hjb:j=b.size - 1
   ·subst hjb;rw [FM] at FG;cases FG;exact hl
   ·have:=fe sb (show j < b.size - 1 by simp at hj;lia) FG FM
    exact c.le_trans this hl
  try dsimp -zeta -zetaHave -zetaUnused only
  refine ae (fun h=>?_) (fun h=>?_)
  ·skip
   have h : 1=b.size:=by simpa using h
   refine ab ?_;have r:=m1.fin (by simp;lia)
   exact q _ _ (by simpa only [Hm,Hr,HQ,bD] using r.1) (by simpa only [Hm,Hr,HQ,bD] using r.2) Same.refl
  ·skip
   refine ae (fun h2=>?_) (fun h2=>?_)
   ·skip
    have h2 : 0+1=a.size:=by simpa using h2
    refine ab ?_;have r:=m1.finA (Fl · · 0 h2);exact q _ _ (by simpa only [Hm,Hr,HQ,bD] using r.1) (by simpa only [Hm,Hr,HQ,bD] using r.2) Same.refl
   ·skip
    have h : 1≠b.size:=by simpa using h
    have h2 : 0+1≠a.size:=by simpa using h2
    refine Hc (LK ?_)
    try dsimp -zeta -zetaHave -zetaUnused only
    refine Hc (az (Q:=fun r st'=>Same st st' /\ ∃ res t,r=(some res,t)/\Res lt a.toList b.toList res.toList)
     (IA (fun i r st'=>Same st st' /\ ∃ out ia ib mg,r=(none,out,ia,ib,mg)/\ML lt a.toList b.toList out.toList ia ib/\ia+1 < a.size/\ib < b.size/\i+1<=out.size) ?_ ?_ ⟨Same.refl,_,_,_,_,rfl,m1,by lia,by lia,by simp⟩) ?_)
    ·rintro i r Ff _ hi ⟨sm,out,ia,ib,mg,rfl,m,Gn,Go,hsz⟩
     try dsimp -zeta -zetaHave -zetaUnused only
     refine Hc (az (Q:=fun r st'=>st'=Ff/\((∃ B F7 Fb ac bc,r=(none,B,F7,Fb,ac,bc)/\ML lt a.toList b.toList B.toList F7 Fb/\F7+1 < a.size/\Fb < b.size/\i+2<=B.size)∨∃ res t,r=(some res,t)/\Res lt a.toList b.toList res.toList))
      (IA (fun j r st'=>st'=Ff /\ ∃ B F7 Fb ac bc,r=(none,B,F7,Fb,ac,bc)/\ML lt a.toList b.toList B.toList F7 Fb/\F7+1 < a.size/\Fb < b.size/\i+1+j<=B.size) ?_ ?_ ⟨rfl,_,_,_,_,_,rfl,m,Gn,Go,by lia⟩) ?_)
     ·rintro j r EV _ hj ⟨rfl,B,F7,Fb,ac,bc,rfl,m2,h1,h2,h3⟩
      try dsimp only
      obtain ⟨y,hy,Fg,Fk⟩:=ax (a:=b) h2;obtain ⟨x,hx,FW,FP⟩:=ax (a:=a) (i:=F7) (by lia)
      refine Hc (ay hy (Hc (ay hx (Hc (jQ c (sm.kind.trans hk) (FF _ Fk) (FE _ FP) ?_)))))
      try dsimp only
      refine ae (fun hl=>?_) (fun hl=>?_)
      ·skip
       refine Hc (ay hy ?_)
       try dsimp only
       have m3:=m2.pushB c FW Fg (c.asym _ _ hl);refine ae (fun h=>?_) (fun h=>?_)
       ·skip
        have h:Fb+1=b.size:=by simpa using h
        exact ab ⟨rfl,.inr ⟨_,_,rfl,by simpa only [Hm,Hr,HQ,bD] using m3.fin (by simp;lia)⟩⟩
       ·skip
        have h:Fb+1≠b.size:=by simpa using h
        refine ae (fun _=>?_) (fun _=>?_)
        ·exact ab ⟨rfl,.inl ⟨_,_,_,_,_,rfl,by simpa only [Hm,Hr] using m3,h1,by lia,by simp;lia⟩⟩
        ·exact ab ⟨rfl,_,_,_,_,_,rfl,by simpa only [Hm,Hr] using m3,h1,by lia,by simp;lia⟩
      ·skip
       refine Hc (ay hx ?_)
       try dsimp only
       have m3:=m2.pushA c FW Fg (by simpa using hl)
       refine ae (fun h=>?_) (fun h=>?_)
       ·skip
        have h:F7+1+1=a.size:=by simpa using h
        exact ab ⟨rfl,.inr ⟨_,_,rfl,by simpa only [Hm,Hr,HQ,bD] using m3.finA (Fl · · _ h)⟩⟩
       ·skip
        have h:F7+1+1≠a.size:=by simpa using h
        refine ae (fun _=>?_) (fun _=>?_)
        ·exact ab ⟨rfl,.inl ⟨_,_,_,_,_,rfl,by simpa only [Hm,Hr] using m3,by lia,h2,by simp;lia⟩⟩
        ·exact ab ⟨rfl,_,_,_,_,_,rfl,by simpa only [Hm,Hr] using m3,by lia,h2,by simp;lia⟩
     ·rintro r EV ⟨rfl,B,F7,Fb,ac,bc,rfl,m2,h1,h2,h3⟩;exact ⟨rfl,.inl ⟨_,_,_,_,_,rfl,m2,h1,h2,by lia⟩⟩
     ·rintro r EV ⟨rfl,⟨B,F7,Fb,ac,bc,rfl,m2,h1,h2,h3⟩ | ⟨res,t,rfl,J⟩⟩
      ·dsimp -zeta -zetaHave -zetaUnused only;refine Hc (cI ?_);refine Hc (az (Q:=fun r st'=>Same st st'/\((∃ F EX ET F8 ac bc,r=(none,F,EX,ET,F8,ac,bc)/\ML lt a.toList b.toList F.toList EX ET/\EX+1 < a.size/\ET < b.size/\i+2<=F.size)∨∃ res t,r=(some res,t)/\Res lt a.toList b.toList res.toList))
        (IA (fun j r st'=>Same st st' /\ ∃ F EX ET F8 ac bc,r=(none,F,EX,ET,F8,ac,bc)/\ML lt a.toList b.toList F.toList EX ET/\EX+1 < a.size/\ET < b.size/\i+2<=F.size) ?_ ?_ ⟨sm,_,_,_,_,_,_,rfl,m2,h1,h2,h3⟩) ?_)
       ·rintro j r ES _ hj ⟨F9,F,EX,ET,F8,FX,FY,rfl,m3,h1,h2,h5⟩;obtain ⟨y,hy,Fg,Fk⟩:=ax (a:=b) h2;refine zt fun QQ hQ=>?_;have G:∀ (st':IC) (res:Array Hf) t,Same st st'->Res lt a.toList b.toList res.toList->QQ (.done (some res,t)) st':=fun st' res t hs hr=>hQ _ _ ⟨hs,.inr ⟨_,_,rfl,hr⟩⟩;have Gp:∀ (st':IC) (out:Array Hf) ia ib mg ac bc,Same st st'->ML lt a.toList b.toList out.toList ia ib->ia+1 < a.size->ib < b.size->i+2<=out.size->QQ (.done (none,out,ia,ib,mg,ac,bc)) st'/\QQ (.yield (none,out,ia,ib,mg,ac,bc)) st':=fun st' out ia ib mg ac bc hs p1 p2 p3 p4=>⟨hQ _ _ ⟨hs,.inl ⟨_,_,_,_,_,_,rfl,p1,p2,p3,p4⟩⟩,hQ _ _ ⟨hs,_,_,_,_,_,_,rfl,p1,p2,p3,p4⟩⟩;clear hQ hj
        extract_lets -underBinder s0 vout s1 via s2 vib s3 vmg s4 vac vbc jp vmx
        have FZ:∀ mg,wpS (Hx prog w) A E s (jp () mg) QQ ES:=by
         intro mg;dsimp -zeta -zetaHave -zetaUnused only [jp,s0,vout,s1,via,s2,vib,s3,vmg,s4,vac,vbc];clear vmx jp vbc vac s4 vmg s3 vib s2 via s1 vout s0;refine Hc (JJ ?_);refine uN (P:=Same st) (F9.trans ⟨rfl,rfl,rfl,rfl⟩) fun FH EY=>?_;have G0:=EY.kind.trans hk;refine Hc (ay hy ?_);refine Hc (hg false y a (a.toList.take EX) (a.toList.drop EX) [] _ _ _ _ _ G0 (FF _ Fk) (by simp) (fG (by lia)) (by simp) (fun x hx=>FE x (N5 hx)) (by lia) ((Hb.mp m3.pa).2.1) fun X Y e hX hY=>?_)
         dsimp -zeta -zetaHave -zetaUnused only;have m4:=m3.galA c e Fg fun x hx=>zu (hX x hx);have EZ:∀ x4,a.toList[EX+X.length]? = some x4->lt x4 y=false:=fun x4 Fm=>c.asym _ _ (uO (hY x4 (oE e Fm)));have FI:=oG e
         extract_lets -underBinder +onlyGivenNames vac Fn
         clear_value vac
         have Ft:∀ (O:Array Hf) (Fh:Nat),ML lt a.toList b.toList O.toList Fh ET->(∀ x4,a.toList[Fh]? = some x4->lt x4 y=false)->Fh+1 < a.size->i+2<=O.size->wpS (Hx prog w) A E s (Fn () O Fh) QQ FH:=by
          intro O Fh Gq Fo GT G1;dsimp -zeta -zetaHave -zetaUnused only [Fn];clear Fn FI EZ m4 hX hY;obtain ⟨x4,Fm,F5,G2⟩:=ax (a:=a) (i:=Fh) (by lia)
          refine Hc (ay hy ?_);have m5:=Gq.pushB c F5 Fg (Fo x4 F5);rw [<- Hr] at m5;have F6:i+2<=(O.push y).size:=by rw [Ng];lia
          try dsimp -zeta -zetaHave -zetaUnused only
          extract_lets -underBinder +onlyGivenNames vo5 vi5
          dsimp -zeta -zetaHave -zetaUnused only [vo5];clear vo5;have e5:vi5=ET+1:=rfl
          clear_value vi5
          subst e5
          revert m5 F6
          generalize O.push y=out5;intro m5 F6;refine ae (fun h=>?_) (fun h=>?_)
          ·exact ab (G _ _ _ EY (m5.finR (by have h:=KI h;lia)))
          ·have h:ET+1≠b.size:=by simpa using h
           refine Hc (ay Fm ?_);refine Hc (hg true x4 b (b.toList.take (ET+1)) (b.toList.drop (ET+1)) [] _ _ _ _ _ G0 (FE _ G2) (by simp) (fG (by lia)) (by simp) (fun x hx=>FF x (N5 hx)) (by lia) ((Hb.mp m5.pb).2.1) fun X2 Y2 e2 Fy Fz=>?_)
           dsimp -zeta -zetaHave -zetaUnused only;have m6:=m5.galB c e2 F5 fun x hx=>c.asym _ _ (zv (Fy x hx));have F1:∀ y6,b.toList[ET+1+X2.length]? = some y6->lt y6 x4=false:=fun y6 G3=>uP (Fz y6 (oE e2 G3));have FJ:=oG e2
           extract_lets -underBinder +onlyGivenNames vbc Fp
           clear_value vbc
           have Fu:∀ (EU:Array Hf) (FK:Nat),ML lt a.toList b.toList EU.toList Fh FK->(∀ y6,b.toList[FK]? = some y6->lt y6 x4=false)->FK < b.size->i+2<=EU.size->wpS (Hx prog w) A E s (Fp () EU FK) QQ FH:=by
            intro EU FK Gr Fq Gh GD;dsimp -zeta -zetaHave -zetaUnused only [Fp];clear Fp FJ F1 m6 Fy Fz m5 F6 G1 h5 h1 h2 hsz Go Gn h3;obtain ⟨y6,G3,Fv,GE⟩:=ax (a:=b) (i:=FK) Gh;refine Hc (ay Fm ?_);have m7:=Gr.pushA c F5 Fv (Fq y6 Fv);rw [<- Hr] at m7;dsimp only;refine ae (fun h=>?_) (fun h=>?_)
            ·exact ab (G _ _ _ EY (m7.finL (Fl · · (Fh+1) (KI h))))
            ·have h:Fh+1+1≠a.size:=by simpa using h
             have:=Gp FH (EU.push x4) (Fh+1) FK mg vac vbc EY m7 (by lia) Gh (by rw [Ng];lia)
             exact ae (fun _=>ab this.1) (fun _=>ab this.2)
           clear_value Fp
           refine ae (fun h0=>?_) (fun h0=>?_)
           ·dsimp only;have m6:=m6.cut (a:=b) e2;refine ae (fun h=>?_) (fun h=>?_)
            ·exact ab (G _ _ _ EY (m6.finR (by have h:=KI h;lia)))
            ·have h:ET+1+X2.length≠b.size:=by simpa using h
             exact Fu _ _ m6 F1 (by lia) (by rw [Lf];lia)
           ·have Fr:X2=[]:=Ia.mp (by lia)
            subst Fr;exact Fu _ _ m5 F1 (by lia) F6
         clear_value Fn
         refine ae (fun h0=>?_) (fun h0=>?_)
         ·dsimp only;have m4:=m4.cut (a:=a) e;refine ae (fun h=>?_) (fun h=>?_)
          ·exact ab (G _ _ _ EY (m4.finL (Fl · · _ (KI h))))
          ·have h:EX+X.length+1≠a.size:=by simpa using h
           refine ae (fun h=>?_) (fun h9=>?_)
           ·exact ab (G _ _ _ EY (m4.finS (by have h:=KI h;lia)))
           ·have h9:EX+X.length≠a.size:=by simpa using h9
            exact Ft _ _ m4 EZ (by lia) (by rw [Lf];lia)
         ·have Fr:X=[]:=Ia.mp (by lia)
          subst Fr;exact Ft _ _ m3 EZ h1 h5
        clear_value jp
        exact ae (fun _=>FZ _) (fun _=>FZ _)
       ·rintro r ES ⟨F9,F,EX,ET,F8,FX,FY,rfl,m3,h1,h2,h5⟩;exact ⟨F9,.inl ⟨_,_,_,_,_,_,rfl,m3,h1,h2,h5⟩⟩
       ·rintro r ES ⟨F9,⟨F,EX,ET,F8,FX,FY,rfl,m3,h1,h2,h5⟩ | ⟨res,t,rfl,J⟩⟩
        ·dsimp -zeta -zetaHave -zetaUnused only;refine Hc (JJ ?_);exact ab ⟨F9.trans ⟨rfl,rfl,rfl,rfl⟩,_,_,_,_,rfl,m3,h1,h2,by lia⟩
        ·exact ab ⟨F9,_,_,rfl,J⟩
      ·exact ab ⟨sm,_,_,rfl,J⟩
    ·rintro r Ff ⟨sm,out,ia,ib,mg,rfl,m,Gn,Go,hsz⟩;have:=m.size (by simp;lia) (by simp;lia)
     simp at this;lia
    ·rintro r Ff ⟨sm,res,t,rfl,J⟩;exact ab (q res Ff J.1 J.2 sm)
 ·intro hg a b st Q hk FE FF Gb Gc sa sb FS FT q;refine Hc (cI ?_);obtain ⟨bL,Gm,FM,GU⟩:=ax (a:=b) (i:=b.size - 1) (by lia)
  obtain ⟨aL,Gf,FV,GW⟩:=ax (a:=a) (i:=a.size - 1) (by lia)
  refine Hc (ay Gf ?_);have m0:MH lt a.toList b.toList [] a.size b.size:=⟨by rw [eK];simpa using sa,by rw [eK];simpa using sb,by rw [eK,eK];simp⟩
  have m1:MH lt a.toList b.toList [aL] (a.size - 1) b.size:=m0.pushA c Gb Gc FV FM (FT aL bL Gf Gm);have Fd:∀ x∈b.toList.take 1,∀ y∈a.toList,lt y x=false:=by
   intro x hx y hy;obtain ⟨b0,Gd,FU,_⟩:=ax Gc;obtain ⟨a0,FQ,FL,_⟩:=ax Gb;have ex:x=b0:=by
    rw [cJ (by lia) FU] at hx
    simpa using hx
   subst ex;have h:=FS a0 x FQ Gd;obtain ⟨j,hj,e⟩:=Jb.mp hy;have FG:a.toList[j]? = some y:=by rw [<- e];exact D0 hj
   by_cases hj0:j=0
   ·subst hj0;rw [FL] at FG;cases FG;exact h
   ·exact c.le_trans h (fe sa (by lia) FL FG)
  try dsimp -zeta -zetaHave -zetaUnused only
  refine ae (fun h=>?_) (fun h=>?_)
  ·skip
   have h:a.size - 1=0:=by simpa using h
   refine ab ?_;have r:=m1.fin (.inl h);exact q _ _ (by simpa only [Hm,Hr,Ie,HQ,b6] using r.1) (by simpa only [Hm,Hr,Ie,HQ,b6] using r.2) Same.refl
  ·skip
   refine ae (fun h2=>?_) (fun h2=>?_)
   ·skip
    have h2:b.size=1:=by simpa using h2
    refine ab ?_;have r:=m1.finB (by rw [h2];exact Fd)
    exact q _ _ (by simpa only [Hm,Hr,Ie,HQ,b6] using r.1) (by simpa only [Hm,Hr,Ie,HQ,b6] using r.2) Same.refl
   ·skip
    have h:a.size - 1≠0:=by simpa using h
    have h2:b.size≠1:=by simpa using h2
    refine Hc (LK ?_)
    try dsimp -zeta -zetaHave -zetaUnused only
    refine Hc (az (Q:=fun r st'=>Same st st' /\ ∃ res t,r=(some res,t)/\Res lt a.toList b.toList res.toList)
     (IA (fun i r st'=>Same st st' /\ ∃ na nb out mg,r=(none,na,nb,out,mg)/\MH lt a.toList b.toList out.toList na nb/\0 < na/\1 < nb/\na < a.size/\nb<=b.size/\i+1<=out.size) ?_ ?_ ⟨Same.refl,_,_,_,_,rfl,m1,by lia,by lia,by lia,by lia,by simp⟩) ?_)
    ·rintro i r Ff _ hi ⟨sm,na,nb,out,mg,rfl,m,Fx,FN,G4,G5,hsz⟩
     try dsimp -zeta -zetaHave -zetaUnused only
     refine Hc (az (Q:=fun r st'=>st'=Ff/\((∃ F3 F4 B ac bc,r=(none,F3,F4,B,ac,bc)/\MH lt a.toList b.toList B.toList F3 F4/\0 < F3/\1 < F4/\F3 < a.size/\F4<=b.size/\i+2<=B.size)∨∃ res t,r=(some res,t)/\Res lt a.toList b.toList res.toList))
      (IA (fun j r st'=>st'=Ff /\ ∃ F3 F4 B ac bc,r=(none,F3,F4,B,ac,bc)/\MH lt a.toList b.toList B.toList F3 F4/\0 < F3/\1 < F4/\F3 < a.size/\F4<=b.size/\i+1+j<=B.size) ?_ ?_ ⟨rfl,_,_,_,_,_,rfl,m,Fx,FN,G4,G5,by lia⟩) ?_)
     ·rintro j r EV _ hj ⟨rfl,F3,F4,B,ac,bc,rfl,m2,h1,h2,Fa,Fc,h3⟩
      try dsimp only
      obtain ⟨y,hy,Fg,Fk⟩:=ax (a:=b) (i:=F4 - 1) (by lia)
      obtain ⟨x,hx,FW,FP⟩:=ax (a:=a) (i:=F3 - 1) (by lia)
      refine Hc (ay hy (Hc (ay hx (Hc (jQ c (sm.kind.trans hk) (FF _ Fk) (FE _ FP) ?_)))))
      try dsimp only
      refine ae (fun hl=>?_) (fun hl=>?_)
      ·skip
       refine Hc (ay hx ?_)
       try dsimp only
       have m3:=m2.pushA c h1 (by lia) FW Fg (c.asym _ _ hl)
       refine ae (fun h=>?_) (fun h=>?_)
       ·skip
        have h:F3 - 1=0:=by simpa using h
        exact ab ⟨rfl,.inr ⟨_,_,rfl,by have r:=m3.fin (.inl h);simpa only [Hm,Hr,Ie,HQ,b6] using r⟩⟩
       ·skip
        have h:F3 - 1≠0:=by simpa using h
        refine ae (fun _=>?_) (fun _=>?_)
        ·exact ab ⟨rfl,.inl ⟨_,_,_,_,_,rfl,by simpa only [Hm,Hr,Ie,HQ,b6] using m3,by lia,h2,by lia,Fc,by simp;lia⟩⟩
        ·exact ab ⟨rfl,_,_,_,_,_,rfl,by simpa only [Hm,Hr,Ie,HQ,b6] using m3,by lia,h2,by lia,Fc,by simp;lia⟩
      ·skip
       refine Hc (ay hy ?_)
       try dsimp only
       have m3:=m2.pushB c h1 (by lia) FW Fg (by simpa using hl)
       refine ae (fun h=>?_) (fun h=>?_)
       ·skip
        have h:F4 - 1=1:=by simpa using h
        exact ab ⟨rfl,.inr ⟨_,_,rfl,by have r:=m3.finB (by rw [h];exact Fd);simpa only [Hm,Hr,Ie,HQ,b6] using r⟩⟩
       ·skip
        have h:F4 - 1≠1:=by simpa using h
        refine ae (fun _=>?_) (fun _=>?_)
        ·exact ab ⟨rfl,.inl ⟨_,_,_,_,_,rfl,by simpa only [Hm,Hr,Ie,HQ,b6] using m3,h1,by lia,Fa,by lia,by simp;lia⟩⟩
        ·exact ab ⟨rfl,_,_,_,_,_,rfl,by simpa only [Hm,Hr,Ie,HQ,b6] using m3,h1,by lia,Fa,by lia,by simp;lia⟩
     ·rintro r EV ⟨rfl,F3,F4,B,ac,bc,rfl,m2,h1,h2,Fa,Fc,h3⟩;exact ⟨rfl,.inl ⟨_,_,_,_,_,rfl,m2,h1,h2,Fa,Fc,by lia⟩⟩
     ·rintro r EV ⟨rfl,⟨F3,F4,B,ac,bc,rfl,m2,h1,h2,Fa,Fc,h3⟩ | ⟨res,t,rfl,J⟩⟩
      ·try dsimp -zeta -zetaHave -zetaUnused only
       refine Hc (cI ?_);refine Hc (az (Q:=fun r st'=>Same st st'/\((∃ EW U F F8 ac bc,r=(none,EW,U,F,F8,ac,bc)/\MH lt a.toList b.toList F.toList EW U/\0 < EW/\1 < U/\EW < a.size/\U<=b.size/\i+2<=F.size)∨∃ res t,r=(some res,t)/\Res lt a.toList b.toList res.toList))
        (IA (fun j r st'=>Same st st' /\ ∃ EW U F F8 ac bc,r=(none,EW,U,F,F8,ac,bc)/\MH lt a.toList b.toList F.toList EW U/\0 < EW/\1 < U/\EW < a.size/\U<=b.size/\i+2<=F.size) ?_ ?_ ⟨sm,_,_,_,_,_,_,rfl,m2,h1,h2,Fa,Fc,h3⟩) ?_)
       ·rintro j r ES _ hj ⟨F9,EW,U,F,F8,FX,FY,rfl,m3,h1,h2,Fa,Fc,h5⟩;obtain ⟨y,hy,Fg,Fk⟩:=ax (a:=b) (i:=U - 1) (by lia)
        refine zt fun QQ hQ=>?_;have G:∀ (st':IC) (res:Array Hf) t,Same st st'->Res lt a.toList b.toList res.toList->QQ (.done (some res,t)) st':=fun st' res t hs hr=>hQ _ _ ⟨hs,.inr ⟨_,_,rfl,hr⟩⟩;have Gp:∀ (st':IC) (out:Array Hf) na nb mg ac bc,Same st st'->MH lt a.toList b.toList out.toList na nb->0 < na->1 < nb->na < a.size->nb<=b.size->i+2<=out.size->QQ (.done (none,na,nb,out,mg,ac,bc)) st'/\QQ (.yield (none,na,nb,out,mg,ac,bc)) st':=fun st' out ia ib mg ac bc hs p1 p2 p3 p4 p5 p6=>⟨hQ _ _ ⟨hs,.inl ⟨_,_,_,_,_,_,rfl,p1,p2,p3,p4,p5,p6⟩⟩,hQ _ _ ⟨hs,_,_,_,_,_,_,rfl,p1,p2,p3,p4,p5,p6⟩⟩;clear hQ hj
        extract_lets -underBinder s0 vna s1 vnb s2 vout s3 vmg s4 vac vbc jp vmx
        have FZ:∀ mg,wpS (Hx prog w) A E s (jp () mg) QQ ES:=by
         intro mg;dsimp -zeta -zetaHave -zetaUnused only [jp,s0,vna,s1,vnb,s2,vout,s3,vmg,s4,vac,vbc];clear vmx jp vbc vac s4 vmg s3 vout s2 vnb s1 vna s0;refine Hc (JJ ?_);refine uN (P:=Same st) (F9.trans ⟨rfl,rfl,rfl,rfl⟩) fun FH EY=>?_;have G0:=EY.kind.trans hk;refine Hc (ay hy ?_);refine Hc (hg false y a [] (a.toList.take EW) (a.toList.drop EW) _ _ _ _ _ G0 (FF _ Fk) (by simp) rfl (fG (by lia)) (fun x hx=>FE x (N6 hx)) (by lia) ((Hb.mp m3.pa).1) fun X Y e hX hY=>?_)
         dsimp -zeta -zetaHave -zetaUnused only;have m4:=m3.galA c e (by lia) Fg fun x hx=>c.asym _ _ (uO (hY x hx))
         have EZ : 0 < X.length -> ∀ x4,a.toList[X.length - 1]? = some x4->lt y x4=false:=fun h0 x4 Fm=>zu (hX x4 (oF e h0 Fm));have FI:=lZ e (by lia)
         extract_lets -underBinder +onlyGivenNames vk vac Fn
         clear_value vac
         have Ft:∀ (Fi:Nat) (O:Array Hf),MH lt a.toList b.toList O.toList Fi U->(∀ x4,a.toList[Fi - 1]? = some x4->lt y x4=false)->0 < Fi->Fi < a.size->i+2<=O.size->wpS (Hx prog w) A E s (Fn () Fi O) QQ FH:=by
          intro Fi O Gq Fo G6 GQ G1;dsimp -zeta -zetaHave -zetaUnused only [Fn];clear Fn vk FI EZ m4 hX hY;obtain ⟨x4,Fm,F5,G2⟩:=ax (a:=a) (i:=Fi - 1) (by lia)
          refine Hc (ay hy ?_);have m5:=Gq.pushB c G6 (by lia) F5 Fg (Fo x4 F5)
          rw [<- Hr] at m5;have F6:i+2<=(O.push y).size:=by rw [Ng];lia
          try dsimp -zeta -zetaHave -zetaUnused only
          extract_lets -underBinder +onlyGivenNames vo5
          dsimp -zeta -zetaHave -zetaUnused only [vo5];clear vo5
          revert m5 F6
          generalize O.push y=out5;intro m5 F6;refine ae (fun h=>?_) (fun h=>?_)
          ·exact ab (G _ _ _ EY (m5.finR (by rw [KI h];exact Fd)))
          ·have h:U - 1≠1:=by simpa using h
           refine Hc (ay Fm ?_);refine Hc (hg true x4 b [] (b.toList.take (U - 1)) (b.toList.drop (U - 1)) _ _ _ _ _ G0 (FE _ G2) (by simp) rfl (fG (by lia)) (fun x hx=>FF x (N6 hx)) (by lia) ((Hb.mp m5.pb).1) fun X2 Y2 e2 Fy Fz=>?_)
           dsimp -zeta -zetaHave -zetaUnused only;have m6:=m5.galB c e2 G6 F5 fun x hx=>uP (Fz x hx);have F1 : 0 < X2.length -> ∀ y6,b.toList[X2.length - 1]? = some y6->lt x4 y6=false:=fun h0 y6 G3=>c.asym _ _ (zv (Fy y6 (oF e2 h0 G3)));have FJ:=lZ e2 (by lia)
           extract_lets -underBinder +onlyGivenNames vk vbc Fp
           clear_value vbc
           have Fu:∀ (Fw:Nat) (EU:Array Hf),MH lt a.toList b.toList EU.toList Fi Fw->(∀ y6,b.toList[Fw - 1]? = some y6->lt x4 y6=false)->1 < Fw->Fw<=b.size->i+2<=EU.size->wpS (Hx prog w) A E s (Fp () Fw EU) QQ FH:=by
            intro Fw EU Gr Fq GF Gs GD;dsimp -zeta -zetaHave -zetaUnused only [Fp];clear Fp vk FJ F1 m6 Fy Fz m5 F6 G1 h5 h1 h2 Fa Fc hsz Fx FN G4 G5 h3;obtain ⟨y6,G3,Fv,GE⟩:=ax (a:=b) (i:=Fw - 1) (by lia)
            refine Hc (ay Fm ?_);have m7:=Gr.pushA c G6 (by lia) F5 Fv (Fq y6 Fv)
            rw [<- Hr] at m7;dsimp only;refine ae (fun h=>?_) (fun h=>?_)
            ·exact ab (G _ _ _ EY (m7.finL (.inl (KI h))))
            ·have h:Fi - 1≠0:=by simpa using h
             have:=fun mg ac bc=>Gp FH (EU.push x4) (Fi - 1) Fw mg ac bc EY m7 (by lia) GF (by lia) Gs (by rw [Ng];lia)
             exact ae (fun _=>ab (this _ _ _).1) (fun _=>ab (this _ _ _).2)
           clear_value Fp
           refine ae (fun h0=>?_) (fun h0=>?_)
           ·dsimp only;have m6:=m6.cut (a:=b) e2;refine ae (fun h=>?_) (fun h=>?_)
            ·exact ab (G _ _ _ EY (m6.finR (by rw [KI h];exact Fd)))
            ·have h:X2.length≠1:=by simpa using h
             refine ae (fun h9=>?_) (fun h9=>?_)
             ·exact ab (G _ _ _ EY (m6.finL (.inr (KI h9))))
             ·have h9:X2.length≠0:=by simpa using h9
              exact Fu _ _ m6 (F1 (by lia)) (by lia) (by lia) (by rw [Lf];lia)
           ·have h0 : ¬ (U - 1 - X2.length > 0):=h0;have hl:X2.length=U - 1:=by lia
            have FR : 0 < X2.length:=by lia
            have hr:=F1 FR;rw [hl] at hr;exact Fu _ _ m5 hr (by lia) (by lia) F6
         clear_value Fn
         refine ae (fun h0=>?_) (fun h0=>?_)
         ·dsimp only;have m4:=m4.cut (a:=a) e;refine ae (fun h=>?_) (fun h=>?_)
          ·exact ab (G _ _ _ EY (m4.finL (.inl (KI h))))
          ·have h:X.length≠0:=by simpa using h
           exact Ft _ _ m4 (EZ (by lia)) (by lia) (by lia) (by rw [Lf];lia)
         ·have h0 : ¬ (EW - X.length > 0):=h0;have hl:X.length=EW:=by lia
          have hr:=EZ (by lia)
          rw [hl] at hr;exact Ft _ _ m3 hr h1 Fa h5
        clear_value jp
        exact ae (fun _=>FZ _) (fun _=>FZ _)
       ·rintro r ES ⟨F9,EW,U,F,F8,FX,FY,rfl,m3,h1,h2,Fa,Fc,h5⟩;exact ⟨F9,.inl ⟨_,_,_,_,_,_,rfl,m3,h1,h2,Fa,Fc,h5⟩⟩
       ·rintro r ES ⟨F9,⟨EW,U,F,F8,FX,FY,rfl,m3,h1,h2,Fa,Fc,h5⟩ | ⟨res,t,rfl,J⟩⟩
        ·try dsimp -zeta -zetaHave -zetaUnused only
         refine Hc (JJ ?_);exact ab ⟨F9.trans ⟨rfl,rfl,rfl,rfl⟩,_,_,_,_,rfl,m3,h1,h2,Fa,Fc,by lia⟩
        ·exact ab ⟨F9,_,_,rfl,J⟩
      ·exact ab ⟨sm,_,_,rfl,J⟩
    ·rintro r Ff ⟨sm,na,nb,out,mg,rfl,m,Fx,FN,G4,G5,hsz⟩;have:=m.size (by simp;lia) (by simp;lia)
     simp at this;lia
    ·rintro r Ff ⟨sm,res,t,rfl,J⟩;exact ab (q res Ff J.1 J.2 sm)
end
end Srt
end L2
namespace L2
namespace Srt
open PySem PySem.Spec PyProof.Rows
section
variable {prog:HB} {w:HX} {A:I0} {E:hH->tv->Prop} {s:tv} {kd:LF} {P:Hf->Prop} {lt:Hf->Hf->Bool}
structure Kp (st st':IC):Prop where
 kind:Jh st'=Jh st
 pend:Hw st'=Hw st
 fail:K1 st'=K1 st
theorem Kp.refl {st:IC}:Kp st st:=⟨rfl,rfl,rfl⟩
theorem Kp.trans {a b c:IC} (h:Kp a b) (g:Kp b c):Kp a c:=⟨g.kind.trans h.kind,g.pend.trans h.pend,g.fail.trans h.fail⟩
theorem qh {a:Array Hf} {L B R:List Hf} (e:a.toList=L++(B++R)) {i j:Nat} (hi:i=L.length) (q:j=L.length+B.length):(mirror a i j ((j - i) / 2)).toList=L++(B.reverse++R):=by
 have hs:a.size=L.length+(B.length+R.length):=by rw [<- HI,e];simp
 apply Kr;intro k;rw [Hz,getElem?_mirror_all (by lia)]
 have g:∀ n:Nat,a[n]? = (L++(B++R))[n]?:=fun n=>by rw [<- Hz,e]
 rw [g,g]
 by_cases h1:k < L.length
 ·rw [if_neg (by lia),Hq h1,Hq h1]
 ·by_cases h2:k < j
  ·rw [if_pos (by lia),D1 (by lia),Hq (by lia),D1 (by lia),Hq (by simp;lia),List.getElem?_reverse (by lia)]
   congr 1;lia
  ·rw [if_neg (by lia),D1 (by lia),D1 (by lia),D1 (by lia),D1 (by simp;lia)]
   simp
theorem qi {a:Array Hf} {L j q R:List Hf} {x:Hf} (e:a.toList=L++((j++q)++x::R)) {src d:Nat} (hi:src=L.length+(j.length+q.length)) (hd:d=q.length):(bubble a src d).toList=L++((j++x::q)++R):=by
 have hs:a.size=L.length+(j.length+q.length+(R.length+1)):=by rw [<- HI,e];simp;lia
 apply Kr;intro k;rw [Hz,getElem?_bubble (by lia) d (by lia)]
 have g:∀ n:Nat,a[n]? = (L++((j++q)++x::R))[n]?:=fun n=>by rw [<- Hz,e]
 rw [g,g,g]
 by_cases h1:k < L.length
 ·rw [if_neg (by lia),if_neg (by lia),Hq h1,Hq h1]
 ·by_cases h2:k < L.length+j.length
  ·rw [if_neg (by lia),if_neg (by lia),D1 (by lia),Hq (by simp;lia),Hq (by lia),D1 (by lia),Hq (by simp;lia),Hq (by lia)]
  ·by_cases h3:k=L.length+j.length
   ·rw [if_pos (by lia),D1 (by lia),D1 (by simp;lia),D1 (by lia),Hq (by simp;lia),D1 (by lia)]
    have B:src - L.length - (j++q).length=0:=by simp;lia
    have z:k - L.length - j.length=0:=by lia
    rw [B,z];rfl
   ·by_cases h4:k<=src
    ·rw [if_neg (by lia),if_pos (by lia),D1 (by lia),Hq (by simp;lia),D1 (by lia),D1 (by lia),Hq (by simp;lia),D1 (by lia)]
     have z:k - L.length - j.length=(k - 1 - L.length - j.length)+1:=by lia
     rw [z,KL]
    ·rw [if_neg (by lia),if_neg (by lia),D1 (by lia),D1 (by simp;lia),D1 (by lia),D1 (by simp;lia)]
     have z:k - L.length - (j++q).length=(k - L.length - (j++x::q).length)+1:=by simp;lia
     rw [z,KL]
theorem dG (c:Cm prog w A s kd P lt) {i j:Nat} {x y:Hf} {st:IC} {Q:Option Bool->IC->Prop} (z:Jh st=kd) (hx:(Ii st)[i]? = some x) (B:(Ii st)[j]? = some y) (px:P x) (py:P y) (q:Q (some (lt x y)) st):wpS (Hx prog w) A E s (ltAt' i j) Q st:=by
 rw [ltAt'_eq];exact Hc (LK (Hc (ay hx (Hc (ay B (jQ c z px py q))))))
theorem jR {i j:Nat} {st:IC} {Q:Unit->IC->Prop} {L B R:List Hf} (e:(Ii st).toList=L++(B++R)) (hi:i=L.length) (z:j=L.length+B.length) (q:∀ st',(Ii st').toList=L++(B.reverse++R)->Kp st st'->Q () st'):wpS (Hx prog w) A E s (reverseSlice' i j) Q st:=by
 rw [reverseSlice'_eq];exact JJ (q _ (qh e hi z) ⟨rfl,rfl,rfl⟩)
theorem ca {st:IC} {L xs:List Hf} (e:(Ii st).toList=L++xs) {i n:Nat} (hi:i=L.length+n):(Ii st)[i]? = xs[n]?:=by
 rw [<- Hz,e,hi,D1 (by lia)]
 congr 1;lia
theorem oH (c:Cm prog w A s kd P lt) {xs:List Hf} {n:Nat} {x y:Hf} (h:Ord lt (xs.take n)) (q : 0 < n) (hx:xs[n]? = some x) (B:xs[n - 1]? = some y) (F:lt x y=false):Ord lt (xs.take (n+1)):=by
 rw [QP,hx];refine Hb.mpr ⟨h,by simp,fun z hz u j=>?_⟩
 simp at j;subst j;exact i4 c h q B F z hz
noncomputable abbrev cX (lt:Hf->Hf->Bool) (l:List Hf):Prop:=l.Pairwise fun x y=>lt x y=false
theorem iZ (c:Cm prog w A s kd P lt) {D:List Hf} {e x:Hf} (h:cX lt (D++[e])) (hx:lt e x=false):cX lt (D++[e]++[x]):=by
 refine Hb.mpr ⟨h,by simp,fun z hz u j=>?_⟩
 simp at j;subst j;obtain ⟨_,_,B⟩:=Hb.mp h
 rcases Hu.mp hz with g | g
 ·cases q:lt z u with
  | false=>rfl
  | true=>rcases c.neg z e u q with r | r
          ·rw [B z g e (by simp)] at r;cases r
          ·rw [hx] at r;cases r
 ·simp at g;subst g;exact hx
theorem qI {q F:List Hf} (h:cX lt (q++F)) (he:∀ x∈F,∀ y∈F,lt x y=false):cX lt (q++F.reverse):=by
 obtain ⟨h1,h2,z⟩:=Hb.mp h;refine Hb.mpr ⟨h1,?_,fun x hx y j=>z x hx y (Lu.mp j)⟩;rw [P4];exact h2.imp_of_mem fun hx j _=>he _ j _ hx
theorem perm_take {xs:List Hf} {n:Nat}:(xs.take n++xs.drop n).Perm xs:=by rw [JG]
theorem qj (c:Cm prog w A s kd P lt) {L xs:List Hf} {st:IC} {Q:Option Nat->IC->Prop} (hk:Jh st=kd) (O:(Ii st).toList=L++xs) (h0:xs≠[]) (hP:∀ x∈xs,P x)
 (q:∀ r R st',(Ii st').toList=L++(r++R)->(r++R).Perm xs->r≠[]->Ord lt r->Kp st st'->Q (some r.length) st'):wpS (Hx prog w) A E s (countRun' L.length xs.length) Q st:=by
 have Fh : 0 < xs.length:=Il.mpr h0;rw [countRun'_eq]
 try dsimp -zeta -zetaHave -zetaUnused only
 refine Hc (az (Q:=fun r st'=>st'=st /\ ∃ n,r=(none,n)/\1<=n/\n<=xs.length/\Ord lt (xs.take n)/\(n=xs.length∨∃ x y,xs[n]? = some x/\xs[n - 1]? = some y/\lt x y=true))
  (IA (fun i r st'=>st'=st/\r=(none,i)/\Ord lt (xs.take i)) ?_ ?_ ⟨rfl,rfl,by
    cases xs with
    | nil=>exact absurd rfl h0
    | cons x t=>simp⟩) ?_)
 ·rintro i r st' h1 hi ⟨rfl,rfl,ho⟩;dsimp only;obtain ⟨x,hx⟩:∃ x,xs[i]? = some x:=⟨_,D0 hi⟩;obtain ⟨y,hy⟩:∃ y,xs[i - 1]? = some y:=⟨_,D0 (by lia)⟩
  refine Hc (dG c hk ((ca O rfl).trans hx) ((ca O (by lia)).trans hy) (hP _ (HH hx)) (hP _ (HH hy)) ?_)
  dsimp only;refine ae (fun h=>?_) (fun h=>?_)
  ·exact ab ⟨rfl,i,rfl,h1,by lia,ho,.inr ⟨x,y,hx,hy,h⟩⟩
  ·exact ab ⟨rfl,rfl,oH c ho (by lia) hx hy (by simpa using h)⟩
 ·rintro r st' ⟨rfl,rfl,ho⟩;exact ⟨rfl,_,rfl,by lia,by lia,ho,.inl (by lia)⟩
 ·rintro r st' ⟨rfl,n,rfl,FF,Fi,ho,hc⟩;dsimp -zeta -zetaHave -zetaUnused only;have F5:Q (some n) st':=by
   have:=q (xs.take n) (xs.drop n) st' (by rw [O,JG]) perm_take (fun z=>by
    have h3:=congrArg MX z;rw [HR,Jd] at h3;lia) ho Kp.refl
   rw [HR,LL Fi] at this;exact this
  extract_lets -underBinder +onlyGivenNames vr vn
  dsimp -zeta -zetaHave -zetaUnused only [vr];clear vr;have en:n=vn:=rfl
  clear_value vn
  subst en;refine ae (fun h=>ab F5) (fun h=>?_);have Ft:n≠xs.length:=by simpa using h
  obtain ⟨x,y,hx,hy,Fu⟩:=hc.resolve_left Ft;have FG:n < xs.length:=by lia
  have exs:xs=xs.take n++x::xs.drop (n+1):=by
   have h1:=(JG n xs).symm;rw [dY hx] at h1;exact h1
  have Fj:y∈xs.take n:=by rw [cJ (by lia) hy];simp
  extract_lets -underBinder +onlyGivenNames jp
  have Fk:∀ (B:List Hf) (ET:IC),(Ii ET).toList=L++(B++x::xs.drop (n+1))->B.Perm (xs.take n)->B.length=n->(∀ u∈B,∀ v∈B,lt u v=false)->y∈B->Kp st' ET->wpS (Hx prog w) A E s (jp ()) Q ET:=by
   intro B ET e1 hB EU EV EW EX;dsimp -zeta -zetaHave -zetaUnused only [jp];clear jp;refine Hc (cI ?_)
   try dsimp -zeta -zetaHave -zetaUnused only
   extract_lets -underBinder +onlyGivenNames vn1 vq1
   have Fv:vn1=n+1:=rfl;have eq1:vq1=0:=rfl
   clear_value vn1 vq1
   subst Fv eq1;refine Hc (az (Q:=fun r U=>∃ G F R neq,Kp st' U/\(Ii U).toList=L++((G++F)++R)/\((G++F)++R).Perm xs/\r=(none,(G++F).length,neq)/\F.length=neq+1/\cX lt (G++F)/\(∀ u∈F,∀ v∈F,lt u v=false))
    (IA (fun i r U=>∃ G F R neq,Kp st' U/\(Ii U).toList=L++((G++F)++R)/\((G++F)++R).Perm xs/\r=(none,(G++F).length,neq)/\F.length=neq+1/\cX lt (G++F)/\(∀ u∈F,∀ v∈F,lt u v=false)/\(G++F).length=i) ?_ ?_ ?_) ?_)
   ·rintro i r U FH hi ⟨G,F,R,neq,kp,ea,hp,rfl,hF,hN,hE,Fl⟩;subst Fl;have hlen:=hp.length_eq;rw [H9] at hlen;obtain ⟨z,R',rfl⟩:∃ z R',R=z::R':=by
     cases R with
     | nil=>simp at hlen;simp at hi;lia
     | cons z R'=>exact ⟨z,R',rfl⟩
    have Fw:F≠[]:=fun z=>by rw [z] at hF;simp at hF
    obtain ⟨F0,e,rfl⟩:∃ F0 e,F=F0++[e]:=⟨F.dropLast,F.getLast Fw,(JX _).symm⟩;have hz:(Ii U)[L.length+(G++(F0++[e])).length]? = some z:=by
     rw [ca ea rfl,D1 (by lia),Nv];rfl
    have he:(Ii U)[L.length+(G++(F0++[e])).length - 1]? = some e:=by
     rw [ca ea (n:=(G++F0).length) (by simp <;> lia),Hq (by simp <;> lia),<- Ho,D1 (by lia),Nv];rfl
    have Fm:P z:=hP z (hp.mem_iff.mp (by simp))
    have Fn:P e:=hP e (hp.mem_iff.mp (by simp))
    dsimp only;refine Hc (dG c (kp.kind.trans hk) hz he Fm Fn ?_);dsimp only;have F9:cX lt (G++F0++[e]):=by rw [Ho];exact hN
    refine ae (fun Fa=>?_) (fun Fa=>?_)
    ·have EY:lt e z=false:=c.asym _ _ Fa;refine ae (fun EZ=>?_) (fun EZ=>?_)
     ·refine Hc (jR (L:=L++G) (B:=F0++[e]) (R:=z::R') (by rw [ea];simp) (by simp only [H9] at hF ⊢;simp only [J7] at hF ⊢;lia) (by simp <;> lia) fun Z e3 Y=>?_)
      refine ab ⟨G++(F0++[e]).reverse,[z],R',0,kp.trans Y,by rw [e3];simp,?_,by simp <;> lia,rfl,?_,?_,by simp <;> lia⟩
      ·refine Kd.trans ?_ hp;rw [Ho,Ho,Ho];exact Iz _ (IH _ (Mn _))
      ·have h1:=qI hN hE;refine Hb.mpr ⟨h1,by simp,fun u j v J=>?_⟩
       simp at J;subst J;have hm:=iZ c F9 EY;refine (Hb.mp hm).2.2 u ?_ v (by simp)
       rw [Ho]
       rcases Hu.mp j with g | g
       ·exact Iv _ g
       ·exact HD _ (Lu.mp g)
      ·intro u j v J;simp at j J;subst j J;exact c.irr
     ·refine ab ⟨G++(F0++[e]),[z],R',0,kp,by rw [ea];simp,by simpa using hp,by simp <;> lia,rfl,?_,?_,by simp <;> lia⟩
      ·have hm:=iZ c F9 EY;simpa using hm
      ·intro u j v J;simp at j J;subst j J;exact c.irr
    ·have Fx:lt z e=false:=by simpa using Fa
     refine Hc (dG c (kp.kind.trans hk) he hz Fn Fm ?_);dsimp only;refine ae (fun Fo=>?_) (fun Fo=>?_)
     ·exact ab ⟨G,F0++[e],z::R',neq,kp,ea,hp,rfl,hF,hN,hE⟩
     ·have EY:lt e z=false:=by simpa using Fo
      refine ab ⟨G,(F0++[e])++[z],R',neq+1,kp,by rw [ea];simp,by simpa using hp,by simp <;> lia,by simp at hF ⊢;lia,?_,?_,by simp <;> lia⟩
      ·have hm:=iZ c F9 EY;simpa using hm
      ·have Fy:∀ u∈F0++[e],lt u z=false:=fun u j=>by
        cases q1:lt u z with
        | false=>rfl
        | true=>rcases c.neg u e z q1 with r | r
                ·rw [hE u j e (by simp)] at r;cases r
                ·rw [EY] at r;cases r
       have Fz:∀ u∈F0++[e],lt z u=false:=fun u j=>by
        cases q1:lt z u with
        | false=>rfl
        | true=>rcases c.neg z e u q1 with r | r
                ·rw [Fx] at r;cases r
                ·rw [hE e (by simp) u j] at r;cases r
       intro u j v J
       rcases Hu.mp j with g | g <;> rcases Hu.mp J with g2 | g2
       ·exact hE u g v g2
       ·simp at g2;subst g2;exact Fy u g
       ·simp at g;subst g;exact Fz v g2
       ·simp at g g2;subst g g2;exact c.irr
   ·rintro r U ⟨G,F,R,neq,kp,ea,hp,hr,hF,hN,hE,Fl⟩;exact ⟨G,F,R,neq,kp,ea,hp,hr,hF,hN,hE⟩
   ·refine ⟨B,[x],xs.drop (n+1),0,EX,by rw [e1];simp,?_,by simp [EU],rfl,?_,?_,by simp [EU]⟩
    ·have h9:(B++x::xs.drop (n+1)).Perm xs:=by
      have h9:=IH (x::xs.drop (n+1)) hB;rw [<- exs] at h9;exact h9
     simpa using h9
    ·refine Hb.mpr ⟨List.Pairwise.imp_of_mem (fun j J _=>EV _ j _ J) (List.pairwise_of_forall_mem_list (r:=fun _ _=>True) fun _ _ _ _=>trivial),by simp,fun u j v J=>?_⟩
     simp at J;subst J
     cases q1:lt u v with
     | false=>rfl
     | true=>rcases c.neg u y v q1 with r | r
             ·rw [EV u j y EW] at r;cases r
             ·rw [c.asym _ _ Fu] at r;cases r
    ·intro u j v J;simp at j J;subst j J;exact c.irr
   ·rintro r U ⟨G,F,R,neq,kp,ea,hp,rfl,hF,hN,hE⟩;dsimp -zeta -zetaHave -zetaUnused only
    extract_lets -underBinder +onlyGivenNames vr vs vn2 vq2
    dsimp -zeta -zetaHave -zetaUnused only [vr];have FA:vn2=(G++F).length:=rfl;have eq2:neq=vq2:=rfl
    clear_value vn2 vq2
    clear vs vr;subst FA eq2
    extract_lets -underBinder +onlyGivenNames F1
    have F6:∀ (D:List Hf) (Z:IC),(Ii Z).toList=L++(D++R)->cX lt D->(D++R).Perm xs->D.length=(G++F).length->0 < D.length->Kp st' Z->wpS (Hx prog w) A E s (F1 ()) Q Z:=by
     intro D Z e3 Fb Fc F3 F7 Y;dsimp -zeta -zetaHave -zetaUnused only [F1];clear F1;have FB : 0 < D.length:=by lia
     refine Hc (jR (L:=L) (B:=D) (R:=R) e3 rfl (by rw [F3]) fun Fp e4 Fq=>?_)
     have o4:Ord lt D.reverse:=P4.mpr Fb;have F4:(D.reverse++R).Perm xs:=(IH _ (Mn D)).trans Fc;have Fr:(D.reverse++R).length=xs.length:=F4.length_eq;have Fd:Ord lt ((D.reverse++R).take D.length):=by
      rw [List.take_append_of_le_length (by simp),Mm (by simp)];exact o4
     have Fe:∀ u∈D.reverse++R,P u:=fun u j=>hP u (F4.mem_iff.mp j);have FC:D.length<=xs.length:=by rw [<- Fr];simp
     rw [<- F3];generalize D.length=N0 at Fd FB FC;generalize D.reverse++R=ys at e4 F4 Fr Fd Fe;refine Hc (az (Q:=fun r ES=>ES=Fp /\ ∃ n,r=(none,n)/\1<=n/\n<=xs.length/\Ord lt (ys.take n))
      (IA (fun i r ES=>ES=Fp/\r=(none,i)/\Ord lt (ys.take i)) ?_ ?_ ⟨rfl,rfl,Fd⟩) ?_)
     ·rintro i r ES h1 hi ⟨rfl,rfl,ho⟩;dsimp only;obtain ⟨u,j⟩:∃ u,ys[i]? = some u:=⟨_,D0 (by lia)⟩
      obtain ⟨v,J⟩:∃ v,ys[i - 1]? = some v:=⟨_,D0 (by lia)⟩
      refine Hc (dG c ((Y.trans Fq).kind.trans hk) ((ca e4 rfl).trans j) ((ca e4 (by lia)).trans J) (Fe _ (HH j)) (Fe _ (HH J)) ?_)
      dsimp only;refine ae (fun h=>?_) (fun h=>?_)
      ·exact ab ⟨rfl,i,rfl,by lia,by lia,ho⟩
      ·exact ab ⟨rfl,rfl,oH c ho (by lia) j J (by simpa using h)⟩
     ·rintro r ES ⟨rfl,rfl,ho⟩;exact ⟨rfl,_,rfl,by lia,by lia,ho⟩
     ·rintro r ES ⟨rfl,m,rfl,FI,FJ,ho⟩;refine ab ?_;have:=q (ys.take m) (ys.drop m) ES (by rw [e4,JG]) (perm_take.trans F4) (fun z=>by
       have h3:=congrArg MX z;rw [HR,Jd] at h3;lia) ho (Y.trans Fq)
      rw [HR,LL (by lia)] at this
      exact this
    clear_value F1
    refine ae (fun EZ=>?_) (fun EZ=>?_)
    ·refine Hc (jR (L:=L++G) (B:=F) (R:=R) (by rw [ea];simp) (by simp <;> lia) (by simp <;> lia) fun Z e3 Y=>?_)
     have Y:=kp.trans Y;have e3:(Ii Z).toList=L++((G++F.reverse)++R):=by rw [e3];simp
     have Fb:=qI hN hE;have Fc:((G++F.reverse)++R).Perm xs:=(IH _ (Iz _ (Mn _))).trans hp;have F3:(G++F.reverse).length=(G++F).length:=by simp
     have F7 : 0 < (G++F.reverse).length:=by simp <;> lia
     exact F6 _ _ e3 Fb Fc F3 F7 Y
    ·exact F6 _ _ ea hN hp rfl (by simp <;> lia) kp
  clear_value jp
  refine ae (fun h1=>?_) (fun h1=>?_)
  ·obtain ⟨x0,Ff⟩:∃ x0,xs[0]? = some x0:=⟨_,D0 Fh⟩;refine Hc (dG c hk ((ca O (n:=0) (by lia)).trans Ff) ((ca O (by lia)).trans hy) (hP _ (HH Ff)) (hP _ (HH hy)) ?_)
   dsimp only;refine ae (fun hr=>ab F5) (fun hr=>?_);have hr:lt x0 y=false:=by simpa using hr
   have Fs:∀ u∈xs.take n,lt u x0=false:=fun u j=>by
    obtain ⟨i,hi,eu⟩:=Jb.mp j;have Fg:(xs.take n)[i]? = some u:=by rw [<- eu];exact D0 hi
    have F8:(xs.take n)[0]? = some x0:=by rw [Lz (by lia)];exact Ff
    by_cases hi0:i=0
    ·subst hi0;rw [F8] at Fg;cases Fg;exact c.irr
    ·exact fe ho (by lia) F8 Fg
   have FE:∀ u∈xs.take n,lt y u=false:=i4 c ho (by lia) hy c.irr
   have heq:∀ u∈xs.take n,∀ v∈xs.take n,lt u v=false:=fun u j v J=>by
    exact c.le_trans (c.le_trans (FE v J) hr) (Fs u j)
   refine Hc (jR (L:=L) (B:=xs.take n) (R:=x::xs.drop (n+1)) (by rw [O];exact congrArg (L ++ ·) exs) rfl (by rw [HR,LL Fi]) fun ET e1 EX=>?_)
   have hB:(xs.take n).reverse.Perm (xs.take n):=Mn _;have EU:(xs.take n).reverse.length=n:=by rw [PY,HR];lia
   have EV:∀ u∈(xs.take n).reverse,∀ v∈(xs.take n).reverse,lt u v=false:=fun u j v J=>heq u (Lu.mp j) v (Lu.mp J);have EW:y∈(xs.take n).reverse:=Lu.mpr Fj;exact Fk _ _ e1 hB EU EV EW EX
  ·have ET:=st';have hn:n=1:=by lia
   have EX:Kp st' st':=Kp.refl;have e1:(Ii st').toList=L++(xs.take n++x::xs.drop (n+1)):=by rw [O];exact congrArg (L ++ ·) exs
   have hB:(xs.take n).Perm (xs.take n):=NS _;have EU:(xs.take n).length=n:=by rw [HR];lia
   have EW:=Fj;have EV:∀ u∈xs.take n,∀ v∈xs.take n,lt u v=false:=fun u j v J=>by
    have e0:xs.take n=[y]:=by
     subst hn;rw [cJ (by lia) hy];rfl
    rw [e0] at j J;simp at j J;subst j J;exact c.irr
   exact Fk _ _ e1 hB EU EV EW EX
end
end Srt
end L2
namespace L2
namespace Srt
open PySem PySem.Spec PyProof.Rows
section
variable {prog:HB} {w:HX} {A:I0} {E:hH->tv->Prop} {s:tv} {kd:LF} {P:Hf->Prop} {lt:Hf->Hf->Bool}
theorem uQ (c:Cm prog w A s kd P lt) {L r R:List Hf} {n:Nat} {st:IC} {Q:Bool->IC->Prop} (hk:Jh st=kd) (Z:(Ii st).toList=L++(r++R)) (h0:r≠[]) (ho:Ord lt r) (hn:r.length<=n) (ES:n<=(r++R).length) (hP:∀ x∈r++R,P x)
 (q:∀ r' R' st',(Ii st').toList=L++(r'++R')->(r'++R').Perm (r++R)->r'.length=n->Ord lt r'->Kp st st'->Q true st'):wpS (Hx prog w) A E s (binarySort' L.length n r.length) Q st:=by
 have EY : 0 < r.length:=Il.mpr h0;rw [binarySort'_eq];refine Hc (az (Q:=fun x st'=>x=(none,()) /\ ∃ D T,Kp st st'/\(Ii st').toList=L++(D++T)/\(D++T).Perm (r++R)/\D.length=n/\Ord lt D)
  (IA (fun i x st'=>x=(none,()) /\ ∃ D T,Kp st st'/\(Ii st').toList=L++(D++T)/\(D++T).Perm (r++R)/\D.length=i/\Ord lt D) ?_ ?_ ⟨rfl,r,R,Kp.refl,Z,NS _,by lia,ho⟩) ?_)
 ·rintro k x B EZ F1 ⟨rfl,D,T,kp,ea,J,hD,O⟩;dsimp only;subst hD;have hlen:=J.length_eq;rw [H9] at hlen;obtain ⟨z,T',rfl⟩:∃ z T',T=z::T':=by
   cases T with
   | nil=>simp at hlen ES;lia
   | cons z T'=>exact ⟨z,T',rfl⟩
  have ET:∀ u∈D,P u:=fun u G=>hP u (J.mem_iff.mp (Iv _ G));have EU:P z:=hP z (J.mem_iff.mp (by simp))
  have hz:(Ii B)[L.length+D.length]? = some z:=by
   rw [ca ea rfl,D1 (by lia),Nv];rfl
  refine Hc (az (Q:=fun x st'=>st'=B /\ ∃ k,x=(none,k,k)/\Gal lt false z D k k)
   (IA (fun i x st'=>st'=B /\ ∃ lo hi,x=(none,lo,hi)/\Gal lt false z D lo hi/\hi - lo+i<=D.length) ?_ ?_ ⟨rfl,0,D.length,rfl,⟨by lia,by lia,fun _ _ h=>by lia,fun i x hi hx=>by
     have:=(Hy.mp hx).1;lia⟩,by lia⟩) ?_)
  ·rintro i x U _ hi ⟨rfl,lo,j,rfl,F,hm⟩;dsimp only;have hl:=F.le;have EV:=F.len;refine ae (fun EW=>?_) (fun EW=>?_)
   ·exact ab ⟨rfl,j,by rw [show lo=j by lia],by rw [show lo=j by lia] at F;exact F⟩
   ·obtain ⟨u,G⟩:∃ u,D[(lo+j) / 2]? = some u:=⟨_,D0 (by lia)⟩
    have EX:(Ii U)[L.length+(lo+j) / 2]? = some u:=by
     rw [ca ea rfl,Hq (by lia)];exact G
    refine Hc (dG c (kp.kind.trans hk) hz EX EU (ET _ (HH G)) ?_);dsimp only;refine ae (fun hf=>?_) (fun hf=>?_)
    ·exact ab ⟨rfl,_,_,rfl,⟨by lia,by lia,F.up,i3 c O G (by simp [bey,hf])⟩,by lia⟩
    ·exact ab ⟨rfl,_,_,rfl,⟨by lia,EV,hJ c O G (by simpa [bey] using hf),F.dn⟩,by lia⟩
  ·rintro x U ⟨rfl,lo,j,rfl,F,hm⟩;have hl:=F.le;exact ⟨rfl,j,by rw [show lo=j by lia],by rw [show lo=j by lia] at F;exact F⟩
  ·rintro x U ⟨rfl,l,rfl,F⟩;dsimp only;obtain ⟨X,Y,e,hl,hX,hY⟩:=F.out;subst hl e;rw [moveDown'_eq];refine Hc (JJ ?_);refine ab ⟨rfl,X++z::Y,T',kp.trans ⟨rfl,rfl,rfl⟩,qi ea (by simp) (by simp;lia),?_,by simp;lia,?_⟩
   ·refine Kd.trans ?_ J;rw [Ho,Ho];refine Iz _ ?_;rw [Ow];exact List.perm_middle.symm
   ·obtain ⟨o1,o2,o3⟩:=Hb.mp O;refine Hb.mpr ⟨o1,LN.mpr ⟨fun u G=>c.asym _ _ (by have:=hY u G;simpa [bey] using this),o2⟩,fun u G v hv=>?_⟩
    rcases He.mp hv with g | g
    ·subst g;have:=hX u G;simpa [bey] using this
    ·exact o3 u G v g
 ·rintro x B ⟨rfl,D,T,kp,ea,J,hD,O⟩;exact ⟨rfl,D,T,kp,ea,J,by lia,O⟩
 ·rintro x B ⟨rfl,D,T,kp,ea,J,hD,O⟩;exact ab (q D T B ea J hD O kp)
noncomputable def Pd:Nat->List (List Hf)->List (Nat×Nat×Nat)->Prop
 | _,[],ps=>ps=[]
 | s,r::rs,ps=>∃ p t,ps=(s,r.length,p)::t/\Pd (s+r.length) rs t
theorem Pd.split:∀ {l t:List (List Hf)} {s:Nat} {ps:List (Nat×Nat×Nat)},Pd s (l++t) ps -> ∃ pl pt,ps=pl++pt/\pl.length=l.length/\Pd s l pl/\Pd (s+l.flatten.length) t pt
 | [],t,s,ps,h=>⟨[],ps,rfl,rfl,rfl,by simpa using h⟩
 | r::l,t,s,ps,h=>by
   obtain ⟨p,q,e,h⟩:=h;obtain ⟨pl,pt,j,z,h1,h2⟩:=Pd.split h;refine ⟨(s,r.length,p)::pl,pt,by rw [e,j];rfl,by simp [z],⟨p,pl,rfl,h1⟩,?_⟩
   rw [IG,H9,<- Q8];exact h2
theorem Pd.join:∀ {l t:List (List Hf)} {s:Nat} {pl pt:List (Nat×Nat×Nat)},Pd s l pl->Pd (s+l.flatten.length) t pt->Pd s (l++t) (pl++pt)
 | [],t,s,pl,pt,h,g=>by
  have:pl=[]:=h;subst this;simpa using g
 | r::l,t,s,pl,pt,h,g=>by
   obtain ⟨p,q,e,h⟩:=h;subst e;refine ⟨p,q++pt,rfl,Pd.join h ?_⟩;rw [IG,H9,<- Q8] at g;exact g
theorem Pd.length:∀ {l:List (List Hf)} {s:Nat} {ps:List (Nat×Nat×Nat)},Pd s l ps->ps.length=l.length
 | [],_,_,h=>by rw [show _=[] from h];rfl
 | r::l,s,ps,h=>by
   obtain ⟨p,q,e,h⟩:=h;rw [e];simp [h.length]
structure Rn (lt:Hf->Hf->Bool) (kd:LF) (a₀:List Hf) (st:IC) (rs:List (List Hf)) (R:List Hf):Prop where
 arr:(Ii st).toList=rs.flatten++R
 perm:(rs.flatten++R).Perm a₀
 ord:∀ r∈rs,r≠[]/\Ord lt r
 pend:Pd 0 rs (Hw st).toList
 kind:Jh st=kd
 fail:K1 st=none
theorem Rn.merge (c:Cm prog w A s kd P lt) {a₀:List Hf} (hP:∀ x∈a₀,P x) {st:IC} {l t:List (List Hf)} {j F R:List Hf} (h:Rn lt kd a₀ st (l++j::F::t) R) {i:Nat} (hi:i=l.length) {Q:Bool->IC->Prop}
 (q:∀ m st',Rn lt kd a₀ st' (l++m::t) R->m.length=j.length+F.length->Q true st'):wpS (Hx prog w) A E s (Sf i) Q st:=by
 obtain ⟨g,lo,EX,⟨O,U,Y⟩,Z⟩:=E2 (E:=E) c;obtain ⟨pl,pt,ep,J,ES,ET⟩:=h.pend.split;obtain ⟨L,t1,e1,EU⟩:=ET;obtain ⟨p2,t2,e2,EV⟩:=EU;subst e1 e2;have o1:=h.ord j (by simp)
 have o2:=h.ord F (by simp)
 have G:∀ x,x∈j∨x∈F->P x:=fun x hx=>hP x (h.perm.mem_iff.mp (by simp only [K5,IG,Hu];rcases hx with z | z <;> simp [z]))
 have ip:∀ (k:Nat) (v:Nat×Nat×Nat),(Hw st).toList[k]? = some v->(Hw st)[k]? = some v:=fun k v e=>by rw [<- Hz];exact e
 refine Z O (U O) (Y O) i (0+l.flatten.length) j.length L (0+l.flatten.length+j.length) F.length p2 l.flatten j F (t.flatten++R) st Q h.kind h.fail (ip _ _ ?_) (ip _ _ ?_) (by rw [h.arr];simp) (Nw _) rfl (by lia) rfl o1.1 o2.1 (fun x hx=>G x (.inl hx)) (fun x hx=>G x (.inr hx)) o1.2 o2.2 ?_
 ·rw [ep,hi,<- J,D1 (by lia),Nv];rfl
 ·rw [ep,hi,<- J,D1 (by lia),show pl.length+1 - pl.length=1 by lia];rfl
 ·intro m st' ea hm om hk hf EW;have B:m.length=j.length+F.length:=by rw [hm.length_eq];simp
  refine q m st' ⟨by rw [ea];simp,?_,?_,?_,hk,hf⟩ B
  ·refine Kd.trans ?_ h.perm;simp only [K5,IG,Ho];refine Iz _ ?_;rw [<- Ho j];exact IH _ hm
  ·intro r hr
   rcases Hu.mp hr with z | z
   ·exact h.ord r (Iv _ z)
   ·rcases He.mp z with z | z
    ·subst z;exact ⟨fun z=>by rw [z] at B;have:=Il.mpr o1.1;simp at B;lia,om⟩
    ·exact h.ord r (by simp [z])
  ·rw [EW];have e3:(((Hw st).setIfInBounds i (0+l.flatten.length,j.length+F.length,L)).eraseIdxIfInBounds (i+1)).toList=pl++(0+l.flatten.length,j.length+F.length,L)::t2:=by
    rw [Array.toList_eraseIdxIfInBounds,NR,ep,hi,<- J];rw [List.set_append_right _ _ (by lia),Nv,List.eraseIdx_append_of_length_le (by lia),show pl.length+1 - pl.length=1 by lia];rfl
   rw [e3];refine ES.join ⟨L,t2,by rw [B],?_⟩
   rw [B,<- Q8];exact EV
theorem oI {α:Type} {l:List α} (h : 1 < l.length):∃ t a b,l=t++[a,b]:=by
 obtain ⟨t1,b,j⟩:∃ t b,l=t++[b]:=⟨l.dropLast,l.getLast (fun z=>by rw [z] at h;simp at h),(JX _).symm⟩
 obtain ⟨q,a,B⟩:∃ t b,t1=t++[b]:=⟨t1.dropLast,t1.getLast (fun z=>by rw [j,z] at h;simp at h),(JX _).symm⟩
 exact ⟨q,a,b,by rw [j,B];simp⟩
theorem CD {α:Type} {l:List α} {i:Nat} (h:i+1 < l.length):∃ t a b u,l=t++a::b::u/\t.length=i:=by
 refine ⟨l.take i,l[i],l[i+1],l.drop (i+2),?_,by rw [HR];lia⟩
 rw [<- IZ (by lia),<- IZ (by lia),JG]
theorem Rn.size {a₀:List Hf} {st:IC} {rs:List (List Hf)} {R:List Hf} (h:Rn lt kd a₀ st rs R):rs.flatten.length+R.length=a₀.length:=by
 have:=h.perm.length_eq;rw [H9] at this;exact this
theorem qJ:∀ {rs:List (List Hf)},(∀ r∈rs,r≠[])->rs.length<=rs.flatten.length
 | [],_=>by simp
 | r::rs,h=>by
   have h1:=Il.mpr (h r (by simp))
   have h2:=qJ (rs:=rs) fun r j=>h r (by simp [j])
   rw [IG,H9,Io];lia
theorem uR {l:List (List Hf)} {s pw:Nat} {ps:Array (Nat×Nat×Nat)} (h:Pd s l ps.toList):Pd s l (ps.modify (ps.size - 1) fun x=>(x.1,x.2.1,pw)).toList:=by
 rw [Array.toList_modify];have g:∀ (l:List (List Hf)) (s k:Nat) (ps:List (Nat×Nat×Nat)),Pd s l ps->Pd s l (ps.modify k fun x=>(x.1,x.2.1,pw)):=by
  intro l
  induction l with
  | nil=>intro s k ps h;have:ps=[]:=h;subst this;cases k <;> rfl
  | cons r l ih =>
    intro s k ps h;obtain ⟨p,t,e,h⟩:=h;subst e
    cases k with
    | zero=>exact ⟨pw,t,rfl,h⟩
    | succ k=>exact ⟨p,_,rfl,ih _ k t h⟩
 exact g _ _ _ _ h
theorem qk (c:Cm prog w A s kd P lt) {st:IC} {Q:Unit->IC->Prop} (hk:Jh st=kd) (hf:K1 st=none) (hp:Hw st = #[]) (hP:∀ x∈(Ii st).toList,P x)
 (q:∀ st',(Ii st').toList.Perm (Ii st).toList->Ord lt (Ii st').toList->K1 st'=none->Q () st'):wpS (Hx prog w) A E s sortRuns' Q st:=by
 rw [sortRuns'_eq];refine Hc (LK ?_)
 try dsimp only
 have hsz:(Ii st).size=(Ii st).toList.length:=by simp
 generalize hA:(Ii st).toList=a₀ at hP q hsz;generalize hS:(Ii st).size=size at hsz;generalize minRun' size size 0=minrun;refine Hc (az (Q:=fun r st'=>∃ rs lo,r=(none,lo)/\Rn lt kd a₀ st' rs [])
  (IA (fun i r st'=>∃ rs R,r=(none,rs.flatten.length)/\Rn lt kd a₀ st' rs R/\i<=rs.flatten.length) ?_ ?_ ⟨[],a₀,rfl,⟨by simpa using hA,by simp,by simp,by rw [hp];rfl,hk,hf⟩,by simp⟩) ?_)
 ·rintro i r EZ _ hi ⟨rs,R,rfl,L,EW⟩
  try dsimp only
  have Fc:=L.size;refine ae (fun F9=>?_) (fun F9=>?_)
  ·have:R=[]:=Ia.mp (by lia)
   subst this;exact ab ⟨rs,_,rfl,L⟩
  ·have F1:size - rs.flatten.length=R.length:=by lia
   have Fa:R≠[]:=fun z=>by rw [z,Jd] at F1;lia
   have F3:∀ x∈R,P x:=fun x hx=>hP x (L.perm.mem_iff.mp (HD _ hx));rw [F1];refine Hc (qj c L.kind L.arr Fa F3 fun r R1 J ea ES U ho kp=>?_)
   try dsimp only
   have F:Rn lt kd a₀ J rs (r++R1):=⟨ea,(Iz _ ES).trans L.perm,L.ord,by rw [kp.pend];exact L.pend,kp.kind.trans L.kind,kp.fail.trans L.fail⟩
   have F4:r.length+R1.length=R.length:=by rw [<- ES.length_eq];simp
   refine ae (fun EX=>?_) (fun EX=>?_)
   ·refine Hc (cI ?_);refine Hc (uQ c F.kind F.arr U ho (n:=min R.length minrun) (by lia) (by simp;lia) (fun x hx=>F3 x (ES.mem_iff.mp hx)) fun r2 R2 B F5 EV G Fb EU=>?_)
    try dsimp only
    refine ae (fun h=>absurd h (by simp)) (fun _=>?_)
    have F6:r2≠[]:=fun z=>by
     rw [z] at G;simp at G;have:=Il.mpr U;lia
    have F:Rn lt kd a₀ B rs (r2++R2):=⟨F5,(Iz _ EV).trans F.perm,F.ord,by rw [EU.pend];exact F.pend,EU.kind.trans F.kind,EU.fail.trans F.fail⟩
    rw [<- G];clear G EV F5 EU ea ES kp F4 EX;generalize B=J at F;clear ho U;have ho:=Fb;have U:=F6;generalize r2=r at F ho U;generalize R2=R1 at F;refine Hc (LK ?_)
    try dsimp only
    have F7:(Hw J).size=rs.length:=by rw [<- HI];exact F.pend.length
    cases hb:(Hw J).back? with
    | none =>
      try dsimp only
      have HL:rs.flatten.length=rs.flatten.length:=rfl;refine Hc (JJ ?_);have EY:=Il.mpr U;have Y:(rs++[r]).flatten.length=rs.flatten.length+r.length:=by rw [K5,H9,HL];simp
      refine ab ⟨rs++[r],R1,by rw [Y],⟨by rw [show _=_ from F.arr];simp,?_,?_,?_,F.kind,F.fail⟩,by rw [Y];lia⟩
      ·refine Kd.trans (L4 (by simp)) F.perm
      ·intro u hu
       rcases Hu.mp hu with z | z
       ·exact F.ord u z
       ·simp at z;subst z;exact ⟨U,ho⟩
      ·have h8:(Hw (LO J ((Hw J).push (rs.flatten.length,r.length,0)))).toList=(Hw J).toList++[(rs.flatten.length,r.length,0)]:=by
        show ((Hw J).push _).toList=_;rw [Hr]
       rw [show _=_ from h8];exact F.pend.join ⟨0,[],by rw [HL,Nw],rfl⟩
    | some v =>
      obtain ⟨s1,n1,p1⟩:=v
      try dsimp only
      refine Hc (az (Q:=fun x st'=>x=(none,()) /\ ∃ rs',Rn lt kd a₀ st' rs' (r++R1)/\rs'.flatten.length=rs.flatten.length)
       (IA (fun i x st'=>x=(none,()) /\ ∃ rs',Rn lt kd a₀ st' rs' (r++R1)/\rs'.flatten.length=rs.flatten.length) ?_ ?_ ⟨rfl,rs,F,rfl⟩) ?_)
      ·rintro j x B _ hj ⟨rfl,rs',O,G⟩;refine Hc (LK ?_)
       try dsimp only
       have ET:(Hw B).size=rs'.length:=by rw [<- HI];exact O.pend.length
       by_cases h1:(Hw B).size > 1
       ·rw [if_pos h1];have h2:(Hw B)[(Hw B).size - 2]? = some ((Hw B)[(Hw B).size - 2]'(by lia)):=HC (by lia)
        rw [h2]
        try dsimp only
        refine ae (fun h=>?_) (fun h=>?_)
        ·exact ab ⟨rfl,rs',O,G⟩
        ·obtain ⟨t,a,b,e⟩:=oI (l:=rs') (by lia)
         subst e;refine Hc (O.merge c hP (by rw [ET];simp) fun m Z h4 hm=>?_)
         refine ae (fun h=>absurd h (by simp)) (fun _=>ab ⟨rfl,_,h4,?_⟩)
         rw [<- G];simp [hm]
       ·rw [if_neg h1];exact ab ⟨rfl,rs',O,G⟩
      ·rintro x B ⟨rfl,rs',O,G⟩;exact ⟨rfl,rs',O,G⟩
      ·rintro x B ⟨rfl,rs',O,G⟩
       try dsimp only
       refine Hc (JJ ?_);have h4:Rn lt kd a₀ (LO B ((Hw B).modify ((Hw B).size - 1) fun x=>(x.1,x.2.1,power' size (2*s1+n1) (2*s1+n1+n1+r.length) size))) rs' (r++R1):=⟨O.arr,O.perm,O.ord,uR O.pend,O.kind,O.fail⟩;generalize F8:LO B ((Hw B).modify ((Hw B).size - 1) fun x=>(x.1,x.2.1,power' size (2*s1+n1) (2*s1+n1+n1+r.length) size))=Z at h4;have HL:=G;refine Hc (JJ ?_);have EY:=Il.mpr U;have Y:(rs'++[r]).flatten.length=rs.flatten.length+r.length:=by rw [K5,H9,HL];simp
       refine ab ⟨rs'++[r],R1,by rw [Y],⟨by rw [show _=_ from h4.arr];simp,?_,?_,?_,h4.kind,h4.fail⟩,by rw [Y];lia⟩
       ·refine Kd.trans (L4 (by simp)) h4.perm
       ·intro u hu
        rcases Hu.mp hu with z | z
        ·exact h4.ord u z
        ·simp at z;subst z;exact ⟨U,ho⟩
       ·have h8:(Hw (LO Z ((Hw Z).push (rs.flatten.length,r.length,0)))).toList=(Hw Z).toList++[(rs.flatten.length,r.length,0)]:=by
         show ((Hw Z).push _).toList=_;rw [Hr]
        rw [show _=_ from h8];exact h4.pend.join ⟨0,[],by rw [HL,Nw],rfl⟩
   ·clear ea ES kp F4 EX;refine Hc (LK ?_)
    try dsimp only
    have F7:(Hw J).size=rs.length:=by rw [<- HI];exact F.pend.length
    cases hb:(Hw J).back? with
    | none =>
      try dsimp only
      have HL:rs.flatten.length=rs.flatten.length:=rfl;refine Hc (JJ ?_);have EY:=Il.mpr U;have Y:(rs++[r]).flatten.length=rs.flatten.length+r.length:=by rw [K5,H9,HL];simp
      refine ab ⟨rs++[r],R1,by rw [Y],⟨by rw [show _=_ from F.arr];simp,?_,?_,?_,F.kind,F.fail⟩,by rw [Y];lia⟩
      ·refine Kd.trans (L4 (by simp)) F.perm
      ·intro u hu
       rcases Hu.mp hu with z | z
       ·exact F.ord u z
       ·simp at z;subst z;exact ⟨U,ho⟩
      ·have h8:(Hw (LO J ((Hw J).push (rs.flatten.length,r.length,0)))).toList=(Hw J).toList++[(rs.flatten.length,r.length,0)]:=by
        show ((Hw J).push _).toList=_;rw [Hr]
       rw [show _=_ from h8];exact F.pend.join ⟨0,[],by rw [HL,Nw],rfl⟩
    | some v =>
      obtain ⟨s1,n1,p1⟩:=v
      try dsimp only
      refine Hc (az (Q:=fun x st'=>x=(none,()) /\ ∃ rs',Rn lt kd a₀ st' rs' (r++R1)/\rs'.flatten.length=rs.flatten.length)
       (IA (fun i x st'=>x=(none,()) /\ ∃ rs',Rn lt kd a₀ st' rs' (r++R1)/\rs'.flatten.length=rs.flatten.length) ?_ ?_ ⟨rfl,rs,F,rfl⟩) ?_)
      ·rintro j x B _ hj ⟨rfl,rs',O,G⟩;refine Hc (LK ?_)
       try dsimp only
       have ET:(Hw B).size=rs'.length:=by rw [<- HI];exact O.pend.length
       by_cases h1:(Hw B).size > 1
       ·rw [if_pos h1];have h2:(Hw B)[(Hw B).size - 2]? = some ((Hw B)[(Hw B).size - 2]'(by lia)):=HC (by lia)
        rw [h2]
        try dsimp only
        refine ae (fun h=>?_) (fun h=>?_)
        ·exact ab ⟨rfl,rs',O,G⟩
        ·obtain ⟨t,a,b,e⟩:=oI (l:=rs') (by lia)
         subst e;refine Hc (O.merge c hP (by rw [ET];simp) fun m Z h4 hm=>?_)
         refine ae (fun h=>absurd h (by simp)) (fun _=>ab ⟨rfl,_,h4,?_⟩)
         rw [<- G];simp [hm]
       ·rw [if_neg h1];exact ab ⟨rfl,rs',O,G⟩
      ·rintro x B ⟨rfl,rs',O,G⟩;exact ⟨rfl,rs',O,G⟩
      ·rintro x B ⟨rfl,rs',O,G⟩
       try dsimp only
       refine Hc (JJ ?_);have h4:Rn lt kd a₀ (LO B ((Hw B).modify ((Hw B).size - 1) fun x=>(x.1,x.2.1,power' size (2*s1+n1) (2*s1+n1+n1+r.length) size))) rs' (r++R1):=⟨O.arr,O.perm,O.ord,uR O.pend,O.kind,O.fail⟩;generalize F8:LO B ((Hw B).modify ((Hw B).size - 1) fun x=>(x.1,x.2.1,power' size (2*s1+n1) (2*s1+n1+n1+r.length) size))=Z at h4;have HL:=G;refine Hc (JJ ?_);have EY:=Il.mpr U;have Y:(rs'++[r]).flatten.length=rs.flatten.length+r.length:=by rw [K5,H9,HL];simp
       refine ab ⟨rs'++[r],R1,by rw [Y],⟨by rw [show _=_ from h4.arr];simp,?_,?_,?_,h4.kind,h4.fail⟩,by rw [Y];lia⟩
       ·refine Kd.trans (L4 (by simp)) h4.perm
       ·intro u hu
        rcases Hu.mp hu with z | z
        ·exact h4.ord u z
        ·simp at z;subst z;exact ⟨U,ho⟩
       ·have h8:(Hw (LO Z ((Hw Z).push (rs.flatten.length,r.length,0)))).toList=(Hw Z).toList++[(rs.flatten.length,r.length,0)]:=by
         show ((Hw Z).push _).toList=_;rw [Hr]
        rw [show _=_ from h8];exact h4.pend.join ⟨0,[],by rw [HL,Nw],rfl⟩
 ·rintro r EZ ⟨rs,R,rfl,L,EW⟩;have:=L.size;have:R=[]:=Ia.mp (by lia)
  subst this;exact ⟨rs,_,rfl,L⟩
 ·rintro r EZ ⟨rs,lo,rfl,L⟩
  try dsimp only
  refine Hc (az (Q:=fun r st'=>r=(none,()) /\ ∃ rs,Rn lt kd a₀ st' rs []/\rs.length<=1)
   (IA (fun i r st'=>r=(none,()) /\ ∃ rs,Rn lt kd a₀ st' rs []/\rs.length+i<=size) ?_ ?_ ⟨rfl,rs,L,?_⟩) ?_)
  ·rintro i r J _ hi ⟨rfl,rs,L,EW⟩;refine Hc (LK ?_)
   try dsimp only
   have F7:(Hw J).size=rs.length:=by rw [<- HI];exact L.pend.length
   refine ae (fun h=>?_) (fun h=>?_)
   ·exact ab ⟨rfl,rs,L,by lia⟩
   ·have go:∀ k,k+1 < rs.length->wpS (Hx prog w) A E s (Sf k) (fun b st'=>b=true /\ ∃ rs',Rn lt kd a₀ st' rs' []/\rs'.length+1=rs.length) J:=by
     intro k hk;obtain ⟨t,a,b,u,e,ht⟩:=CD hk;subst e;refine L.merge c hP ht.symm fun m B O _=>⟨rfl,_,O,by simp;lia⟩
    refine Hc (az (go _ ?_) ?_)
    ·(repeat' split) <;> lia
    ·rintro b B ⟨rfl,rs',O,G⟩;refine ae (fun h=>absurd h (by simp)) (fun _=>ab ⟨rfl,rs',O,by lia⟩)
  ·rintro r J ⟨rfl,rs,L,EW⟩;exact ⟨rfl,rs,L,by lia⟩
  ·have h1:=qJ fun r hr=>(L.ord r hr).1;have h2:=L.size;simp only [Jd] at h2;lia
  ·rintro r J ⟨rfl,rs,L,hl⟩;refine ab (q J (by rw [L.arr];exact L.perm) ?_ L.fail)
   rw [L.arr,IU]
   match rs,hl,L with
   | [],_,_=>exact O0
   | [r],_,L=>simpa using (L.ord r (by simp)).2
end
end Srt
end L2
namespace L2
namespace Srt
open PySem PySem.Spec PyProof.Rows
def i5 (cap:Nat):Prop:=∀ (prog:HB) (w:HX) (A:I0) (E:hH->tv->Prop) (s:tv) (kd:LF) (P:Hf->Prop) (lt:Hf->Hf->Bool),Cm prog w A s kd P lt -> ∀ (st:IC) (Q:Unit->IC->Prop),Jh st=kd->K1 st=none->Hw st = #[]->(∀ x∈(Ii st).toList,P x)->2<=(Ii st).size->(Ii st).size<=cap ->
 (∀ st',(Ii st').toList.Perm (Ii st).toList->Ord lt (Ii st').toList->K1 st'=none->Q () st')->wpS (Hx prog w) A E s sortRuns' Q st
theorem jS {cap:Nat}:i5 cap:=fun _ _ _ _ _ _ _ _ c _ _ j hf z B _ _ q=>qk c j hf z B q
end Srt
end L2
namespace L2
namespace Srt
open PySem PySem.Spec PyProof.Rows
inductive Ky where
 | int (i:Int)
 | tup (l:List Ky)
mutual
noncomputable def av:Ky->Ky->Ordering
 | .int a,.int b=>if a < b then .lt else if a=b then .eq else .gt
 | .int _,.tup _=>.lt
 | .tup _,.int _=>.gt
 | .tup a,.tup b=>cmpKs a b
noncomputable def cmpKs:List Ky->List Ky->Ordering
 | [],[]=>.eq
 | [],_::_=>.lt
 | _::_,[]=>.gt
 | x::xs,y::ys=>(av x y).then (cmpKs xs ys)
end
mutual
theorem cY:∀ a b,av b a=(av a b).swap
 | .int a,.int b=>by
  simp only [av]
  by_cases h1:a < b
  ·rw [if_pos h1,if_neg (by lia),if_neg (by lia)];rfl
  ·by_cases h2:a=b
   ·rw [if_neg h1,if_pos h2,if_neg (by lia),if_pos h2.symm];rfl
   ·rw [if_neg h1,if_neg h2,if_pos (by lia)];rfl
 | .int _,.tup _=>by simp [av]
 | .tup _,.int _=>by simp [av]
 | .tup a,.tup b=>by simp only [av];exact cmpKs_swap a b
theorem cmpKs_swap:∀ a b,cmpKs b a=(cmpKs a b).swap
 | [],[]=>rfl
 | [],_::_=>rfl
 | _::_,[]=>rfl
 | x::xs,y::ys=>by
   simp only [cmpKs];rw [cY x y,cmpKs_swap xs ys]
   cases av x y <;> rfl
end
mutual
theorem i6:∀ a b,av a b = .eq->a=b
 | .int a,.int b,h=>by
  simp only [av] at h
  by_cases h1:a < b
  ·rw [if_pos h1] at h;cases h
  ·by_cases h2:a=b
   ·rw [h2]
   ·rw [if_neg h1,if_neg h2] at h;cases h
 | .int _,.tup _,h=>by simp [av] at h
 | .tup _,.int _,h=>by simp [av] at h
 | .tup a,.tup b,h=>by simp only [av] at h;rw [cmpKs_eq a b h]
theorem cmpKs_eq:∀ a b,cmpKs a b = .eq->a=b
 | [],[],_=>rfl
 | [],_::_,h=>by simp [cmpKs] at h
 | _::_,[],h=>by simp [cmpKs] at h
 | x::xs,y::ys,h=>by
   simp only [cmpKs] at h
   cases e:av x y with
   | lt=>rw [e] at h;cases h
   | gt=>rw [e] at h;cases h
   | eq=>rw [e] at h;rw [i6 x y e,cmpKs_eq xs ys h]
end
mutual
theorem jT:∀ a b c,av a b = .lt->av b c = .lt->av a c = .lt
 | .int a,.int b,.int c,h,g=>by
  simp only [av] at h g ⊢;have h1:a < b:=by
   by_cases h1:a < b
   ·exact h1
   ·rw [if_neg h1] at h;split at h <;> cases h
  have h2:b < c:=by
   by_cases h1:b < c
   ·exact h1
   ·rw [if_neg h1] at g;split at g <;> cases g
  rw [if_pos (by lia)]
 | .int _,.tup _,.int _,_,g=>by simp [av] at g
 | .int _,.int _,.tup _,_,_=>by simp [av]
 | .int _,.tup _,.tup _,_,_=>by simp [av]
 | .tup _,.int _,_,h,_=>by simp [av] at h
 | .tup _,.tup _,.int _,_,g=>by simp [av] at g
 | .tup a,.tup b,.tup c,h,g=>by simp only [av] at h g ⊢;exact cmpKs_trans a b c h g
theorem cmpKs_trans:∀ a b c,cmpKs a b = .lt->cmpKs b c = .lt->cmpKs a c = .lt
 | [],[],_,h,_=>by simp [cmpKs] at h
 | [],_::_,[],_,g=>by simp [cmpKs] at g
 | [],_::_,_::_,_,_=>by simp [cmpKs]
 | _::_,[],_,h,_=>by simp [cmpKs] at h
 | _::_,_::_,[],_,g=>by simp [cmpKs] at g
 | x::xs,y::ys,z::zs,h,g=>by
   simp only [cmpKs] at h g ⊢
   cases e:av x y with
   | gt=>rw [e] at h;cases h
   | eq =>
     have:=i6 x y e;subst this;rw [e] at h
     cases e2:av x z with
     | gt=>rw [e2] at g;cases g
     | lt=>rfl
     | eq=>rw [e2] at g;exact cmpKs_trans xs ys zs h g
   | lt =>
     cases e2:av y z with
     | gt=>rw [e2] at g;cases g
     | lt=>rw [jT x y z e e2];rfl
     | eq =>
       have:=i6 y z e2;subst this;rw [e];rfl
end
noncomputable def ltK (a b:Ky):Bool:=av a b == .lt
noncomputable def oJ (a b:List Ky):Bool:=cmpKs a b == .lt
theorem j3 (a b:Ky) (h:ltK a b=true):ltK b a=false:=by
 unfold ltK at h ⊢;rw [cY a b,(by simpa using h:av a b = .lt)];rfl
theorem gk (a b:Ky) (h:ltK a b=false) (g:ltK b a=false):a=b:=by
 unfold ltK at h g;rw [cY a b] at g;apply i6
 cases e:av a b with
 | eq=>rfl
 | lt=>rw [e] at h;cases h
 | gt=>rw [e] at g;cases g
theorem AL (a b c:Ky) (h:ltK a c=true):ltK a b=true∨ltK b c=true:=by
 cases e:ltK a b with
 | true=>exact .inl rfl
 | false =>
   right
   cases j:ltK b a with
   | false=>rw [gk a b e j] at h;exact h
   | true =>
     unfold ltK at h j ⊢;rw [jT b a c (by simpa using j) (by simpa using h)];rfl
theorem uS (x y:Ky) (xs ys:List Ky):oJ (x::xs) (y::ys)=if (!ltK x y && !ltK y x)=true then oJ xs ys else ltK x y:=by
 unfold oJ ltK;rw [cY x y];simp only [cmpKs]
 cases av x y <;> simp
mutual
noncomputable def toK:IY->Ky
 | .int i=>.int i
 | .tuple xs=>.tup (toKs xs)
 | _=>.int 0
noncomputable def toKs:List IY->List Ky
 | []=>[]
 | x::xs=>toK x::toKs xs
end
inductive Cmpb:IY->IY->Prop where
 | int (a b:Int):Cmpb (.int a) (.int b)
 | nil (ys:List IY):Cmpb (.tuple []) (.tuple ys)
 | nil' (xs:List IY):Cmpb (.tuple xs) (.tuple [])
 | cons {x y:IY} {xs ys:List IY}:Cmpb x y->Cmpb (.tuple xs) (.tuple ys)->Cmpb (.tuple (x::xs)) (.tuple (y::ys))
theorem Cmpb.eqv {x y:IY} (h:Cmpb x y):Ik x y=(!ltK (toK x) (toK y) && !ltK (toK y) (toK x)):=by
 have g:∀ {x y:IY},Cmpb x y->Ik x y=(av (toK x) (toK y) == .eq):=by
  intro x y h
  induction h with
  | int a b =>
    simp only [Ik,toK,av]
    by_cases h1:a < b
    ·rw [if_pos h1];simp;lia
    ·by_cases h2:a=b
     ·rw [if_neg h1,if_pos h2];simp [h2]
     ·rw [if_neg h1,if_neg h2];simp;lia
  | nil ys=>cases ys <;> simp [Ik,Ih,toK,toKs,av,cmpKs]
  | nil' xs=>cases xs <;> simp [Ik,Ih,toK,toKs,av,cmpKs]
  | @cons x y xs ys h1 h2 ih1 j =>
   simp only [Ik] at j ⊢;simp only [Ih,toK,toKs,av,cmpKs] at j ⊢;rw [ih1,j]
   cases av (toK x) (toK y) <;> simp
 rw [g h];unfold ltK;rw [cY (toK x) (toK y)]
 cases av (toK x) (toK y) <;> rfl
section
variable {prog:HB} {w:HX} {A:I0} {E:hH->tv->Prop} {s:tv}
theorem trd {b:Bool} {Q:Bool->tv->Prop} (q:Q b s):Hh (Hx prog w) A (truthOfDropped (.bool b)) Q E s:=by
 unfold truthOfDropped
 wp_walk
 exact q
theorem i7 (a b:Int):ltK (.int a) (.int b)=decide (a < b):=by
 simp only [ltK,av]
 by_cases h:a < b
 ·simp [h]
 ·by_cases h2:a=b <;> simp [h,h2]
theorem uT {a b:Int} {t u:Tok} {Q:hH->tv->Prop} (q:Q (.bool (decide (a < b))) s):Hh (Hx prog w) A (MY .Lt (.int a t) (.int b u)) Q E s :=
 wpAny_richCompare_same (T:="int") rfl rfl F.slot_int_lt (call_int_lt ⟨by simp,q⟩)
noncomputable def cg:List IY->List IY->Option Bool
 | x::xs,y::ys=>if Ik x y=true then cg xs ys else some (ltK (toK x) (toK y))
 | _,_=>none
theorem j4:∀ {xs ys:List IY},Cmpb (.tuple xs) (.tuple ys)->ltK (toK (.tuple xs)) (toK (.tuple ys))=match cg xs ys with | some b=>b | none=>decide (xs.length < ys.length)
 | [],[],_=>rfl
 | [],_::_,_=>by simp [cg,toK,toKs,ltK,av,cmpKs]
 | _::_,[],_=>by simp [cg,toK,toKs,ltK,av,cmpKs]
 | x::xs,y::ys,h=>by
   cases h with
   | cons h1 h2 =>
     have ih:=j4 h2;have e:∀ a b:List Ky,ltK (.tup a) (.tup b)=oJ a b:=fun a b=>by simp [ltK,oJ,av]
     simp only [toK,toKs,e] at ih ⊢;rw [uS,<- h1.eqv];simp only [cg]
     split
     ·rw [ih];simp
     ·rfl
noncomputable def cv {α β:Type} (M:LS) (A:I0) (E:hH->tv->Prop) (f : α -> β -> Sem (ForInStep β)) (Q : β -> tv->Prop):List α -> β -> tv->Prop
 | [],c,s=>Q c s
 | x::xs,c,s=>Hh M A (f x c) (fun r s'=>match r with | .done c'=>Q c' s' | .yield c'=>cv M A E f Q xs c' s') E s
theorem fH {α β:Type} {M:LS} {f : α -> β -> Sem (ForInStep β)} {Q : β -> tv->Prop}:∀ {l:List α} {c : β} {s:tv},cv M A E f Q l c s->Hh M A (forIn l c f) Q E s
 | [],c,s,h=>by rw [NM];exact hW h
 | x::xs,c,s,h=>by
   rw [KZ];refine gV (IK h (fun r s' j=>?_) fun _ _ z=>z)
   cases r with
   | done c'=>exact hW j
   | yield c'=>exact fH j
theorem bR {h:Heap}:∀ {vs:List hH} {xs:List IY} {as:List Addr},Po h vs xs as->vs.length=xs.length
 | _,_,_,.nil=>rfl
 | _,_,_,.cons _ r=>by simp [bR r]
theorem j5 {α β:Type} {M:LS} {n:Nat} {f : α -> Option β × Unit->Sem (ForInStep (Option β × Unit))} {g:Bool -> β} {pr : α -> hH×hH} {Q:Option β × Unit->tv->Prop} :
 ∀ {l:List α} {vs us:List hH} {xs ys:List IY} {as bs:List Addr},l.map pr=vs.zip us->Po s.heap vs xs as->Po s.heap us ys bs->Cmpb (.tuple xs) (.tuple ys)->J8 xs=true->J8 ys=true->JW xs<=n ->
  (∀ (z : α) (x y:hH) (d e:IY) (as bs:List Addr) (R:ForInStep (Option β × Unit)->tv->Prop),z∈l->pr z=(x,y)->LD s.heap x d as->LD s.heap y e bs->Cmpb d e->d.canLay0=true->e.canLay0=true->d.depth<=n ->
   R (if Ik d e=true then .yield (none,()) else .done (some (g (ltK (toK d) (toK e))),())) s->Hh M A (f z (none,())) R E s) ->
  Q ((cg xs ys).map g,()) s->cv M A E f Q l (none,()) s
 | [],vs,us,xs,ys,as,bs,e,j,B,F,_,_,_,_,q=>by
  have h1:=bR j;have h2:=bR B;have:vs=[]∨us=[]:=by
   cases vs with
   | nil=>exact .inl rfl
   | cons v vs=>cases us with
     | nil=>exact .inr rfl
     | cons u us=>simp at e
  have G:cg xs ys=none:=by
   rcases this with rfl | rfl
   ·cases xs with
    | nil=>simp [cg]
    | cons x xs=>simp at h1
   ·cases ys with
    | nil=>cases xs <;> simp [cg]
    | cons y ys=>simp at h2
  rw [G] at q;exact q
 | z::l,vs,us,xs,ys,as,bs,e,j,B,F,lx,ly,hd,hf,q=>by
   cases j with
   | nil=>simp at e
   | cons rx j =>
     cases B with
     | nil=>simp at e
     | cons ry B =>
       simp only [Hj,NI,L5] at e;simp only [J8,z4] at lx ly;simp only [JW] at hd
       cases F with
       | cons J L =>
         simp only [cv];refine hf z _ _ _ _ _ _ _ (by simp) e.1 rx ry J lx.1 ly.1 (by lia) ?_
         simp only [cg] at q
         split at q
         ·next h =>
          rw [if_pos h];exact j5 e.2 j B L lx.2 ly.2 (by lia) (fun z x y d e as bs R hz=>hf z x y d e as bs R (by simp [hz])) q
         ·next h =>
          rw [if_neg h];exact q
def EI (n:Nat):Prop:=∀ (prog:HB) (w:HX) (A:I0) (s:tv) (a b:hH) (d e:IY) (as bs:List Addr) (E:hH->tv->Prop) (Q:hH->tv->Prop),d.depth<=n->Cmpb d e->LD s.heap a d as->LD s.heap b e bs->d.canLay0=true->e.canLay0=true->A.units+n+1 < Js ->
 Q (.bool (ltK (toK d) (toK e))) s->Hh (Hx prog w) A (MY .Lt a b) Q E s
theorem E3:∀ n,EI n:=by
 intro n
 induction n with
 | zero =>
   intro prog w A s a b d e as bs E Q hd z ra rb ld le Z q
   cases z with
   | int i j =>
     cases ra;cases rb
     exact uT (by rw [<- i7];exact q)
   | nil ys=>simp [KU] at hd
   | nil' xs=>simp [KU] at hd
   | cons _ _=>simp [KU] at hd
 | succ n ih =>
   intro prog w A s a b d e as bs E Q hd z ra rb ld le Z q;have tup:∀ xs ys,d = .tuple xs->e = .tuple ys->Hh (Hx prog w) A (MY .Lt a b) Q E s:=by
    rintro xs ys rfl rfl
    cases ra with
    | tuple h1 h2 h3 J =>
      cases rb with
      | tuple g1 g2 g3 L =>
        rename_i l ol vl nl p ob vb nb;have tl:s.TypeIs (.ref l) "tuple":=⟨_,h1,h2⟩;have tb:s.TypeIs (.ref p) "tuple":=⟨_,g1,g2⟩;refine Nx tl tb RT (HK RT tl F.entry_tuple_lt ?_ (F.args_tuple_lt_2 _ _)) (by lia)
        unfold IS.«tuple.__lt__»;refine gV ?_;have O:isSubtype (.type "tuple") (.type "tuple")=pure true:=by rw [Ki];kernel_rfl
        wp_walk
        rw [h3]
        wp_walk
        rw [g3];refine hW ?_;refine hW ?_;refine gV (fH (j5 (n:=n) (g:=fun b=>Fin.done (Flow.ret (OC b))) (pr:=id) (List.map_id _) J L z ld le (by simp [KU] at hd;lia) ?_ ?_))
        ·rintro ⟨x,y⟩ x' y' d e as bs R _ hz rx ry z ld le hd r
         cases hz
         dsimp only;refine gV (Rk d e _ _ _ _ _ _ rx ry ld le ?_ prog w E _ ?_)
         ·show A.units+1+min d.depth e.depth < Js;lia
         ·by_cases B:Ik d e=true
          ·rw [if_pos B] at r;rw [B];exact hW r
          ·rw [if_neg B] at r;have B:Ik d e=false:=by simpa using B
           rw [B];refine gV (J6 (gV (ih prog w _ s x y d e as bs E _ hd z rx ry ld le ?_ ?_)))
           ·show A.units+1+n+1 < Js;lia
           ·exact hW r
        ·have G:=j4 z
         cases e2:cg xs ys with
         | some b =>
           rw [e2] at G;dsimp only at G;rw [G] at q;exact hW ⟨_,rfl,by simp,q⟩
         | none =>
           rw [e2] at G;dsimp only at G;rw [G] at q;have U:=bR J;have Y:=bR L;refine hW ⟨_,rfl,?_,?_⟩
           ·simp [KD]
           ·simp only [HI] at U Y;simp only [KD];rw [U,Y];exact q
   cases z with
   | int i j =>
     cases ra;cases rb
     exact uT (by rw [<- i7];exact q)
   | nil ys=>exact tup _ _ rfl rfl
   | nil' xs=>exact tup _ _ rfl rfl
   | cons _ _=>exact tup _ _ rfl rfl
end
end Srt
end L2
namespace L2
namespace Srt
open PySem PySem.Spec PyProof.Rows
section
variable {prog:HB} {w:HX} {A:I0} {E:hH->tv->Prop} {s:tv}
theorem jU {α β:Type} {M:LS} {f : α -> Sem β} {g : α -> β}:∀ {l:List α} {Q:List β -> tv->Prop},(∀ x∈l,∀ R : β -> tv->Prop,R (g x) s->Hh M A (f x) R E s)->Q (l.map g) s->Hh M A (l.mapM f) Q E s
 | [],Q,_,q=>by rw [List.mapM_nil];exact hW q
 | x::xs,Q,h,q=>by
   rw [List.mapM_cons];refine gV (h x (by simp) _ (gV (jU (fun y j=>h y (by simp [j])) (hW q))))
theorem eL {α β:Type} {M:LS} {f : α -> Sem β} {g : α -> β} {xs:Array α} {Q:Array β -> tv->Prop} (h:∀ x∈xs.toList,∀ R : β -> tv->Prop,R (g x) s->Hh M A (f x) R E s) (q:Q (xs.map g) s):Hh M A (xs.mapM f) Q E s:=by
 rw [Array.mapM_eq_mapM_toList];rw [map_eq_pure_bind];refine gV (jU h (hW ?_));have:(xs.toList.map g).toArray=xs.map g:=by
  apply MK.mp;simp
 rw [this];exact q
theorem m8 {a:Addr} {v:hH} {vs:List hH} {o:Obj} {n:Nat} (h1:s.heap.get? a=some o) (h2:o.cls = .type "tuple") (j:o.data = .seq (v::vs).toArray n) {Q:Option hH->tv->Prop} (q:Q (some v) s):Hh (Hx prog w) A (firstOfTuple' (.ref a)) Q E s:=by
 unfold firstOfTuple';have ty:s.TypeIs (.ref a) "tuple":=⟨_,h1,h2⟩
 wp_walk
 rw [j];refine hW ?_;refine hW ?_;exact hW q
theorem AM {a:Addr} {o:Obj} {T:hH} (h1:s.heap.get? a=some o) (h2:o.cls=T) {Q:hH->tv->Prop} (q:Q T s):Hh (Hx prog w) A (typeOf (.ref a)) Q E s:=by
 wp_walk
 rw [h2];exact q
theorem uU {n:Nat} {x y:hH} {d e:IY} {as bs:List Addr} (j:Cmpb d e) (rx:LD s.heap x d as) (ry:LD s.heap y e bs) (ld:d.canLay0=true) (le:e.canLay0=true) (hd:d.depth<=n) (z:A.units+n+1 < Js) {Q:Bool->tv->Prop} (q:Q (ltK (toK d) (toK e)) s):Hh (Hx prog w) A (oneLt' false x y) Q E s:=by
 rw [oneLt'_eq];exact gV (E3 n prog w A s x y d e as bs E _ hd j rx ry ld le z (trd q))
theorem m9 {n:Nat} {b:Bool} {x y:hH} {xs ys:List IY} {as bs:List Addr} (hb:b=true -> ∀ d e,xs.head? = some d->ys.head? = some e->(∃ i,d = .int i) /\ ∃ i,e = .int i)
 (G:Cmpb (.tuple xs) (.tuple ys)) (rx:LD s.heap x (.tuple xs) as) (ry:LD s.heap y (.tuple ys) bs) (lx:J8 xs=true) (ly:J8 ys=true) (hd:JW xs<=n) (hu:A.units+n+1 < Js) {Q:Bool->tv->Prop} (q:Q (ltK (toK (.tuple xs)) (toK (.tuple ys))) s) :
 Hh (Hx prog w) A (keyLt' (tuples' b) x y) Q E s:=by
 cases rx with
 | tuple h1 h2 h3 J =>
   cases ry with
   | tuple g1 g2 g3 L =>
     refine gV (QS h1 h3 ?_);refine gV (QS g1 g3 ?_);refine gV (fH (j5 (n:=n) (g:=id) (pr:=Prod.fst) (List.zipIdx_map_fst _ _) J L G lx ly hd ?_ ?_))
     ·rintro ⟨⟨x,y⟩,i⟩ x' y' d e as bs R hz hp rx ry G ld le hd r
      cases hp
      dsimp only;refine gV (Rk d e _ _ _ _ _ _ rx ry ld le (by lia) prog w E _ ?_)
      by_cases F:Ik d e=true
      ·rw [if_pos F] at r;rw [F];exact hW r
      ·rw [if_neg F] at r;have F:Ik d e=false:=by simpa using F
       rw [F];refine gV ?_
       by_cases z:(b&&i==0)=true
       ·rw [z];simp only [z4,beq_iff_eq] at z;obtain ⟨rfl,rfl⟩:=z;have j:=List.mem_zipIdx_iff_getElem?.mp hz;obtain ⟨U,Y,t1,Z,B,O⟩:∃ (U Y:Int) (t1 Z:Tok),x = .int U t1/\y = .int Y Z:=by
         generalize hV:OD _=vl at J j;generalize hU:OD _=ul at L j
         cases J with
         | nil=>simp at j
         | cons p1 p2 =>
           cases L with
           | nil=>simp at j
           | cons q1 q2 =>
             simp at j;obtain ⟨⟨U,ei⟩,⟨Y,ej⟩⟩:=hb rfl _ _ rfl rfl;subst ei ej
             cases p1;cases q1
             exact ⟨_,_,_,_,j.1.symm,j.2.symm⟩
        subst B O
        cases rx;cases ry
        refine oneLt_int ?_;rw [<- i7];exact hW r
       ·have z:(b&&i==0)=false:=by simpa using z
        rw [z];exact uU G rx ry ld le hd hu (hW r)
     ·have B:=j4 G
      cases O:cg xs ys with
      | some b =>
        rw [O] at B;dsimp only at B;rw [B] at q;exact hW q
      | none =>
        rw [O] at B;dsimp only at B;rw [B] at q;have n1:=bR J;have n2:=bR L;refine hW ?_;simp only [HI] at n1 n2;rw [n1,n2];exact q
end
end Srt
end L2
namespace L2
namespace Srt
open PySem PySem.Spec PyProof.Rows
structure oK (n:Nat) (ds:List IY):Prop where
 cmp:∀ d∈ds,∀ e∈ds,Cmpb d e
 lay:∀ d∈ds,d.canLay0=true/\d.depth<=n
 kind:(∀ d∈ds,∃ i,d = .int i)∨(∀ d∈ds,∃ i xs,d = .tuple (.int i::xs))∨(∀ d∈ds,∃ ys xs,d = .tuple (.tuple ys::xs))
noncomputable def cA (h:Heap):hH->Option hH
 | .ref a=>(h.get? a).bind fun o=>match o.data with | .seq xs _=>xs[0]? | _=>none
 | _=>none
section
variable {prog:HB} {w:HX} {A:I0} {E:hH->tv->Prop} {s:tv}
noncomputable def dA (h:Heap) (x:Hf):Ky:=toK (Jr h x.1)
def RdL (h:Heap) (vs:List hH) (ds:List IY):Prop:=∀ v∈vs,∃ d∈ds,∃ as,LD h v d as
theorem gm {arr:Array hH} {T:String} (h0 : 0 < arr.size) (h:∀ v∈arr.toList,∀ R:hH->tv->Prop,R (.type T) s->Hh (Hx prog w) A (typeOf v) R E s) {Q:Option hH->tv->Prop} (q:Q (some (.type T)) s):Hh (Hx prog w) A (oneTypeOnly' arr) Q E s:=by
 rw [oneTypeOnly'_eq];refine gV (eL (g:=fun _=>HY T) h ?_);have e:(MM (fun _=>HY T) arr)[0]? = some (HY T):=by
  rw [Array.getElem?_map,HC h0];rfl
 rw [e];dsimp only;have j:((MM (fun _=>HY T) arr).all fun x=>x==HY T)=true:=by
  rw [QT];intro i hi;simp
 rw [j];exact hW q
theorem sB {n:Nat} {kd:LF} {vs:List hH} {ds:List IY} (j:RdL s.heap vs ds) (hs:oK n ds)
 (h:∀ (x y:hH) (d e:IY) (as bs:List Addr) (E:hH->tv->Prop) (Q:Bool->tv->Prop),d∈ds->e∈ds->LD s.heap x d as->LD s.heap y e bs->Q (ltK (toK d) (toK e)) s->Hh (Hx prog w) A (keyLt' kd x y) Q E s) :
 Cm prog w A s kd (fun x=>x.1∈vs) (fun x y=>ltK (dA s.heap x) (dA s.heap y)) where
 asym:=fun x y=>j3 _ _
 neg:=fun x y z=>AL _ _ _
 run:=fun x y E Q hx B q=>by
  obtain ⟨d,hd,as,ra⟩:=j _ hx;obtain ⟨e,he,bs,rb⟩:=j _ B;have F:=JY (hs.lay d hd).1 ra;have G:=JY (hs.lay e he).1 rb;unfold dA at q;rw [F,G] at q;exact h _ _ d e as bs E Q hd he ra rb q
theorem oM {h:Heap} {vs:List hH} (j:∀ v∈vs,∃ u,cA h v=some u):((vs.toArray.map (cA h)).all fun x=>x.isSome)=true:=by
 rw [QT];intro i hi;simp at hi;obtain ⟨u,q⟩:=j vs[i] (JK hi);simp [q]
theorem uV {h:Heap} {vs:List hH} {x:hH} (hx:x∈(RU id (vs.toArray.map (cA h))).toList):∃ v∈vs,cA h v=some x:=by
 simp at hx;exact hx
theorem uW {h:Heap} {v:hH} {vs:List hH} {u:hH} (j:cA h v=some u) : 0 < (RU id ((v::vs).toArray.map (cA h))).size:=by
 rw [<- HI];simp [j]
theorem md {h:Heap} {v:hH} {d:IY} {xs:List IY} {as:List Addr} (r:LD h v (.tuple (d::xs)) as):∃ a o u us n bs,v = .ref a/\h.get? a=some o/\o.cls = .type "tuple" /\ o.data = .seq (u::us).toArray n/\LD h u d bs:=by
 cases r with
 | @tuple a o vs n xs as h1 h2 j h4 =>
  generalize q:vs.toList=vl at h4
  cases h4 with
  | @cons u us _ _ bs _ z p2=>exact ⟨_,_,u,us,n,bs,rfl,h1,h2,by rw [j];congr 1;apply MK.mp;simpa using q,z⟩
theorem E4 {n:Nat} {v:hH} {vs:List hH} {ds:List IY} (Y:RdL s.heap (v::vs) ds) (hs:oK n ds) (z:A.units+n+1 < Js) :
 ∃ kd,(∀ (E:hH->tv->Prop) (Q:LF->tv->Prop),Q kd s->Hh (Hx prog w) A (keyKind' (v::vs).toArray) Q E s)/\Cm prog w A s kd (fun x=>x.1∈v::vs) (fun x y=>ltK (dA s.heap x) (dA s.heap y)):=by
 rcases hs.kind with J | J | J
 ·refine ⟨oneType',fun E Q q=>?_,sB Y hs fun x y d e as bs E Q hd he ra rb q=>?_⟩
  ·have hint:∀ u∈v::vs,∃ i t,u = .int i t:=fun u z=>by
    obtain ⟨d,hd,as,ra⟩:=Y u z;obtain ⟨i,rfl⟩:=J d hd
    cases ra
    exact ⟨_,_,rfl⟩
   rw [RG];refine gV (eL (g:=fun _=>(none:Option hH)) (fun u z R r=>?_) ?_)
   ·obtain ⟨i,t,rfl⟩:=hint u (by simpa using z)
    rw [firstOfTuple'_int];exact hW r
   ·have Z:((MM (fun _=>(none:Option hH)) (v::vs).toArray).all fun x=>x.isSome)=false:=by
     simp
    rw [Z];have B:((MM (fun _=>(none:Option hH)) (v::vs).toArray)[0]?.bind id).isSome=false:=by simp
    simp only [B,Iw,if_false];refine gV (gm (T:="int") (by simp) (fun u z R r=>?_) ?_)
    ·obtain ⟨i,t,rfl⟩:=hint u (by simpa using z)
     exact hW r
    ·exact hW q
  ·obtain ⟨i,rfl⟩:=J d hd;obtain ⟨j,rfl⟩:=J e he
   cases ra;cases rb
   rw [keyLt'_oneType];exact oneLt_int (by rw [<- i7];exact q)
 ·refine ⟨tuples' true,fun E Q q=>?_,sB Y hs fun x y d e as bs E Q hd he ra rb q=>?_⟩
  ·have hf:∀ u∈v::vs,∃ a o i t us n,u = .ref a/\s.heap.get? a=some o/\o.cls = .type "tuple" /\ o.data = .seq (.int i t::us).toArray n:=fun u z=>by
    obtain ⟨d,hd,as,ra⟩:=Y u z;obtain ⟨i,xs,rfl⟩:=J d hd;obtain ⟨a,o,u1,us,n,bs,Z,B,L,G,O⟩:=md ra
    cases O
    exact ⟨a,o,_,_,us,n,Z,B,L,G⟩
   have F:∀ u∈v::vs,∃ i t,cA s.heap u=some (.int i t):=fun u z=>by
    obtain ⟨a,o,i,t,us,n,rfl,B,L,G⟩:=hf u z;exact ⟨i,t,by simp [cA,B,G]⟩
   rw [RG];refine gV (eL (g:=cA s.heap) (fun u z R r=>?_) ?_)
   ·obtain ⟨a,o,i,t,us,n,rfl,B,L,G⟩:=hf u (by simpa using z)
    refine m8 B L G ?_;simpa [cA,B,G] using r
   ·rw [oM (fun u z=>let ⟨i,t,e⟩:=F u z; ⟨_,e⟩)];refine gV (J6 ?_);obtain ⟨i0,t0,e0⟩:=F v (by simp)
    refine gV (gm (T:="int") (uW e0) (fun u z R r=>?_) ?_)
    ·obtain ⟨u',U,e⟩:=uV z;obtain ⟨i,t,e'⟩:=F u' U;rw [e'] at e;cases e;exact hW r
    ·exact hW q
  ·obtain ⟨i,xs,rfl⟩:=J d hd;obtain ⟨j,ys,rfl⟩:=J e he;have l1:=hs.lay _ hd;have l2:=hs.lay _ he;refine m9 (n:=n) (fun _ d e hd he=>?_) (hs.cmp _ hd _ he) ra rb (by simpa [Mo] using l1.1) (by simpa [Mo] using l2.1) (by have:=l1.2;simp [KU] at this;lia) z q
   simp at hd he;subst hd he;exact ⟨⟨_,rfl⟩,_,rfl⟩
 ·refine ⟨tuples' false,fun E Q q=>?_,sB Y hs fun x y d e as bs E Q hd he ra rb q=>?_⟩
  ·have hf:∀ u∈v::vs,∃ a o b ob us n,u = .ref a/\s.heap.get? a=some o/\o.cls = .type "tuple" /\ o.data = .seq (.ref b::us).toArray n/\s.heap.get? b=some ob/\ob.cls = .type "tuple":=fun u z=>by
    obtain ⟨d,hd,as,ra⟩:=Y u z;obtain ⟨ys,xs,rfl⟩:=J d hd;obtain ⟨a,o,u1,us,n,bs,Z,B,L,G,O⟩:=md ra
    cases O with
    | tuple h1 h2 h3 h4=>exact ⟨a,o,_,_,us,n,Z,B,L,G,h1,h2⟩
   have F:∀ u∈v::vs,∃ b ob,cA s.heap u=some (.ref b)/\s.heap.get? b=some ob/\ob.cls = .type "tuple":=fun u z=>by
    obtain ⟨a,o,b,ob,us,n,rfl,B,L,G,O,e6⟩:=hf u z;exact ⟨b,ob,by simp [cA,B,G],O,e6⟩
   rw [RG];refine gV (eL (g:=cA s.heap) (fun u z R r=>?_) ?_)
   ·obtain ⟨a,o,b,ob,us,n,rfl,B,L,G,O,e6⟩:=hf u (by simpa using z)
    refine m8 B L G ?_;simpa [cA,B,G] using r
   ·rw [oM (fun u z=>let ⟨i,t,e,_⟩:=F u z; ⟨_,e⟩)];refine gV (J6 ?_);obtain ⟨i0,t0,e0,_⟩:=F v (by simp)
    refine gV (gm (T:="tuple") (uW e0) (fun u z R r=>?_) ?_)
    ·obtain ⟨u',U,e⟩:=uV z;obtain ⟨b,ob,e',O,e6⟩:=F u' U;rw [e'] at e;cases e;exact AM O e6 r
    ·exact hW q
  ·obtain ⟨zs,xs,rfl⟩:=J d hd;obtain ⟨zs',ys,rfl⟩:=J e he;have l1:=hs.lay _ hd;have l2:=hs.lay _ he;exact m9 (n:=n) (fun h=>by cases h) (hs.cmp _ hd _ he) ra rb (by simpa [Mo] using l1.1) (by simpa [Mo] using l2.1) (by have:=l1.2;simp [KU] at this;lia) z q
end
end Srt
end L2
namespace L2
namespace Srt
open PySem PySem.Spec PyProof.Rows
inductive Pl:IY->Prop where
 | int (i:Int):Pl (.int i)
 | tup (xs:List IY):(∀ x∈xs,Pl x)->Pl (.tuple xs)
theorem aW {h h':Heap} (k:∀ b o,h.get? b=some o->o.cls = .type "tuple" -> h'.get? b=some o) {d:IY} (p:Pl d):∀ {v:hH} {as:List Addr},LD h v d as->LD h' v d as:=by
 induction p with
 | int i=>intro v as r;cases r;exact .int _ _
 | tup xs hx ih =>
   intro v as r
   cases r with
   | tuple h1 h2 q z =>
     refine .tuple (k _ _ h1 h2) h2 q ?_;have g:∀ (xs:List IY),(∀ x∈xs,∀ {v:hH} {as:List Addr},LD h v x as->LD h' v x as) -> ∀ (vs:List hH) (as:List Addr),Po h vs xs as->Po h' vs xs as:=by
      intro xs
      induction xs with
      | nil=>intro _ vs as r;cases r;exact .nil
      | cons x xs ihx =>
        intro j vs as r
        cases r with
        | cons B p2=>exact .cons (j x (by simp) B) (ihx (fun y F=>j y (by simp [F])) _ _ p2)
     exact g xs ih _ _ z
section
variable {prog:HB} {w:HX} {A:I0} {E:hH->tv->Prop} {s:tv}
theorem AN {cap:Nat} (S:i5 cap) {m:Nat} {a:Addr} {vs:List hH} {n:Nat} {ds:List IY} (ha:s.heap.get? a=some (Qq "list" vs.toArray n)) (Z:RdL s.heap vs ds) (hs:oK m ds) (hp:∀ d∈ds,Pl d) (hl:vs.length<=Hd) (EW:vs.length<=cap) (hu:A.units+m+1 < Js) {Q:PySem.Fin->tv->Prop}
 (q:∀ (h':Heap) (out:List hH) (n':Nat),(∀ b o,b≠a->s.heap.get? b=some o->h'.get? b=some o)->h'.get? a=some (Qq "list" out.toArray n')->out.Perm vs->out.Pairwise (fun x y=>ltK (toK (Jr s.heap y)) (toK (Jr s.heap x))=false)->Q (.done (.ret .none)) { s with heap:=h' }) :
 Hh (Hx prog w) A (IS.«list.sort» ⟨[.ref a],[]⟩) Q E s:=by
 rw [list_sort_plain];refine gV (QS ha rfl ?_);refine gV (KA ha rfl ?_ (by simpa using hl) (by simp))
 have g1:=JZ ha (fun _=>#[]);generalize EX:s.heap.update a (Ja fun _=>#[])=h1 at g1;generalize (if ((#[]:Array hH).size==vs.toArray.size)=true then n else n+1)=n1 at g1
 refine gV (RH g1 rfl ?_);refine gV (Lm ?_ (by simpa using hl))
 refine gV (MV ?_ (by simp))
 refine I7 ?_;dsimp only;generalize O:({ heap:=(h1.push { cls:=HY "tuple",data:=KJ vs.toArray.toList.toArray }).push { cls:=HY "list",data:=KJ [].toArray },gens:=s.gens,drawn:=s.drawn,toks:=s.toks,os:=s.os }:tv)=s3;have g3:s3.heap.get? a=some (Qq "list" #[] n1):=by
  rw [<- O];exact h6 _ (h6 _ g1)
 have keep:∀ b o,b≠a->s.heap.get? b=some o->s3.heap.get? b=some o:=fun b o G J=>by
  rw [<- O,<- EX];exact h6 _ (h6 _ (by rw [Iq _ _ _ _ G];exact J))
 have keepT:∀ b o,s.heap.get? b=some o->o.cls = .type "tuple" -> s3.heap.get? b=some o:=fun b o G hc=>keep b o (fun z=>by
  rw [z,ha] at G;cases G;simp at hc) G
 have EY:RdL s3.heap vs ds:=fun v hv=>by
  obtain ⟨d,hd,as,r⟩:=Z v hv;exact ⟨d,hd,as,aW keepT (hp d hd) r⟩
 have same:∀ v∈vs,Jr s3.heap v=Jr s.heap v:=fun v hv=>by
  obtain ⟨d,hd,as,r⟩:=Z v hv;rw [JY (hs.lay d hd).1 r,JY (hs.lay d hd).1 (aW keepT (hp d hd) r)]
 have q:∀ (h':Heap) (out:List hH) (n':Nat),(∀ b o,b≠a->s.heap.get? b=some o->h'.get? b=some o)->h'.get? a=some (Qq "list" out.toArray n')->out.Perm vs->out.Pairwise (fun x y=>ltK (toK (Jr s.heap y)) (toK (Jr s.heap x))=false)->Q (.done (.ret .none)) { s3 with heap:=h' }:=by
  rw [<- O];exact q
 have EZ:∀ A':I0,A'.units=A.units->True:=fun _ _=>trivial;clear O
 let Good:IC->Prop:=fun st'=>K1 st'=none/\(Ii st').toList.Perm (vs.zip vs)/\(Ii st').toList.Pairwise (fun x y=>ltK (dA s3.heap y) (dA s3.heap x)=false)
 by_cases F:vs.toArray.size < 2
 ·rw [if_pos F,if_pos F];refine gV (hW ?_);have B:vs.length < 2:=by simpa using F
  have run:Hh (Hx prog w) A ((pure ():StateT IC Sem Unit).run (MJ general' (vs.toArray.zip vs.toArray) #[] 7 none)) (fun r s'=>s'=s3/\Good r.2) E s3:=by
   refine hW ⟨rfl,rfl,?_,?_⟩
   ·show (vs.toArray.zip vs.toArray).toList.Perm _;simp
   ·show List.Pairwise _ (vs.toArray.zip vs.toArray).toList
    match vs,B with
    | [],_=>simp
    | [x],_=>simp
  refine gV (IK (Q:=fun r s'=>s'=s3/\Good r.2) run (fun r s' Z=>?_) (fun _ _ z=>z));obtain ⟨rfl,L,j,U⟩:=Z;obtain ⟨u,st'⟩:=r;refine gV (RH g3 rfl ?_);refine gV (KA g3 rfl ?_ (by simp) (by simp only [Array.size_map];have:=j.length_eq;simp at this;rw [this];lia))
  dsimp only at L;rw [L];simp only [bne_self_eq_false,Iw,if_false];refine hW ?_;have gq:=JZ g3 (fun _=>MM (fun x=>x.snd) (Ii st'));have eo:MM (fun x=>x.snd) (Ii st')=((Ii st').toList.map fun x=>x.snd).toArray:=by apply MK.mp;simp
  refine q _ ((Ii st').toList.map fun x=>x.snd) _ (fun b o G J=>?_) (by rw [gq,eo]) ?_ ?_
  ·rw [Iq _ _ _ _ G];exact keep b o G J
  ·have h8:=j.map (fun x:Hf=>x.snd);rw [Rl (by simp)] at h8
   exact h8
  ·rw [II];refine U.imp_of_mem fun {x y} hx hy hxy=>?_;have mx:=Ny (j.mem_iff.mp hx);have my:=Ny (j.mem_iff.mp hy);unfold dA at hxy;rw [mx.1,my.1,same y.2 (by rw [<- my.1];exact my.2),same x.2 (by rw [<- mx.1];exact mx.2)] at hxy
   exact hxy
 ·rw [if_neg F,if_neg F];have B : 2<=vs.length:=by simpa using F
  obtain ⟨v0,Y,ES⟩:∃ v0 Y,vs=v0::Y:=by
   match vs,B with
   | v::t,_=>exact ⟨v,t,rfl⟩
  obtain ⟨kd,ET,EU⟩:=E4 (prog:=prog) (w:=w) (A:=A) (v:=v0) (vs:=Y) (by rw [<- ES];exact EY) hs hu
  rw [<- ES] at ET EU;refine gV (ET E _ ?_);have run:Hh (Hx prog w) A (sortRuns'.run (MJ kd (vs.toArray.zip vs.toArray) #[] 7 none)) (fun r s'=>s'=s3/\Good r.2) E s3:=by
   have ez:(Ii (MJ kd (vs.toArray.zip vs.toArray) #[] 7 none)).toList=vs.zip vs:=by
    show (vs.toArray.zip vs.toArray).toList=_;simp
   have h9:wpS (Hx prog w) A E s3 sortRuns' (fun _ st'=>Good st') (MJ kd (vs.toArray.zip vs.toArray) #[] 7 none):=by
    have EV:(Ii (MJ kd (vs.toArray.zip vs.toArray) #[] 7 none)).size=vs.length:=by rw [<- HI,ez];simp
    refine S _ _ _ _ _ _ _ _ EU (MJ kd (vs.toArray.zip vs.toArray) #[] 7 none) _ rfl rfl rfl (fun x hx=>?_) (by rw [EV];exact B) (by rw [EV];exact EW) fun st' p1 p2 p3=>⟨p3,by rw [ez] at p1;exact p1,p2⟩
    rw [ez] at hx;exact (Ny hx).2
   exact h9
  refine gV (IK (Q:=fun r s'=>s'=s3/\Good r.2) run (fun r s' Z=>?_) (fun _ _ z=>z));obtain ⟨rfl,L,j,U⟩:=Z;obtain ⟨u,st'⟩:=r;refine gV (RH g3 rfl ?_);refine gV (KA g3 rfl ?_ (by simp) (by simp only [Array.size_map];have:=j.length_eq;simp at this;rw [this];lia))
  dsimp only at L;rw [L];simp only [bne_self_eq_false,Iw,if_false];refine hW ?_;have gq:=JZ g3 (fun _=>MM (fun x=>x.snd) (Ii st'));have eo:MM (fun x=>x.snd) (Ii st')=((Ii st').toList.map fun x=>x.snd).toArray:=by apply MK.mp;simp
  refine q _ ((Ii st').toList.map fun x=>x.snd) _ (fun b o G J=>?_) (by rw [gq,eo]) ?_ ?_
  ·rw [Iq _ _ _ _ G];exact keep b o G J
  ·have h8:=j.map (fun x:Hf=>x.snd);rw [Rl (by simp)] at h8
   exact h8
  ·rw [II];refine U.imp_of_mem fun {x y} hx hy hxy=>?_;have mx:=Ny (j.mem_iff.mp hx);have my:=Ny (j.mem_iff.mp hy);unfold dA at hxy;rw [mx.1,my.1,same y.2 (by rw [<- my.1];exact my.2),same x.2 (by rw [<- mx.1];exact mx.2)] at hxy
   exact hxy
theorem sC (u:hH):checkBuiltinCall "sorted" ⟨[u],[]⟩=pure ():=by kernel_rfl
theorem mf {cap:Nat} (S:i5 cap) {m:Nat} {u:hH} {ds:List IY} {C:Heap->List hH->Prop} {Q:hH->tv->Prop} (hu:A.units+m+3 < Js) (hs:oK m ds) (F:∀ d∈ds,Pl d)
 (G:∀ (E:hH->tv->Prop) (R:List hH->tv->Prop),(∀ (h':Heap) (vs':List hH) (t':Nat),C h' vs'->RdL h' vs' ds->vs'.length<=Hd/\vs'.length<=cap->s.toks<=t'->R vs' { s with heap:=h',toks:=t' })->Hh (Hx prog w) A.in1 (collect u) R E s)
 (q:∀ (h1 h2:Heap) (vs out:List hH) (n' t':Nat),C h1 vs->(∀ b o,h1.get? b=some o->h2.get? b=some o)->h2.get? h1.objs.size=some (Qq "list" out.toArray n')->out.Perm vs->out.Pairwise (fun x y=>ltK (toK (Jr h2 y)) (toK (Jr h2 x))=false)->RdL h2 out ds->vs.length<=Hd->s.toks<=t'->Q (.ref h1.objs.size) { s with heap:=h2,toks:=t' }) :
 Hh (Hx prog w) A (call (.builtin "sorted") [u]) Q E s:=by
 refine wpAny_call (codeAny_call_builtin plain_sorted entry_sorted (JO (sC u) ?_));unfold Builtin.sorted;refine gV (JO (a:=()) (by kernel_rfl) ?_)
 refine gV (G _ _ fun h1 vs t' hC L J ht=>?_);obtain ⟨J,O⟩:=J;refine gV (MV ?_ J);refine gV (I7 ?_);have U:RdL (h1.push { cls:=HY "list",data:=KJ vs.toArray }) vs ds:=fun v B=>by
  obtain ⟨d,hd,as,r⟩:=L v B;exact ⟨d,hd,as,aW (fun b o z _=>h6 _ z) (F d hd) r⟩
 have ha:(h1.push { cls:=HY "list",data:=KJ vs.toArray }).get? h1.objs.size=some (Qq "list" vs.toArray 0):=GZ _ rfl;refine HK slot_list_sort (T:="list") ⟨_,ha,rfl⟩ entry_list_sort ?_ (args_list_sort _);refine AN S (m:=m) ha U hs F J O (by show A.units+1+1+m+1 < Js;lia) fun h2 out n' keep g2 j Y=>⟨_,rfl,hW ?_⟩
 have old:∀ b o,h1.get? b=some o->h2.get? b=some o:=fun b o z=>keep b o (HJ (H0 z)) (h6 _ z);have Z:RdL h2 vs ds:=fun v B=>by
  obtain ⟨d,hd,as,r⟩:=L v B;exact ⟨d,hd,as,aW (fun b o z _=>old b o z) (F d hd) r⟩
 refine q h1 h2 vs out n' t' hC old g2 j ?_ (fun v B=>Z v (j.mem_iff.mp B)) J ht;have same:∀ v∈vs,Jr (h1.push { cls:=HY "list",data:=KJ vs.toArray }) v=Jr h2 v:=fun v B=>by
  obtain ⟨d,hd,as,r⟩:=L v B;rw [JY (hs.lay d hd).1 (aW (fun b o z _=>old b o z) (F d hd) r),JY (hs.lay d hd).1 (aW (fun b o z _=>h6 _ z) (F d hd) r)]
 refine Y.imp_of_mem fun {x y} hx hy hxy=>?_;rw [same y (j.mem_iff.mp hy),same x (j.mem_iff.mp hx)] at hxy;exact hxy
end
end Srt
end L2
namespace L2
namespace It
open PySem PySem.Spec PyProof.Rows
noncomputable def iO (f0:hH) (b:Bool) (d:Addr) (i n ep:Nat) (ok ov:hH):Obj:={ cls:=.type "dict_itemiterator",data:=.fields #[f0,.bool b,.ref d,.int i 0,.int n 0,.int ep 0,ok,ov] }
theorem slot_next:Slot "dict_itemiterator" "__next__" "dict_itemiterator.__next__":=.of (owner:="dict_itemiterator") (n:="__next__") (by rw [Nh,Ld];kernel_rfl) (by decide +kernel) (by decide +kernel) (by decide +kernel) (.inl (by decide +kernel)) (by rw [Ki];kernel_rfl)
theorem bE:Sg table "dict_itemiterator.__next__" = some IS.«dict_itemiterator.__next__»:=Ox (by kernel_rfl)
theorem bS (a:hH):Si "dict_itemiterator.__next__" ⟨[a],[]⟩:=by unfold Si;kernel_rfl
theorem gn:mroOf (.type "dict_itemiterator")=pure [.type "dict_itemiterator",.type "object"]:=by rw [mroOf_type];kernel_rfl
section
variable {prog:HB} {w:HX} {A:I0} {E:hH->tv->Prop} {s:tv}
theorem y9 {M:LS} {a:Addr} {Q:Option Obj->tv->Prop} (q:Q (s.heap.get? a) s):Hh M A (loadIfAlive a) Q E s:=fun Γ p hp=>by
 show Sem.wp M Γ (Sem.loadIfAlive a Sem.pure) _ _ p s;rw [Sem.wp_loadIfAlive];exact q
theorem bK {it:Addr} (ty:s.TypeIs (.ref it) "dict_itemiterator") {types:List String} {Q:Bool->tv->Prop} (q:Q (types.any fun t=>[HY "dict_itemiterator",HY "object"].contains (HY t)) s):Hh (model prog w) A (Kj (.ref it) types) Q E s:=by
 have hm:=gn;unfold Kj
 wp_walk
 exact q
theorem uX {it d a:Addr} {b:Bool} {i n ep:Nat} {ok ov:hH} {oa:Obj} {Q:Bool->tv->Prop} (hi:s.heap.get? it=some (iO (JU a) b d i n ep ok ov)) (j:s.heap.get? a=some oa)
 (q:∀ h',h'.get? it=some (iO (JU a) true d i n ep ok ov)->IQ it s.heap h'->Q false { s with heap:=h' }):Hh (model prog w) A (Jo (.ref it)) Q E s:=by
 unfold Jo;refine gV (HW hi rfl (x:=JU a) rfl ?_);refine gV (y9 ?_);rw [show ((a:Int)).toNat=a from HF a,j];dsimp only;rw [if_neg (by simp)]
 refine gV (HW hi rfl (x:=.bool b) rfl ?_)
 cases b with
 | true =>
   rw [if_neg (by decide)]
   exact hW (q s.heap hi (QU ..))
 | false =>
   rw [if_pos (by decide)]
   refine gV (Hv hi (by simp) fun h' e' s'=>?_)
   exact hW (q h' e' s')
theorem uY {it d a:Addr} {b:Bool} {i n ep:Nat} {ok ov k v:hH} {oa:Obj} {Q:hH->tv->Prop} (hi:s.heap.get? it=some (iO (JU a) b d i n ep ok ov)) (z:s.heap.get? a=some oa)
 (q:∀ h',h'.get? it=some (iO (JU a) true d i n ep ok ov)->h'.get? s.heap.objs.size=some { cls:=.type "tuple",data:=.seq #[k,v] }->(∀ b o,b≠it->s.heap.get? b=some o->h'.get? b=some o)->Q (.ref s.heap.objs.size) { s with heap:=h' }):Hh (model prog w) A (IJ (.ref it) 6 k v) Q E s:=by
 unfold IJ;refine gV (Lm ?_ (by size_fits))
 have j:=H0 hi;refine gV (uX (a:=a) (oa:=oa) (h6 _ hi) (h6 _ z) fun h' e' s'=>?_);dsimp only;rw [if_neg (by simp)]
 refine hW (q h' e' ?_ fun b o B e=>?_)
 ·exact s'.extBut _ _ (Iu j) (GZ _ rfl)
 ·exact s'.extBut _ _ B (h6 _ e)
theorem AO {it d a:Addr} {b:Bool} {i ep:Nat} {ok ov cd:hH} {oa:Obj} {dd:Option Addr} {sl:Array (Option hH)} {es:Array HS} {e:HS} {Q:Option hH->tv->Prop} (hi:s.heap.get? it=some (iO (JU a) b d i es.size ep ok ov)) (F:a≠it) (O:s.heap.get? a=some oa) (hd:s.heap.get? d=some { cls:=cd,dict:=dd,data:=.dict es ep,slots:=sl }) (he:es[i]? = some e)
 (q:∀ h',h'.get? it=some (iO (JU a) true d (i+1) es.size ep ok ov)->h'.get? s.heap.objs.size=some { cls:=.type "tuple",data:=.seq #[e.key,e.val] }->(∀ b o,b≠it->s.heap.get? b=some o->h'.get? b=some o)->Q (some (.ref s.heap.objs.size)) { s with heap:=h' }):Hh (model prog w) A (JD (.ref it)) Q E s:=by
 have ty:s.TypeIs (.ref it) "dict_itemiterator":=⟨_,hi,rfl⟩;unfold JD;refine gV (Jn (HN (name:=Iy "__next__") ty slot_next (HK slot_next ty bE ?_ (bS _))));unfold IS.«dict_itemiterator.__next__»;have hm:=gn
 wp_walk
 dsimp only;rw [if_neg (by simp)]
 wp_walk
 simp only [HF,he];refine gV (IK (Q:=fun n s'=>n=2/\s'=s) ?_ (fun n s' hs=>?_) fun _ _ z=>z)
 ·wp_walk
  exact ⟨by kernel_rfl,rfl⟩
 obtain ⟨rfl,rfl⟩:=hs;refine gV (bK ty ?_);refine gV (Hv hi (by simp) fun h1 j s1=>?_)
 refine gV (I7 ?_);have B:MW { s' with heap:=h1 } (.ref it) "dict_itemiterator":=⟨_,j,rfl⟩
 refine gV (bK B ?_);rw [if_neg (by decide +kernel)] at j
 have j:h1.get? it=some (iO (JU a) b d (i+1) es.size ep ok ov):=j;have hsz:h1.objs.size=s'.heap.objs.size:=s1.1;have G:h1.get? a=some oa:=s1.extBut a oa F O;refine JC (by decide +kernel) ?_
 refine gV (bK B ?_);refine JC (by decide +kernel) ?_
 refine uY (s:={ s' with heap:=h1 }) j G fun h2 U J Y=>?_
 refine hW ⟨_,rfl,hW ?_⟩;dsimp only at J ⊢;rw [hsz] at J ⊢;exact q h2 U J fun b o L e=>Y b o L (s1.extBut b o L e)
theorem nx_end {it d:Addr} {f0:hH} {b:Bool} {ep:Nat} {ok ov cd:hH} {dd:Option Addr} {sl:Array (Option hH)} {es:Array HS} {Q:Option hH->tv->Prop} (j:A.handled=none) (hi:s.heap.get? it=some (iO f0 b d es.size es.size ep ok ov)) (hd:s.heap.get? d=some { cls:=cd,dict:=dd,data:=.dict es ep,slots:=sl })
 (q:∀ h',(∀ b o,b≠it->s.heap.get? b=some o->h'.get? b=some o)->Q none { s with heap:=h' }):Hh (model prog w) A (JD (.ref it)) Q E s:=by
 have ty:s.TypeIs (.ref it) "dict_itemiterator":=⟨_,hi,rfl⟩;unfold JD;refine gV (Jn (HN (name:=Iy "__next__") ty slot_next (HK slot_next ty bE ?_ (bS _))));unfold IS.«dict_itemiterator.__next__»;have hm:=gn
 wp_walk
 dsimp only;rw [if_neg (by simp)]
 wp_walk
 have he:es[es.size]? = none:=KW (Hg _);simp only [HF,he];refine gV (IK (Q:=fun n s'=>n=2/\s'=s) ?_ (fun n s' hs=>?_) fun _ _ z=>z)
 ·wp_walk
  exact ⟨by kernel_rfl,rfl⟩
 obtain ⟨rfl,rfl⟩:=hs;refine gV (Hv hi (by simp) fun h1 F s1=>?_)
 refine gV (m:=Sd (.type "StopIteration") []) ?_;simp only [Sd,Se];refine gV (IE ?_ (by size_fits))
 refine gV (m:=Ll _ _) (JO (a:=Jw) (by first | rfl | (simp only [Ll];rfl)) (IE ?_ (by size_fits)))
 simp only [raiseNew];refine gV (Q7 ?_)
 first | rw [show A.in1.handled=none from j] | rw [j]
 refine gV (hW (Pj ?_));exact gV (Jg (T:="StopIteration") (b:=true) ⟨_,GZ _ rfl,rfl⟩ NN (hW (q _ fun b o B e=>h6 _ (h6 _ (s1.extBut b o B e)))))
end
end It
end L2
namespace L2
namespace It
open PySem PySem.Spec PyProof.Rows
section
variable {prog:HB} {w:HX} {A:I0} {E:hH->tv->Prop} {s:tv}
theorem uZ {it d:Addr} {i n ep:Nat} {k v:hH} {Q:hH->tv->Prop} (hi:s.heap.get? it=some (iO .none false d i n ep .none .none))
 (q:∀ h',h'.get? it=some (iO (JU s.heap.objs.size) false d i n ep k v)->h'.get? s.heap.objs.size=some { cls:=.type "tuple",data:=.seq #[k,v] }->(∀ b o,b≠it->s.heap.get? b=some o->h'.get? b=some o)->Q (.ref s.heap.objs.size) { s with heap:=h' }):Hh (model prog w) A (IJ (.ref it) 6 k v) Q E s:=by
 unfold IJ;refine gV (Lm ?_ (by size_fits))
 have B:=H0 hi;have j:=h6 ({ cls:=.type "tuple",data:=.seq [k,v].toArray }) hi;unfold Jo;refine gV (gV (HW j rfl (x:=.none) rfl (hW ?_)));dsimp only;rw [if_pos rfl];refine gV (HW j rfl (x:=.none) rfl ?_);refine gV (HW j rfl (x:=.none) rfl ?_);refine gV (Hv j (by simp) fun h1 G s1=>?_)
 refine gV (Hv G (by simp) fun h2 J s2=>?_)
 refine gV (Hv J (by simp) fun U L s3=>?_)
 refine gV (Hv L (by simp) fun F O s4=>?_)
 refine gV (JP ?_);have kp:∀ b o,b≠it->(s.heap.push { cls:=.type "tuple",data:=.seq [k,v].toArray }).get? b=some o->F.get? b=some o:=fun b o z e=>s4.extBut b o z (s3.extBut b o z (s2.extBut b o z (s1.extBut b o z e)));refine hW (q F O (kp _ _ (Iu B) (GZ _ rfl)) fun b o z e=>kp b o z (h6 _ e))
theorem AQ {it d:Addr} {i ep:Nat} {cd:hH} {dd:Option Addr} {sl:Array (Option hH)} {es:Array HS} {e:HS} {Q:Option hH->tv->Prop} (hi:s.heap.get? it=some (iO .none false d i es.size ep .none .none)) (hd:s.heap.get? d=some { cls:=cd,dict:=dd,data:=.dict es ep,slots:=sl }) (he:es[i]? = some e)
 (q:∀ h',h'.get? it=some (iO (JU s.heap.objs.size) false d (i+1) es.size ep e.key e.val)->h'.get? s.heap.objs.size=some { cls:=.type "tuple",data:=.seq #[e.key,e.val] }->(∀ b o,b≠it->s.heap.get? b=some o->h'.get? b=some o)->Q (some (.ref s.heap.objs.size)) { s with heap:=h' }):Hh (model prog w) A (JD (.ref it)) Q E s:=by
 have ty:s.TypeIs (.ref it) "dict_itemiterator":=⟨_,hi,rfl⟩;unfold JD;refine gV (Jn (HN (name:=Iy "__next__") ty slot_next (HK slot_next ty bE ?_ (bS _))));unfold IS.«dict_itemiterator.__next__»;have hm:=gn
 wp_walk
 dsimp only;rw [if_neg (by simp)]
 wp_walk
 simp only [HF,he];refine gV (IK (Q:=fun n s'=>n=2/\s'=s) ?_ (fun n s' hs=>?_) fun _ _ z=>z)
 ·wp_walk
  exact ⟨by kernel_rfl,rfl⟩
 obtain ⟨rfl,rfl⟩:=hs;refine gV (bK ty ?_);refine gV (Hv hi (by simp) fun h1 j s1=>?_)
 refine gV (I7 ?_);have B:MW { s' with heap:=h1 } (.ref it) "dict_itemiterator":=⟨_,j,rfl⟩
 refine gV (bK B ?_);rw [if_neg (by decide +kernel)] at j
 have j:h1.get? it=some (iO .none false d (i+1) es.size ep .none .none):=j;have hsz:h1.objs.size=s'.heap.objs.size:=s1.1;refine JC (by decide +kernel) ?_
 refine gV (bK B ?_);refine JC (by decide +kernel) ?_
 refine uZ (s:={ s' with heap:=h1 }) j fun h2 F G L=>?_
 refine hW ⟨_,rfl,hW ?_⟩;dsimp only at F G ⊢;rw [hsz] at F G ⊢;exact q h2 F G fun b o J e=>L b o J (s1.extBut b o J e)
structure EJ (h0:Heap) (s:tv) (it d:Addr) (es:Array HS) (ep i:Nat) (acc:Array hH):Prop where
 dict:∃ cd dd sl,s.heap.get? d=some { cls:=cd,dict:=dd,data:=.dict es ep,slots:=sl }
 iter:(i=0/\s.heap.get? it=some (iO .none false d 0 es.size ep .none .none))∨(1<=i /\ ∃ (a:Addr) (b:Bool) (ok ov:hH) (oa:Obj),s.heap.get? it=some (iO (JU a) b d i es.size ep ok ov)/\a≠it/\s.heap.get? a=some oa/\oa.cls = .type "tuple")
 size:acc.size=i
 nd:acc.toList.Nodup
 item:∀ j,j < i -> ∃ t e,acc[j]? = some (.ref t)/\es[j]? = some e/\s.heap.get? t=some { cls:=.type "tuple",data:=.seq #[e.key,e.val] }/\h0.get? t=none
theorem AR (hn:A.handled=none) {S it d:Addr} {es:Array HS} {ep:Nat} {res:hH} {R:Qj->tv->Prop} (G:S≠it) (EW:S≠d) (EX:it≠d) (hz:es.size<=Hd) (h0:Heap) (F1:S < h0.objs.size->True) :
 ∀ (k i:Nat) (s:tv) (acc:Array hH) (c:Nat),es.size - i=k->i<=es.size->EJ h0 s it d es ep i acc->s.heap.get? S=some { cls:=.type "list",data:=.seq acc c } ->
  (∀ b o,b≠it->b≠S->h0.get? b=some o->s.heap.get? b=some o) ->
  (∀ (h':Heap) (acc':Array hH) (c':Nat),(∀ b o,b≠it->b≠S->h0.get? b=some o->h'.get? b=some o)->h'.get? S=some { cls:=.type "list",data:=.seq acc' c' }->acc'.size=es.size->acc'.toList.Nodup->(∀ j,j < es.size -> ∃ t e,acc'[j]? = some (.ref t)/\es[j]? = some e/\h'.get? t=some { cls:=.type "tuple",data:=.seq #[e.key,e.val] }/\h0.get? t=none)->R (.ok (.ret res)) { s with heap:=h' }) ->
  Le (model prog w) A (.builtin "list.extend.loop" ⟨[.ref S,.ref it,res],[]⟩) R s:=by
 intro k
 induction k with
 | zero =>
   intro i s acc c hk hi H U kp q;have J:i=es.size:=by lia
   obtain ⟨cd,dd,sl,hd⟩:=H.dict;refine Jf PZ ?_;unfold IS.«list.extend.loop»;dsimp only;refine gV ?_;have key:∀ (f0:hH) (b:Bool) (ok ov:hH),s.heap.get? it=some (iO f0 b d es.size es.size ep ok ov)->Hh (model prog w) (A.under (QV "list.extend.loop" { pos:=[Ht S,Ht it,res] })) (JD (.ref it)) (fun a s'=>a=none /\ ∃ h',(∀ b o,b≠it->s.heap.get? b=some o->h'.get? b=some o)/\s' = { s with heap:=h' }) (fun e s'=>R (.error e) s') s:=by
    intro f0 b ok ov hi;refine nx_end hn hi hd fun h' kp'=>⟨rfl,h',kp',rfl⟩
   have ES:Hh (model prog w) (A.under (QV "list.extend.loop" { pos:=[Ht S,Ht it,res] })) (JD (.ref it)) (fun a s'=>a=none /\ ∃ h',(∀ b o,b≠it->s.heap.get? b=some o->h'.get? b=some o)/\s' = { s with heap:=h' }) (fun e s'=>R (.error e) s') s:=by
    rcases H.iter with ⟨h0,e⟩ | ⟨h1,a,b,ok,ov,oa,e,_⟩
    ·refine key .none false .none .none ?_;rw [<- J,h0];rw [<- J,h0] at e;exact e
    ·refine key (JU a) b ok ov ?_;rw [<- J];rw [<- J] at e;exact e
   refine IK ES (fun a s' hs=>?_) fun _ _ z=>z;obtain ⟨rfl,h',kp',rfl⟩:=hs;refine hW (q h' acc c (fun b o h1 h2 e=>kp' b o h1 (kp b o h1 h2 e)) (kp' S _ G U) (by rw [H.size];exact J) H.nd fun j hj=>?_)
   obtain ⟨t,e,L,Y,B,e4⟩:=H.item j (by lia)
   refine ⟨t,e,L,Y,kp' t _ (fun z=>?_) B,e4⟩
   rcases H.iter with ⟨_,e⟩ | ⟨_,a,b,ok,ov,oa,e,_⟩
   ·rw [z,e] at B;simp [iO] at B
   ·rw [z,e] at B;simp [iO] at B
 | succ k ih =>
   intro i s acc c hk hi H U kp q;have EY:i < es.size:=by lia
   obtain ⟨cd,dd,sl,hd⟩:=H.dict;have he:es[i]? = some es[i]:=HC EY;refine Jf PZ ?_;unfold IS.«list.extend.loop»;dsimp only;refine gV ?_;have key:Hh (model prog w) (A.under (QV "list.extend.loop" { pos:=[Ht S,Ht it,res] })) (JD (.ref it)) (fun v s'=>v=some (.ref s.heap.objs.size) /\ ∃ (h':Heap) (a:Addr) (b:Bool) (ok ov:hH) (oa:Obj),s' = { s with heap:=h' }/\h'.get? it=some (iO (JU a) b d (i+1) es.size ep ok ov)/\a≠it/\h'.get? a=some oa/\oa.cls = .type "tuple" /\ h'.get? s.heap.objs.size=some { cls:=.type "tuple",data:=.seq #[es[i].key,es[i].val] } /\ ∀ b o,b≠it->s.heap.get? b=some o->h'.get? b=some o) (fun e s'=>R (.error e) s') s:=by
    rcases H.iter with ⟨h0,e⟩ | ⟨h1,a,b,ok,ov,oa,e,L,Y,B⟩
    ·subst h0;refine AQ e hd he fun h' g1 g2 g3=>⟨rfl,h',_,_,_,_,_,rfl,g1,?_,g2,rfl,g2,g3⟩;exact Iu (H0 e)
    ·refine AO e L Y hd he fun h' g1 g2 g3=>⟨rfl,h',a,_,_,_,oa,rfl,g1,L,g3 a oa L Y,B,g2,g3⟩
   refine IK key (fun v s' hs=>?_) fun _ _ z=>z;obtain ⟨rfl,h',a,b,ok,ov,oa,rfl,g1,g2,g3,g4,g5,g6⟩:=hs;have O:=H0 U;refine gV (KA (g6 S _ G U) rfl ?_ (by rw [H.size];lia) (by simp [H.size];lia))
   refine hW ⟨Kb Nr _,?_⟩;have gS:=JZ (c:="list") (g6 S _ G U) (fun x=>x.push (Ht s.heap.objs.size));have oth:∀ b o,b≠S->h'.get? b=some o->(h'.update S (Ja fun x=>x.push (Ht s.heap.objs.size))).get? b=some o:=fun b o hb e=>by rw [Iq _ _ _ _ hb];exact e
   have tup_ne:∀ t (o:Obj),s.heap.get? t=some o->o.cls = .type "tuple" -> t≠it/\t≠S:=fun t o e ec=>by
    constructor
    ·intro z
     rcases H.iter with ⟨_,e'⟩ | ⟨_,a,b,ok,ov,oa,e',_⟩
     ·rw [z,e'] at e;cases e;simp [iO] at ec
     ·rw [z,e'] at e;cases e;simp [iO] at ec
    ·intro z;rw [z,U] at e;cases e;simp at ec
   refine ih (i+1) _ _ _ (by lia) (by lia) ⟨⟨cd,dd,sl,oth d _ EW.symm (g6 d _ EX.symm hd)⟩,.inr ⟨by lia,a,b,ok,ov,oa,oth it _ G.symm g1,g2,oth a _ ?_ g3,g4⟩,by simp [H.size],?_,?_⟩ gS (fun b o h1 h2 e=>oth b o h2 (g6 b o h1 (kp b o h1 h2 e))) fun h2 ET c2=>q h2 ET c2
   ·intro z;rw [z,g6 S _ G U] at g3;cases g3;simp at g4
   ·rw [Hr];refine Lg.mpr ⟨H.nd,by simp,fun x hx y hy EZ=>?_⟩
    simp at hy;subst hy EZ;obtain ⟨j,hj,ej⟩:=Jb.mp hx;obtain ⟨t,e,L,Y,B,e4⟩:=H.item j (by rw [<- H.size];simpa using hj)
    have e5:acc[j]? = some (Ht s.heap.objs.size):=by
     rw [<- Hz,D0 hj,ej]
    rw [e5] at L;cases L;exact absurd (H0 B) (Ig _)
   ·intro j hj
    by_cases EU:j < i
    ·obtain ⟨t,e,L,Y,B,e4⟩:=H.item j EU;obtain ⟨t1,t2⟩:=tup_ne t _ B rfl;refine ⟨t,e,?_,Y,oth t _ t2 (g6 t _ t1 B),e4⟩;rw [Array.getElem?_push_lt (by rw [H.size];exact EU)]
     rw [<- L,HC]
    ·have:j=i:=by lia
     subst this;have Z:it < s.heap.objs.size:=by
      rcases H.iter with ⟨_,e'⟩ | ⟨_,a,b,ok,ov,oa,e',_⟩
      ·exact H0 e'
      ·exact H0 e'
     have EV:h0.get? s.heap.objs.size=none:=by
      cases hq:h0.get? s.heap.objs.size with
      | none=>rfl
      | some o=>exact absurd (H0 (kp _ _ (Iu Z) (Iu O) hq)) (Ig _)
     refine ⟨s.heap.objs.size,es[j],?_,he,oth _ _ (Iu O) g5,EV⟩;have:=H.size;subst this;simp
end
end It
end L2
namespace L2
namespace It
open PySem PySem.Spec PyProof.Rows
section
variable {prog:HB} {w:HX} {A:I0} {E:hH->tv->Prop} {s:tv}
theorem it_view {v d:Addr} {es:Array HS} {ep:Nat} {cd:hH} {dd:Option Addr} {sl:Array (Option hH)} {Q:hH->tv->Prop} (j:s.heap.get? v=some { cls:=.type "dict_items",data:=.fields #[.ref d] }) (hd:s.heap.get? d=some { cls:=cd,dict:=dd,data:=.dict es ep,slots:=sl })
 (q:Q (.ref s.heap.objs.size) { s with heap:=s.heap.push (iO .none false d 0 es.size ep .none .none) }):Hh (model prog w) A (O8 (.ref v)) Q E s:=by
 have ty:s.TypeIs (.ref v) "dict_items":=⟨_,j,rfl⟩;refine O6 ty OQ (HK OQ ty F.entry_dict_items_iter ?_ (F.args_dict_items_iter_1 _));unfold IS.«dict_items.__iter__»
 wp_walk
 exact ⟨_,rfl,"dict_itemiterator",_,⟨_,GZ _ rfl,rfl⟩,slot_next.lookup,q⟩
theorem v9 {v d:Addr} {Q:Bool->tv->Prop} (B:s.heap.get? v=some { cls:=.type "dict_items",data:=.fields #[.ref d] }) (q:Q false s):Hh (model prog w) A (K9 (.ref v)) Q E s:=by
 have ty:s.TypeIs (.ref v) "dict_items":=⟨_,B,rfl⟩;unfold K9;refine gV (Ni ty F.slot_dict_items_len.lookup ?_);generalize j:("dict_items.__len__":String)=z
 (fail_if_success (clear j z));wp_delta
 rw [show splitId z=some ("dict_items","__len__") from by subst j;decide +kernel]
 subst j;refine gV (Jg (b:=true) ty (by rw [Ki];kernel_rfl) ?_)
 rw [if_neg (by decide)]
 refine Mp (by decide +kernel) ?_
 refine gV (Jy ty ?_);exact hW q
open Builtin.List in
theorem ya {B:I0} (hn:A.handled=none) {S v d:Addr} {es:Array HS} {ep c:Nat} {cd:hH} {dd:Option Addr} {sl:Array (Option hH)} {R:Qj->tv->Prop} (res:hH) (J:s.heap.get? v=some { cls:=.type "dict_items",data:=.fields #[.ref d] }) (hd:s.heap.get? d=some { cls:=cd,dict:=dd,data:=.dict es ep,slots:=sl }) (G:s.heap.get? S=some { cls:=.type "list",data:=.seq #[] c }) (hz:es.size<=Hd)
 (q:∀ (h':Heap) (acc':Array hH) (c':Nat),(∀ b o,b≠S->s.heap.get? b=some o->h'.get? b=some o)->h'.get? S=some { cls:=.type "list",data:=.seq acc' c' }->acc'.size=es.size->acc'.toList.Nodup->(∀ j,j < es.size -> ∃ t e,acc'[j]? = some (.ref t)/\es[j]? = some e/\h'.get? t=some { cls:=.type "tuple",data:=.seq #[e.key,e.val] }/\s.heap.get? t=none)->R (.ok (.ret res)) { s with heap:=h' }) :
 Hh (model prog w) B (listExtendWith (.ref S) (.ref v) res) (fun fin s'=>match fin with | .done f=>R (.ok f) s' | .again c'=>c'.quiet=true/\Le (model prog w) A c' R s') (fun e s'=>R (.error e) s') s:=by
 have ty:s.TypeIs (.ref v) "dict_items":=⟨_,J,rfl⟩;have ES:S≠v:=fun e=>by rw [e,J] at G;simp at G
 have L:S≠d:=fun e=>by rw [e,hd] at G;simp at G
 have O:=H0 hd;have z:=H0 G;have EU:=H0 J;have h1:listSameRef (.ref S) (.ref v)=false:=by simp [listSameRef,ES]
 unfold listExtendWith;refine gV (Jy ty ?_);rw [if_neg (by rw [h1];decide)]
 refine gV (it_view J hd ?_);refine gV (I7 (v9 (d:=d) (h6 _ J) ?_));refine Mp (by decide +kernel) ?_
 refine gV (J6 ?_);unfold listTouch;have U:(s.heap.push (iO .none false d 0 es.size ep .none .none)).get? S=some (Qq "list" #[] c):=h6 _ G;refine gV (gV (KA U rfl ?_ (by simp) (by simp)))
 have Y:=JZ U (fun x=>x.push Jw);refine KA Y rfl ?_ (by simp;decide) (by simp)
 have ET:=JZ Y (fun x=>x.pop);refine hW ⟨Kb Nr _,?_⟩;have oth:∀ b o,b≠S->s.heap.get? b=some o->(((s.heap.push (iO .none false d 0 es.size ep .none .none)).update S (Ja fun x=>x.push Jw)).update S (Ja fun x=>x.pop)).get? b=some o:=fun b o Z e=>by
  rw [Iq _ _ _ _ Z,Iq _ _ _ _ Z];exact h6 _ e
 have hit:(((s.heap.push (iO .none false d 0 es.size ep .none .none)).update S (Ja fun x=>x.push Jw)).update S (Ja fun x=>x.pop)).get? s.heap.objs.size=some (iO .none false d 0 es.size ep .none .none):=by
  rw [Iq _ _ _ _ (Iu z),Iq _ _ _ _ (Iu z)];exact GZ _ rfl
 refine AR hn (S:=S) (it:=s.heap.objs.size) (d:=d) (es:=es) (ep:=ep) (HJ z) L (Iu O) hz s.heap (fun _=>trivial) es.size 0 _ #[] _ (by lia) (by lia) ⟨⟨cd,dd,sl,oth d _ L.symm hd⟩,.inl ⟨rfl,hit⟩,rfl,by simp,fun j hj=>by lia⟩ ET (fun b o h1 h2 e=>oth b o h2 e) fun h' acc' c' k1 k2 k3 k5 k4=>?_
 exact q h' acc' c' (fun b o Z e=>k1 b o (HJ (H0 e)) Z e) k2 k3 k5 k4
theorem collect_view (hn:A.handled=none) {v d:Addr} {es:Array HS} {ep:Nat} {cd:hH} {dd:Option Addr} {sl:Array (Option hH)} {Q:List hH->tv->Prop} (Y:s.heap.get? v=some { cls:=.type "dict_items",data:=.fields #[.ref d] }) (hd:s.heap.get? d=some { cls:=cd,dict:=dd,data:=.dict es ep,slots:=sl }) (hz:es.size<=Hd)
 (q:∀ (h':Heap) (us:List hH),(∀ b o,s.heap.get? b=some o->h'.get? b=some o)->us.length=es.size->us.Nodup->(∀ j,j < es.size -> ∃ t e,us[j]? = some (.ref t)/\es[j]? = some e/\h'.get? t=some { cls:=.type "tuple",data:=.seq #[e.key,e.val] }/\s.heap.get? t=none)->Q us { s with heap:=h' }):Hh (model prog w) A (collect (.ref v)) Q E s:=by
 unfold collect;refine gV (wpAny_runValue (Jf P5 ?_));unfold IS.«proto.collect»;dsimp only;refine gV (MV ?_ (by simp))
 refine hW ⟨Qr _ (by decide +kernel),?_⟩
 refine Jf Rm ?_;unfold IS.«list.__iadd__»;refine gV (JO (a:=(Ht s.heap.objs.size,[Ht v])) (by kernel_rfl) ?_)
 have Z:=H0 Y;have z:(s.heap.push { cls:=HY "list",data:=KJ [].toArray }).get? s.heap.objs.size=some { cls:=HY "list",data:=KJ #[] 0 }:=GZ _ rfl;have fin:∀ (h':Heap) (acc:Array hH) (c':Nat),(∀ b o,b≠s.heap.objs.size->(s.heap.push { cls:=HY "list",data:=KJ [].toArray }).get? b=some o->h'.get? b=some o)->h'.get? s.heap.objs.size=some { cls:=.type "list",data:=.seq acc c' }->acc.size=es.size->acc.toList.Nodup->(∀ j,j < es.size -> ∃ t e,acc[j]? = some (.ref t)/\es[j]? = some e/\h'.get? t=some { cls:=.type "tuple",data:=.seq #[e.key,e.val] }/\(s.heap.push { cls:=HY "list",data:=KJ [].toArray }).get? t=none) ->
  Hh (model prog w) A (do
   let o <- load s.heap.objs.size
   match o.data with
   | .seq xs _=>pure xs.toList
   | _=>unsupported "internal:collect") Q E { s with heap:=h' }:=by
  intro h' acc c' B G J L O;refine gV (S3 G ?_);exact hW (q h' acc.toList (fun b o e=>B b o (HJ (H0 e)) (h6 _ e)) (by simpa using J) L fun j hj=>by
   obtain ⟨t,e,e1,e2,e3,e4⟩:=O j hj;refine ⟨t,e,by rw [Hz];exact e1,e2,e3,?_⟩
   cases hq:s.heap.get? t with
   | none=>rfl
   | some o=>rw [h6 _ hq] at e4;cases e4)
 refine IK (ya (s:={ s with heap:=s.heap.push { cls:=HY "list",data:=KJ [].toArray } }) (R:=fun r s'=>r = .ok (.ret (.ref s.heap.objs.size))/\Hh (model prog w) A (do
  let o <- load s.heap.objs.size
  match o.data with
  | .seq xs _=>pure xs.toList
  | _=>unsupported "internal:collect") Q E s') hn (Ht s.heap.objs.size) (h6 _ Y) (h6 _ hd) z hz fun h' acc c' B G J L O=>⟨rfl,fin h' acc c' B G J L O⟩) (fun fn s' h=>?_) (fun e s' h=>?_)
 ·cases fn with
  | done f =>
    obtain ⟨e,h⟩:=h
    cases e
    exact h
  | again c' =>
    refine ⟨h.1,Ls h.2 fun r s1 U=>?_⟩;obtain ⟨rfl,U⟩:=U;exact U
 ·cases h.1
end
end It
end L2
namespace L2
open PySem PySem.Spec PyProof.Rows
section
section
variable {P:HB} {w:HX} {H:Hp} {h:Heap} {a:Addr} {o:HO}
theorem ObjOk.there (x:ObjOk P w H h a o):∃ ob,h.get? a=some ob:=by
 cases o with
 | lst xs=>obtain ⟨_,_,_,_,e⟩:=x;exact ⟨_,e⟩
 | tup xs=>obtain ⟨_,_,_,_,e,_⟩:=x;exact ⟨_,e⟩
 | dK kvs=>obtain ⟨_,_,_,_,o,_,_,e,_⟩:=x;exact ⟨_,e⟩
 | dT kvs=>obtain ⟨_,_,_,_,o,_,_,e,_⟩:=x;exact ⟨_,e⟩
 | set S n=>obtain ⟨o,_,_,_,e,_⟩:=x;exact ⟨_,e⟩
 | ins C dx fs=>obtain ⟨_,_,_,e,_⟩:=x;exact ⟨_,e⟩
 | own y=>obtain ⟨_,e⟩:=x;exact ⟨_,e⟩
 | xd fs=>obtain ⟨_,⟨_,_,_,e,_⟩,_⟩:=x;exact ⟨_,e⟩
 | rng lo hi=>obtain ⟨_,_,_,e⟩:=x;exact ⟨_,e⟩
 | frz ob u=>obtain ⟨e,_⟩:=x;exact ⟨_,e⟩
 | tbl ps=>exact ⟨_,show h.get? a=some _ from x⟩
 | met f y=>exact ⟨_,show h.get? a=some _ from x⟩
 | ext φ=>obtain ⟨_,⟨_,e⟩,_⟩:=x;exact ⟨_,e⟩
end
noncomputable def lay (H:Hp) (N:Addr->Option HO):Hp:=fun b=>match N b with | some o=>some o | none=>H b
section
variable {X:Cx} {pins:List (Addr×Obj)} {σ:List (Option V)} {H:Hp} {s:tv} {h':Heap} {N:Addr->Option HO}
theorem kM {b:Addr} {o:HO} (e:N b=some o):lay H N b=some o:=by unfold lay;rw [e]
theorem i8 {b:Addr} (e:N b=none):lay H N b=H b:=by unfold lay;rw [e]
theorem Inv.fresh' (I:Inv X pins σ H s) {b:Addr} (e:s.heap.get? b=none):H b=none:=by
 cases q:H b with
 | none=>rfl
 | some o=>obtain ⟨ob,eo⟩:=(I.hok b o q).there;rw [e] at eo;cases eo
theorem Inv.laidN {t':Nat} (I:Inv X pins σ H s) (k:∀ b u,s.heap.get? b=some u->h'.get? b=some u) (j:∀ b o,N b=some o->s.heap.get? b=none) (new:∀ b o,N b=some o->ObjOk X.prog X.w (lay H N) h' b o):Inv X pins σ (lay H N) { s with heap:=h',toks:=t' }:=by
 have old:∀ b u,s.heap.get? b=some u->N b=none:=fun b u e=>by
  cases q:N b with
  | none=>rfl
  | some o=>rw [j b o q] at e;cases e
 have oldH:∀ b o,H b=some o->lay H N b=some o:=fun b o e=>by
  obtain ⟨ob,eo⟩:=(I.hok b o e).there;rw [i8 (old b ob eo)];exact e
 refine I.un ⟨fun b u q _ _ _=>k b u q,fun b u q _ _ _=>⟨u.slots,k b u q⟩,fun b u q n _=>by rw [i8 (old b u q)];exact n,fun b u q _=>⟨u,k b u q⟩,fun b xs q=>oldH b _ q,fun b u xs q=>oldH b _ q,fun b ps q=>⟨#[],by rw [oldH b _ q];simp⟩⟩ fun b o e=>?_
 cases q:N b with
 | some o'=>rw [kM q] at e;cases e;exact new b o q
 | none =>
   rw [i8 q] at e;exact (I.hok b o e).stay (fun c v _ q=>k c v q) (fun c q=>oldH c _ q) fun c xs q=>oldH c _ q
end
namespace Mi
open L2.Srt
inductive Sh where
 | int
 | tup (l:List Sh)
mutual
noncomputable def hs:Sh->D->Bool
 | .int,.int _=>true
 | .tup l,.tup ds=>hss l ds
 | _,_=>false
noncomputable def hss:List Sh->List D->Bool
 | [],[]=>true
 | s::l,d::ds=>hs s d&&hss l ds
 | _,_=>false
end
mutual
noncomputable def pd:D->IY
 | .int i=>.int i
 | .tup ds=>.tuple (pds ds)
 | _=>.none
noncomputable def pds:List D->List IY
 | []=>[]
 | d::ds=>pd d::pds ds
end
mutual
noncomputable def dep:Sh->Nat
 | .int=>0
 | .tup l=>deps l+1
noncomputable def deps:List Sh->Nat
 | []=>0
 | s::l=>max (dep s) (deps l)
end
noncomputable def gp:Sh->Bool
 | .int=>true
 | .tup (.int::l)=>decide (deps l<=6)
 | .tup (.tup a::l)=>decide (deps (.tup a::l)<=6)
 | .tup []=>false
noncomputable def kyD (d:D):Ky:=toK (pd d)
mutual
theorem va:∀ (s:Sh) (x y:D),hs s x=true->hs s y=true->Cmpb (pd x) (pd y)
 | .int,.int a,.int b,_,_=>by simp only [pd];exact .int a b
 | .tup l,.tup a,.tup b,h,g=>by simp only [hs] at h g;simp only [pd];exact hss_cmp l a b h g
 | .int,.int _,.non,_,g=>by simp [hs] at g
 | .int,.int _,.bl _,_,g=>by simp [hs] at g
 | .int,.int _,.str _,_,g=>by simp [hs] at g
 | .int,.int _,.tup _,_,g=>by simp [hs] at g
 | .int,.int _,.con _,_,g=>by simp [hs] at g
 | .int,.int _,.ref _,_,g=>by simp [hs] at g
 | .int,.non,_,h,_=>by simp [hs] at h
 | .int,.bl _,_,h,_=>by simp [hs] at h
 | .int,.str _,_,h,_=>by simp [hs] at h
 | .int,.tup _,_,h,_=>by simp [hs] at h
 | .int,.con _,_,h,_=>by simp [hs] at h
 | .int,.ref _,_,h,_=>by simp [hs] at h
 | .tup _,.non,_,h,_=>by simp [hs] at h
 | .tup _,.bl _,_,h,_=>by simp [hs] at h
 | .tup _,.int _,_,h,_=>by simp [hs] at h
 | .tup _,.str _,_,h,_=>by simp [hs] at h
 | .tup _,.con _,_,h,_=>by simp [hs] at h
 | .tup _,.ref _,_,h,_=>by simp [hs] at h
 | .tup _,.tup _,.non,_,g=>by simp [hs] at g
 | .tup _,.tup _,.bl _,_,g=>by simp [hs] at g
 | .tup _,.tup _,.int _,_,g=>by simp [hs] at g
 | .tup _,.tup _,.str _,_,g=>by simp [hs] at g
 | .tup _,.tup _,.con _,_,g=>by simp [hs] at g
 | .tup _,.tup _,.ref _,_,g=>by simp [hs] at g
theorem hss_cmp:∀ (l:List Sh) (a b:List D),hss l a=true->hss l b=true->Cmpb (.tuple (pds a)) (.tuple (pds b))
 | [],[],[],_,_=>by simp only [pds];exact .nil _
 | [],[],_::_,_,g=>by simp [hss] at g
 | [],_::_,_,h,_=>by simp [hss] at h
 | _::_,[],_,h,_=>by simp [hss] at h
 | _::_,_::_,[],_,g=>by simp [hss] at g
 | s::l,x::a,y::b,h,g=>by
   simp only [hss,z4] at h g;simp only [pds];exact .cons (va s x y h.1 g.1) (hss_cmp l a b h.2 g.2)
end
mutual
theorem jV:∀ (s:Sh) (x:D),hs s x=true->Pl (pd x)/\(pd x).canLay0=true/\(pd x).depth<=dep s
 | .int,.int a,_=>by simp only [pd];exact ⟨.int a,rfl,by simp [KU]⟩
 | .tup l,.tup a,h=>by
  simp only [hs] at h;obtain ⟨h1,h2,j⟩:=hss_pl l a h;simp only [pd];exact ⟨.tup _ h1,by simpa [Mo] using h2,by simp [KU,dep];lia⟩
 | .int,.non,h=>by simp [hs] at h
 | .int,.bl _,h=>by simp [hs] at h
 | .int,.str _,h=>by simp [hs] at h
 | .int,.tup _,h=>by simp [hs] at h
 | .int,.con _,h=>by simp [hs] at h
 | .int,.ref _,h=>by simp [hs] at h
 | .tup _,.non,h=>by simp [hs] at h
 | .tup _,.bl _,h=>by simp [hs] at h
 | .tup _,.int _,h=>by simp [hs] at h
 | .tup _,.str _,h=>by simp [hs] at h
 | .tup _,.con _,h=>by simp [hs] at h
 | .tup _,.ref _,h=>by simp [hs] at h
theorem hss_pl:∀ (l:List Sh) (a:List D),hss l a=true->(∀ x∈pds a,Pl x)/\J8 (pds a)=true/\JW (pds a)<=deps l
 | [],[],_=>by simp [pds,J8,JW]
 | [],_::_,h=>by simp [hss] at h
 | _::_,[],h=>by simp [hss] at h
 | s::l,x::a,h=>by
   simp only [hss,z4] at h;obtain ⟨h1,h2,q⟩:=jV s x h.1;obtain ⟨g1,g2,g3⟩:=hss_pl l a h.2;simp only [pds];refine ⟨fun y j=>?_,by simp [J8,h2,g2],by simp [JW,deps];lia⟩
   rcases He.mp j with z | z
   ·rw [z];exact h1
   ·exact g1 y z
end
mutual
theorem ng (M:Mem):∀ (s:Sh) (x:D) (n:Nat),hs s x=true->dep s<=n->rb n M x=some (pd x)
 | .int,.int a,n,_,_=>by cases n <;> simp [rb,pd]
 | .tup l,.tup a,n,h,j=>by
  simp only [hs] at h;simp only [dep] at j;obtain ⟨k,rfl⟩:∃ k,n=k+1:=⟨n - 1,by lia⟩
  simp only [rb,pd];rw [hss_rb M l a k h (by lia)];rfl
 | .int,.non,_,h,_=>by simp [hs] at h
 | .int,.bl _,_,h,_=>by simp [hs] at h
 | .int,.str _,_,h,_=>by simp [hs] at h
 | .int,.tup _,_,h,_=>by simp [hs] at h
 | .int,.con _,_,h,_=>by simp [hs] at h
 | .int,.ref _,_,h,_=>by simp [hs] at h
 | .tup _,.non,_,h,_=>by simp [hs] at h
 | .tup _,.bl _,_,h,_=>by simp [hs] at h
 | .tup _,.int _,_,h,_=>by simp [hs] at h
 | .tup _,.str _,_,h,_=>by simp [hs] at h
 | .tup _,.con _,_,h,_=>by simp [hs] at h
 | .tup _,.ref _,_,h,_=>by simp [hs] at h
theorem hss_rb (M:Mem):∀ (l:List Sh) (a:List D) (n:Nat),hss l a=true->deps l<=n->aF (rb n M) a=some (pds a)
 | [],[],_,_,_=>by simp [pds,aF]
 | [],_::_,_,h,_=>by simp [hss] at h
 | _::_,[],_,h,_=>by simp [hss] at h
 | s::l,x::a,n,h,j=>by
   simp only [hss,z4] at h;simp only [deps] at j;simp only [pds,aF];rw [ng M s x n h.1 (by lia),hss_rb M l a n h.2 (by lia)];rfl
end
theorem j6 {s:Sh} (h:gp s=true):dep s<=7:=by
 match s,h with
 | .int,_=>simp [dep]
 | .tup (.int::l),h=>simp [gp] at h;simp [dep,deps];lia
 | .tup (.tup a::l),h=>simp only [gp,decide_eq_true_eq] at h;simp only [dep];lia
theorem qK {s:Sh} (h:gp s=true) {xs:List D} (hx:∀ x∈xs,hs s x=true):oK 7 (xs.map pd) /\ ∀ d∈xs.map pd,Pl d:=by
 refine ⟨⟨?_,?_,?_⟩,?_⟩
 ·intro d hd e he;obtain ⟨x,h1,rfl⟩:=Hk.mp hd;obtain ⟨y,h2,rfl⟩:=Hk.mp he;exact va s x y (hx x h1) (hx y h2)
 ·intro d hd;obtain ⟨x,h1,rfl⟩:=Hk.mp hd;obtain ⟨_,g2,g3⟩:=jV s x (hx x h1);exact ⟨g2,by have:=j6 h;lia⟩
 ·match s,h with
  | .int,_ =>
   left
   intro d hd;obtain ⟨x,h1,rfl⟩:=Hk.mp hd;have:=hx x h1
   cases x <;> simp [hs] at this
   exact ⟨_,rfl⟩
  | .tup (.int::l),_ =>
   right;left
   intro d hd;obtain ⟨x,h1,rfl⟩:=Hk.mp hd;have:=hx x h1
   cases x <;> simp [hs] at this
   rename_i ds
   cases ds with
   | nil=>simp [hss] at this
   | cons y ys =>
     simp [hss] at this
     cases y <;> simp [hs] at this
     exact ⟨_,_,rfl⟩
  | .tup (.tup a::l),_ =>
   right;right
   intro d hd;obtain ⟨x,h1,rfl⟩:=Hk.mp hd;have:=hx x h1
   cases x <;> simp [hs] at this
   rename_i ds
   cases ds with
   | nil=>simp [hss] at this
   | cons y ys =>
     simp [hss] at this
     cases y <;> simp [hs] at this
     exact ⟨_,_,rfl⟩
 ·intro d hd;obtain ⟨x,h1,rfl⟩:=Hk.mp hd;exact (jV s x (hx x h1)).1
theorem eM {α β:Type} (f : α -> β):∀ {l m:List β},l.Perm m -> ∀ {t:List α},t.map f=m -> ∃ t':List α,t'.Perm t/\t'.map f=l:=by
 intro l m h
 induction h with
 | nil=>intro t e;exact ⟨[],by rw [List.map_eq_nil_iff.mp e],rfl⟩
 | cons x h ih =>
   intro t e
   cases t with
   | nil=>simp at e
   | cons a t =>
     simp at e;obtain ⟨t',h1,h2⟩:=ih e.2;exact ⟨a::t',h1.cons a,by simp [h2,e.1]⟩
 | swap x y l =>
   intro t e
   match t,e with
   | a::b::t,e =>
     simp at e;exact ⟨b::a::t,.swap _ _ _,by simp [e]⟩
 | trans h1 h2 j q =>
   intro t e;obtain ⟨G,p2,z⟩:=q e;obtain ⟨t1,B,F⟩:=j z;exact ⟨t1,B.trans p2,F⟩
def fI (ys:List D):Prop:=ys.Pairwise fun a b=>ltK (kyD b) (kyD a)=false
theorem qL {K:Frag} {H:Hp}:∀ {ds:List D} {vs:List V} {us:List hH},RDs K H ds vs->Vals vs us -> ∃ t:List (D×V×hH),t.map (·.1)=ds/\t.map (·.2.1)=vs/\t.map (·.2.2)=us /\ ∀ p∈t,RD K H p.1 p.2.1/\RelV p.2.1 p.2.2
 | [],vs,us,h,g=>by
  cases RDs.nil_iff.mp h
  cases g
  exact ⟨[],rfl,rfl,rfl,fun _ h=>by simp at h⟩
 | d::ds,vs,us,h,g=>by
   obtain ⟨v,r,rfl,h1,h2⟩:=SG.mp h
   cases g with
   | cons g1 g2 =>
     rename_i u us;obtain ⟨t,j,q,B,F⟩:=qL h2 g2;exact ⟨(d,v,u)::t,by simp [j],by simp [q],by simp [B],fun p G=>by
      rcases He.mp G with z | z
      ·rw [z];exact ⟨h1,g1⟩
      ·exact F p z⟩
theorem qM {K:Frag} {H:Hp}:∀ {t:List (D×V×hH)},(∀ p∈t,RD K H p.1 p.2.1/\RelV p.2.1 p.2.2)->RDs K H (t.map (·.1)) (t.map (·.2.1))/\Vals (t.map (·.2.1)) (t.map (·.2.2))
 | [],_=>⟨RDs.nil,.nil⟩
 | p::t,h=>by
   obtain ⟨h1,h2⟩:=qM (t:=t) fun q j=>h q (by simp [j])
   exact ⟨RDs.cons (h p (by simp)).1 h1,.cons (h p (by simp)).2 h2⟩
section
variable {X:Cx}
theorem ql {cap:Nat} (S:i5 cap) (L:X.A.units+16 < Js) {pins:List (Addr×Obj)} {s:tv} {σ:St} {H:Hp} {Q:VK} (I:Inv X pins σ H s) {M:Mem} (rm:RM X.K M H) {es:List D} {sh:Sh} {vs:List V} {p:Addr} (rvs:RDs X.K H es vs) (hok:gp sh=true) (O:∀ d∈es,hs sh d=true)
 (q:∀ p ys,M p=none->ys.Perm es->fI ys->KE' X.K M H Q (.ref p) (af M p (.lst ys))) {its:List hH} (hv:Vals vs its) (hl:vs.length<=Hd) (EU:vs.length<=cap)
 (U:∀ (E:hH->tv->Prop) (R:List hH->tv->Prop),(∀ (h':Heap) (tk:Nat),(∀ b o,s.heap.get? b=some o->h'.get? b=some o)->s.toks<=tk->R its { s with heap:=h',toks:=tk })->Hh (Hx X.prog X.w) X.A.in1 (collect (.ref p)) R E s) :
 Hh (Hx X.prog X.w) X.A (call (.builtin "sorted") [.ref p]) (EP X pins σ Q) X.xe s:=by
 obtain ⟨hS,J⟩:=qK hok O;have EX:=j6 hok;obtain ⟨t,t1,t2,t3,t4⟩:=qL rvs hv;have Y:∀ pp∈t,∃ as,LD s.heap pp.2.2 (pd pp.1) as:=fun pp j=>by
  have hm:pp.1∈es:=by rw [<- t1];exact Hl j
  exact bu I rm 16 pp.1 (pd pp.1) pp.2.1 pp.2.2 (ng M sh pp.1 16 (O _ hm) (by lia)) (t4 pp j).1 (t4 pp j).2
 have Z:RdL s.heap its (es.map pd):=fun u L=>by
  rw [<- t3] at L;obtain ⟨pp,j,rfl⟩:=Hk.mp L;obtain ⟨as,ra⟩:=Y pp j;exact ⟨pd pp.1,Hl (by rw [<- t1];exact Hl j),as,ra⟩
 refine mf S (m:=7) (ds:=es.map pd) (C:=fun h' vs'=>vs'=its /\ ∀ b o,s.heap.get? b=some o->h'.get? b=some o) (by lia) hS J (fun E R hR=>?_) fun h1 h2 vs' out n' tk hC old g2 F ES EY EZ ht=>?_
 ·refine U E R fun h' tk kp EV=>hR h' its tk ⟨rfl,kp⟩ (fun u L=>?_) ⟨by rw [<- hv.length];exact hl,by rw [<- hv.length];exact EU⟩ EV
  obtain ⟨d,hd,as,ra⟩:=Z u L;exact ⟨d,hd,as,aW (fun b o e _=>kp b o e) (J d hd) ra⟩
 ·obtain ⟨rfl,kp⟩:=hC;rw [<- t3] at F;obtain ⟨t',p1,p2⟩:=eM (fun pp:D×V×hH=>pp.2.2) F rfl;have hz:=qM (t:=t') fun pp j=>t4 pp (p1.mem_iff.mp j);have ET:∀ b o,s.heap.get? b=some o->h2.get? b=some o:=fun b o e=>old b o (kp b o e);have z:s.heap.get? h1.objs.size=none:=by
   cases hq:s.heap.get? h1.objs.size with
   | none=>rfl
   | some o=>exact absurd (H0 (kp _ _ hq)) (Ig _)
  have EW:=I.fresh' z;have hlen:(t'.map (·.2.1)).length<=Hd:=by
   rw [H8,p1.length_eq,<- H8 (f:=fun pp:D×V×hH=>pp.2.1),t2];exact hl
  have I2:=I.laidN (t':=tk) (h':=h2) (N:=fun b=>if b=h1.objs.size then some (.lst (t'.map (·.2.1))) else none) ET (fun b o e=>by
   by_cases B:b=h1.objs.size
   ·rw [B];exact z
   ·rw [if_neg B] at e;cases e) (fun b o e=>by
   by_cases B:b=h1.objs.size
   ·subst B;rw [if_pos rfl] at e;cases e;exact ⟨hlen,out,n',by rw [<- p2];exact hz.2,g2⟩
   ·rw [if_neg B] at e;cases e)
  have eH:lay H (fun b=>if b=h1.objs.size then some (.lst (t'.map (·.2.1))) else none)=upd H h1.objs.size (.lst (t'.map (·.2.1))):=by
   funext b
   unfold lay upd;dsimp only
   by_cases B:b=h1.objs.size
   ·rw [if_pos B,if_pos B]
   ·rw [if_neg B,if_neg B]
  rw [eH] at I2;refine ⟨.ref h1.objs.size,_,I2,rfl,?_⟩;refine cH rm hz.1 (fun p' n=>q p' _ n ?_ ?_) EW
  ·have:=p1.map (fun pp:D×V×hH=>pp.1);rw [t1] at this;exact this
  ·unfold fI;rw [II];rw [<- p2,II] at ES;refine ES.imp_of_mem fun {a b} ha B hab=>?_;have rd:∀ pp∈t',Jr h2 pp.2.2=pd pp.1:=fun pp j=>by
    have G:=p1.mem_iff.mp j;obtain ⟨as,ra⟩:=Y pp G;have hm:pp.1∈es:=by rw [<- t1];exact Hl G
    exact JY (hS.lay _ (Hl hm)).1 (aW (fun b o e _=>ET b o e) (J _ (Hl hm)) ra)
   rw [rd a ha,rd b B] at hab;exact hab
end
end Mi
end
end L2
namespace L2
namespace Mi
open PySem PySem.Spec PyProof.Rows L2.Srt
noncomputable def kvD (kv:D×D):D:=.tup [kv.1,kv.2]
noncomputable def gu (ta:TEd):TEd:=fun ρ M Q=>ta ρ M fun x M1=>∃ a t kvs sh,x = .ref a/\M1 a=some (.dct t kvs)/\gp sh=true/\(∀ kv∈kvs,hs sh (kvD kv)=true) /\ ∀ p ys,M1 p=none->ys.Perm (kvs.map kvD)->fI ys->Q (.ref p) (af M1 p (.lst ys))
theorem sD {ta:TEd} (h:ad ta):ad (gu ta):=fun ρ M Q Q' i q=>h _ _ _ _ (fun x J ⟨a,t,kvs,sh,e,j,z,B,F⟩=>⟨a,t,kvs,sh,e,j,z,B,fun p ys n G hs=>i _ _ (F p ys n G hs)⟩) q
def gv (K:Frag) (H:Hp) (kv:D×D) (e:HS):Prop:=∃ kV vV,RD K H kv.1 kV/\RelV kV e.key/\RD K H kv.2 vV/\RelV vV e.val
theorem qN {K:Frag} {H:Hp} {d:D} {k:Key} (h:RKey d k):RD K H d (kV k):=by
 cases d <;> first
  | exact h.elim
  | (cases h;first | exact SD.mpr rfl | exact SK.mpr rfl)
theorem mj {K:Frag} {H:Hp}:∀ {ds:List D} {ks:List Key},I8 RKey ds ks->RDs K H ds (ks.map kV)
 | _,_,.nil=>RDs.nil
 | _,_,.cons r t=>RDs.cons (qN r) (mj t)
theorem zw {P:HB} {w:HX} {K:Frag} {H:Hp}:∀ {kvs:List (D×D)} {ps:List (Key×V)} {vs:List (Key×hH)} {es:List HS},I8 (fun (p:D×D) (q:Key×V)=>RKey p.1 q.1/\RD K H p.2 q.2) kvs ps->KV ps vs->Pairs (ar P w) es vs->I8 (gv K H) kvs es
 | _,_,_,_,.nil,.nil,.nil=>.nil
 | _,_,_,_,.cons B t1,.cons F G,.cons h1 h2 t3=>by
   refine .cons ⟨kV _,_,qN B.1,?_,B.2,by rw [h2];exact F.2⟩ (zw t1 G t3)
   rw [<- F.1] at h1
   rcases aP h1 with ⟨i,t,j,z⟩ | ⟨x,t,j,z⟩
   ·rw [j,z];exact ⟨t,rfl⟩
   ·rw [j,z];exact ⟨t,rfl⟩
theorem zx {P:HB} {w:HX} {K:Frag} {H:Hp}:∀ {kvs:List (D×D)} {ps:List (List Key×V)} {xs:List (List Key×Addr×hH)},I8 (fun (p:D×D) (q:List Key×V)=>RKeys p.1 q.1/\RD K H p.2 q.2) kvs ps->I8 (fun (p:List Key×V) (q:List Key×Addr×hH)=>p.1=q.1/\H q.2.1=some (.tup (p.1.map kV))/\RelV p.2 q.2.2) ps xs->I8 (gv K H) kvs (xs.map (Ku (IP (ar P w))))
 | _,_,_,.nil,.nil=>.nil
 | kv::_,_,_,.cons z t1,.cons B F=>by
   refine .cons ?_ (zx t1 F);obtain ⟨d,v⟩:=kv;have j:=z.1
   cases d <;> first
    | exact j.elim
    | exact ⟨.ref _,_,SO ⟨_,_,rfl,B.2.1,mj j⟩,rfl,z.2,B.2.2⟩
theorem aK {α β:Type} {R : α -> β -> Prop}:∀ {l:List α} {m:List β},I8 R l m->l.length=m.length
 | _,_,.nil=>rfl
 | _,_,.cons _ t=>by simp [aK t]
noncomputable abbrev Rw:=Addr×(D×D)×V×V×HS
theorem zy {K:Frag} {H:Hp} {G:Addr->HS->Prop}:∀ {kvs:List (D×D)} {es:List HS} {us:List hH},I8 (gv K H) kvs es->us.length=es.length->(∀ j,j < es.length -> ∃ t e,us[j]? = some (.ref t)/\es[j]? = some e/\G t e) ->
 ∃ L:List Rw,L.map (fun r=>Ht r.1)=us/\L.map (fun r=>r.2.1)=kvs /\ ∀ r∈L,RD K H r.2.1.1 r.2.2.1/\RelV r.2.2.1 r.2.2.2.2.key/\RD K H r.2.1.2 r.2.2.2.1/\RelV r.2.2.2.1 r.2.2.2.2.val/\G r.1 r.2.2.2.2
 | _,_,us,.nil,q,_=>⟨[],by simp at q;simp [q],rfl,fun _ h=>by simp at h⟩
 | kv::kvs,e::es,us,.cons r t,q,h=>by
   cases us with
   | nil=>simp at q
   | cons u us =>
     obtain ⟨L,h1,h2,O⟩:=zy (us:=us) t (by simpa using q) fun j U=>by
      obtain ⟨t,e',B,F,J⟩:=h (j+1) (by simpa using U)
      exact ⟨t,e',by simpa using B,by simpa using F,J⟩
     obtain ⟨t0,e',B,F,J⟩:=h 0 (by simp)
     simp at B F;subst B F;obtain ⟨kV,vV,g1,g2,g3,Y⟩:=r;exact ⟨(t0,kv,kV,vV,e)::L,by simp [h1],by simp [h2],fun r Z=>by
      rcases He.mp Z with z | z
      ·rw [z];exact ⟨g1,g2,g3,Y,J⟩
      ·exact O r z⟩
theorem yb {L:List Rw} (j:(L.map fun r=>r.1).Nodup) {r:Rw} (q:r∈L):L.find? (fun x=>decide (x.1=r.1))=some r:=by
 induction L with
 | nil=>simp at q
 | cons x L ih =>
   simp only [Hj,Ip] at j
   rcases He.mp q with z | z
   ·subst z;simp
   ·have:x.1≠r.1:=fun e=>j.1 (by rw [e];exact Hl z)
    rw [Ka (by simpa using this)]
    exact ih j.2 z
section
variable {X:Cx}
theorem gw {H:Hp} {h:Heap} {P:HB} {w:HX} {K:Frag} {a:Addr} {ps:List (List Key×V)} {kvs:List (D×D)} (ok:ObjOk P w H h a (.dT ps)) (pr:I8 (fun (p:D×D) (q:List Key×V)=>RKeys p.1 q.1/\RD K H p.2 q.2) kvs ps) :
 ∃ cd dd sl es ep,h.get? a=some { cls:=cd,dict:=dd,data:=.dict es ep,slots:=sl }/\es.size<=Hd/\I8 (gv K H) kvs es.toList:=by
 obtain ⟨G,B,xs,j,o,es,ep,h1,h2,z,F,J⟩:=ok;obtain ⟨cd,dd,dat,sl⟩:=o;dsimp only at z;subst z;have pp:=zx (P:=P) (w:=w) pr j;rw [<- F] at pp;refine ⟨cd,dd,sl,es,ep,h1,?_,pp⟩;have:=aK pp;have:=aK pr;simp at *;lia
theorem kN {pins:List (Addr×Obj)} {σ:St} {H:Hp} {s:tv} {M:Mem} (I:Inv X pins σ H s) (rm:RM X.K M H) {a:Addr} {t:Bool} {kvs:List (D×D)} (e:M a=some (.dct t kvs)) :
 ∃ cd dd sl es ep,s.heap.get? a=some { cls:=cd,dict:=dd,data:=.dict es ep,slots:=sl }/\es.size<=Hd/\I8 (gv X.K H) kvs es.toList/\IsD H a:=by
 have ro:=rm a _ e
 cases t with
 | false =>
   obtain ⟨ps,j,pr⟩:=ro;obtain ⟨G,B,vs,z,o,es,ep,h1,h2,q,J,F,L⟩:=I.hok a _ j;obtain ⟨cd,dd,dat,sl⟩:=o;dsimp only at q;subst q;have pp:=zw pr z F;refine ⟨cd,dd,sl,es,ep,h1,?_,pp,.inl ⟨_,Rd.of j⟩⟩;have:=aK pp;have:=aK pr;simp at *;lia
 | true =>
   obtain ⟨ps,j,pr⟩:=ro;obtain ⟨cd,dd,sl,es,ep,h1,h2,q⟩:=gw (I.hok a _ j) pr;exact ⟨cd,dd,sl,es,ep,h1,h2,q,.inr ⟨_,Rd.of j⟩⟩
theorem mm {d:Addr} {Q:hH->tv->Prop} {A:I0} {E:hH->tv->Prop} {s:tv} {cd:hH} {dd:Option Addr} {sl:Array (Option hH)} {es:Array HS} {ep:Nat} {prog:HB} {w:HX} (ty:s.TypeIs (.ref d) "dict") (z:(d==Ir)=false) (hd:s.heap.get? d=some { cls:=cd,dict:=dd,data:=.dict es ep,slots:=sl })
 (q:Q (.ref s.heap.objs.size) { s with heap:=s.heap.push { cls:=.type "dict_items",data:=.fields #[.ref d] } }):Hh (model prog w) A (call (.builtin "dict.items") [.ref d]) Q E s:=by
 have j:cd = .type "dict":=by
  obtain ⟨o,h1,h2⟩:=ty;rw [hd] at h1;cases h1;exact h2
 subst j;refine HK O7 ty F.entry_dict_items ?_ (F.args_dict_items_1 _);unfold IS.«dict.items»
 wp_walk
 exact ⟨_,rfl,q⟩
theorem yc {e:Expr} {ta:TEd} {p pos apos cpos:Pos} (hu:X.A.units+16 < Js) (m:ad ta) (hc:X.calm=true) (he:PE X e (lE X.K ta)) (hg:Gl X "sorted") (hm:X.mg "sorted" = none)
 (EV:MU e "items" X.env (eval e X.env)=eval e X.env) (EW:(apos.endLine==cpos.line)=true) :
 PE X (.Call (.Name "sorted" p) [.Call (.Attribute e "items" apos) [] [] cpos] [] pos) (lE X.K (gu ta)):=by
 intro pins s σ H Q I h;obtain ⟨ρ,M,rs,rm,h⟩:=h;refine KR (dO I hg hm (u:=.builtin "sorted") (by decide +kernel) ?_ (by decide) (by decide))
 refine Mx ?_ rfl rfl;refine Kg ?_;refine Oy EV EW (thn (he pins s σ H (fun v H1=>∃ Z a t kvs sh,Ext M H Z H1/\RM X.K Z H1/\v = .ref a/\Z a=some (.dct t kvs)/\gp sh=true/\(∀ kv∈kvs,hs sh (kvD kv)=true) /\ ∀ p ys,Z p=none->ys.Perm (kvs.map kvD)->fI ys->KE' X.K M H Q (.ref p) (af Z p (.lst ys))) I ⟨ρ,M,rs,rm,m _ _ _ _ (fun x Z ⟨a,t,kvs,sh,e,e1,e2,e3,q1⟩ v H1 x1 Y F9=>by
  subst e;exact ⟨Z,a,t,kvs,sh,x1,Y,SE.mp F9,e1,e2,e3,q1⟩) h⟩) fun v s1 ⟨x,H1,I1,r1,Z,a,t,kvs,sh,x1,Y,ex,e1,hok,EZ,q⟩=>?_)
 subst ex;obtain rfl:v=Ht a:=r1;obtain ⟨cd,dd,sl,es,ep,hd,hz,F1,hD⟩:=kN I1 Y e1;obtain ⟨t1,t2,Fa⟩:=cW I1 hD;refine ⟨"dict","dict.items",Lk,O7,QW,t1,t2,K7 rfl (Q0 ?_)⟩;refine mm t1 Fa hd ?_;refine Md ?_;have kpv:∀ b o,s1.heap.get? b=some o->(s1.heap.push { cls:=HY "dict_items",data:=LV #[Ht a] }).get? b=some o:=fun b o e=>h6 _ e;obtain ⟨hS,Fb⟩:=qK (xs:=kvs.map kvD) hok (fun d hd=>by
  obtain ⟨kv,Fc,rfl⟩:=Hk.mp hd;exact EZ kv Fc)
 have U:=j6 hok;have F3:∀ (h':Heap) (r:Rw),(∀ b o,s1.heap.get? b=some o->h'.get? b=some o)->r.2.1∈kvs->RD X.K H1 r.2.1.1 r.2.2.1->RelV r.2.2.1 r.2.2.2.2.key->RD X.K H1 r.2.1.2 r.2.2.2.1->RelV r.2.2.2.1 r.2.2.2.2.val->h'.get? r.1=some { cls:=.type "tuple",data:=.seq #[r.2.2.2.2.key,r.2.2.2.2.val] } -> ∃ as,LD h' (.ref r.1) (pd (kvD r.2.1)) as:=by
  intro h' r kp hm g1 g2 g3 g4 g5;have J:=EZ _ hm
  match sh,J,U with
  | .tup l,J,U =>
   simp only [kvD,hs] at J
   match l,J,U with
   | [sa,sb],J,U =>
    simp only [hss,z4,and_true] at J;simp only [dep,deps] at U;obtain ⟨as,ra⟩:=bu I1 Y 16 _ _ _ _ (ng Z sa _ 16 J.1 (by lia)) g1 g2
    obtain ⟨bs,rb'⟩:=bu I1 Y 16 _ _ _ _ (ng Z sb _ 16 J.2 (by lia)) g3 g4
    have ra:=aW (fun b o e _=>kp b o e) (jV sa _ J.1).1 ra;have rb':=aW (fun b o e _=>kp b o e) (jV sb _ J.2).1 rb';have fin:LD h' (.ref r.1) (.tuple [pd r.2.1.1,pd r.2.1.2]) (as++(bs++[])):=.tuple g5 rfl rfl (.cons ra (.cons rb' .nil));exact ⟨_,fin⟩
   | [],J,_=>simp [hss] at J
   | [_],J,_=>simp [hss] at J
   | _::_::_::_,J,_=>simp [hss] at J
  | .int,J,_=>simp [kvD,hs] at J
 refine mf (cap:=Hd) jS (m:=7) (ds:=(kvs.map kvD).map pd) (C:=fun h' us=>(∀ b o,s1.heap.get? b=some o->h'.get? b=some o) /\ ∃ L:List Rw,L.map (fun r=>Ht r.1)=us/\L.map (fun r=>r.2.1)=kvs/\us.Nodup /\ ∀ r∈L,RD X.K H1 r.2.1.1 r.2.2.1/\RelV r.2.2.1 r.2.2.2.2.key/\RD X.K H1 r.2.1.2 r.2.2.2.1/\RelV r.2.2.2.1 r.2.2.2.2.val/\h'.get? r.1=some { cls:=.type "tuple",data:=.seq #[r.2.2.2.2.key,r.2.2.2.2.val] }/\s1.heap.get? r.1=none) (by lia) hS Fb (fun E R hR=>?_) fun h1 h2 us out n' tk hC old g2 ES F4 Fi Fj ht=>?_
 ·refine It.collect_view (A:=X.A.in1) (s:={ s1 with heap:=s1.heap.push { cls:=HY "dict_items",data:=LV #[Ht a] } }) (I.ok.hd hc) (GZ _ rfl) (kpv _ _ hd) hz fun h' us k1 k2 k3 k4=>?_
  obtain ⟨L,l1,l2,l3⟩:=zy (G:=fun t e=>h'.get? t=some { cls:=.type "tuple",data:=.seq #[e.key,e.val] }/\s1.heap.get? t=none) F1 (by simpa using k2) fun j hj=>by
   obtain ⟨t,e,e1,e2,e3,e4⟩:=k4 j (by simpa using hj)
   refine ⟨t,e,e1,by rw [Hz];exact e2,e3,?_⟩
   cases hq:s1.heap.get? t with
   | none=>rfl
   | some o=>rw [kpv _ _ hq] at e4;cases e4
  refine hR h' us _ ⟨fun b o e=>k1 b o (kpv b o e),L,l1,l2,k3,l3⟩ (fun u hu=>?_) ⟨by rw [k2];exact hz,by rw [k2];exact hz⟩ (Hg _)
  rw [<- l1] at hu;obtain ⟨r,O,rfl⟩:=Hk.mp hu;obtain ⟨p1,p2,p3,p4,p5,p6⟩:=l3 r O;have hm:r.2.1∈kvs:=by rw [<- l2];exact Hl O
  obtain ⟨as,ra⟩:=F3 h' r (fun b o e=>k1 b o (kpv b o e)) hm p1 p2 p3 p4 p5;exact ⟨_,Hl (Hl hm),as,ra⟩
 ·obtain ⟨kp,L,l1,l2,l3,l4⟩:=hC;rw [<- l1] at ES;obtain ⟨L',p1,p2⟩:=eM (fun r:Rw=>Ht r.1) ES rfl;have F5:∀ b o,s1.heap.get? b=some o->h2.get? b=some o:=fun b o e=>old b o (kp b o e);have B:s1.heap.get? h1.objs.size=none:=by
   cases hq:s1.heap.get? h1.objs.size with
   | none=>rfl
   | some o=>exact absurd (H0 (kp _ _ hq)) (Ig _)
  have Fd:(L.map fun r=>r.1).Nodup:=by
   rw [<- l1] at l3;have:(L.map fun r=>Ht r.1)=(L.map fun r=>r.1).map Ht:=by simp
   rw [this] at l3;exact List.Pairwise.of_map _ (fun a b EU he=>EU (by rw [he])) l3
  have ET:∀ r∈L',r∈L:=fun r O=>p1.mem_iff.mp O;have hp:∀ r∈L,r.1≠h1.objs.size:=fun r O=>HJ (H0 (l4 r O).2.2.2.2.1)
  let N:Addr->Option HO:=fun b=>if b=h1.objs.size then some (.lst (L'.map fun r=>V.ref r.1)) else (L.find? fun x=>decide (x.1=b)).map fun r=>.tup [r.2.2.1,r.2.2.2.1]
  have F6:N h1.objs.size=some (.lst (L'.map fun r=>V.ref r.1)):=by show (if _ then _ else _)=_;rw [if_pos rfl]
  have Fe:∀ r∈L,N r.1=some (.tup [r.2.2.1,r.2.2.2.1]):=fun r O=>by
   show (if _ then _ else _)=_
   rw [if_neg (hp r O),yb Fd O];rfl
  have EX:∀ b o,N b=some o->b=h1.objs.size/\o = .lst (L'.map fun r=>V.ref r.1)∨∃ r∈L,b=r.1/\o = .tup [r.2.2.1,r.2.2.2.1]:=fun b o e=>by
   by_cases hb:b=h1.objs.size
   ·subst hb;rw [F6] at e;cases e;exact .inl ⟨rfl,rfl⟩
   ·right
    have e:((L.find? fun x=>decide (x.1=b)).map fun r=>HO.tup [r.2.2.1,r.2.2.2.1])=some o:=by
     have e':(if b=h1.objs.size then some (HO.lst (L'.map fun r=>V.ref r.1)) else (L.find? fun x=>decide (x.1=b)).map fun r=>HO.tup [r.2.2.1,r.2.2.2.1])=some o:=e
     rw [if_neg hb] at e';exact e'
    cases hf:L.find? fun x=>decide (x.1=b) with
    | none=>rw [hf] at e;cases e
    | some r =>
      rw [hf] at e;cases e;have Ff:=Nj hf;exact ⟨r,JF hf,(by simpa using Ff:r.1=b).symm,rfl⟩
  have oldH:∀ b o,H1 b=some o->lay H1 N b=some o:=fun b o e=>by
   rw [i8]
   ·exact e
   ·cases hq:N b with
    | none=>rfl
    | some o' =>
      obtain ⟨ob,eo⟩:=(I1.hok b o e).there
      rcases EX b o' hq with ⟨rfl,_⟩ | ⟨r,O,rfl,_⟩
      ·rw [B] at eo;cases eo
      ·rw [(l4 r O).2.2.2.2.2] at eo;cases eo
  have st:Stab H1 (lay H1 N):=⟨fun b xs e=>oldH b _ e,fun b o u e=>oldH b _ e⟩;have EY:L'.length=kvs.length:=by rw [p1.length_eq,<- l2];simp
  have Fg:=aK F1;have I2:=I1.laidN (t':=tk) (h':=h2) (N:=N) F5 (fun b o e=>by
   rcases EX b o e with ⟨rfl,_⟩ | ⟨r,O,rfl,_⟩
   ·exact B
   ·exact (l4 r O).2.2.2.2.2) (fun b o e=>by
   rcases EX b o e with ⟨rfl,rfl⟩ | ⟨r,O,rfl,rfl⟩
   ·refine ⟨by rw [H8,EY,Fg];simpa using hz,out,n',?_,g2⟩
    rw [<- p2];have:∀ l:List Rw,Vals (l.map fun r=>V.ref r.1) (l.map fun r=>Ht r.1):=by
     intro l
     induction l with
     | nil=>exact .nil
     | cons r l ih=>exact .cons rfl ih
    exact this L'
   ·obtain ⟨q1,q2,q3,q4,q5,q6⟩:=l4 r O;exact ⟨by show 2<=Hd;decide,[r.2.2.2.2.key,r.2.2.2.2.val],.cons q2 (.cons q4 .nil),_,old _ _ q5,rfl,0,rfl⟩)
  refine ⟨.ref h1.objs.size,_,I2,rfl,?_⟩;have F7:Z h1.objs.size=none:=Y.out (I1.fresh' B);have F8:RDs X.K (lay H1 N) (L'.map fun r=>kvD r.2.1) (L'.map fun r=>V.ref r.1):=by
   have:∀ l:List Rw,(∀ r∈l,r∈L)->RDs X.K (lay H1 N) (l.map fun r=>kvD r.2.1) (l.map fun r=>V.ref r.1):=by
    intro l
    induction l with
    | nil=>intro _;exact RDs.nil
    | cons r l ih =>
      intro hl;obtain ⟨q1,q2,q3,q4,q5,q6⟩:=l4 r (hl r (by simp))
      refine RDs.cons (SO ⟨r.1,_,rfl,kM (Fe r (hl r (by simp))),RDs.cons (q1.mono st) (RDs.cons (q3.mono st) RDs.nil)⟩) (ih fun r' Fh=>hl r' (by simp [Fh]))
   exact this L' ET
  refine q h1.objs.size (L'.map fun r=>kvD r.2.1) F7 ?_ ?_ (.ref h1.objs.size) (lay H1 N) (x1.trans ⟨fun b o _ e=>oldH b o e,fun b o n e=>?_⟩) (fun a' o' e'=>?_) (SE.mpr rfl)
  ·have:=p1.map (fun r:Rw=>kvD r.2.1);rw [show L.map (fun r:Rw=>kvD r.2.1)=(L.map fun r=>r.2.1).map kvD by simp,l2] at this
   exact this
  ·unfold fI;rw [II];rw [<- p2,II] at F4;refine F4.imp_of_mem fun {a b} ha hb EU=>?_;have rd:∀ r∈L',Jr h2 (Ht r.1)=pd (kvD r.2.1):=fun r O=>by
    obtain ⟨q1,q2,q3,q4,q5,q6⟩:=l4 r (ET r O);have hm:r.2.1∈kvs:=by rw [<- l2];exact Hl (ET r O)
    obtain ⟨as,ra⟩:=F3 h2 r F5 hm q1 q2 q3 q4 (old _ _ q5);exact JY (hS.lay _ (Hl (Hl hm))).1 ra
   rw [rd a ha,rd b hb] at EU;exact EU
  ·have hb:b≠h1.objs.size:=fun z=>by
    rw [z,I1.fresh' B] at e;cases e
   exact ak hb
  ·by_cases hz:a'=h1.objs.size
   ·subst hz;rw [aa] at e';cases e';exact ⟨_,kM F6,F8⟩
   ·rw [ak hz] at e';exact (Y a' o' e').mono st fun ho e=>oldH a' ho e
end
section
noncomputable def jW (to tk tx:TEd):TEd:=fun ρ M Q=>to ρ M fun x M1=>∃ a t kvs,x = .ref a/\M1 a=some (.dct t kvs)/\tk ρ M1 fun k M2=>tx ρ M2 fun z M3=>∃ t' kvs',M3 a=some (.dct t' kvs')/\eF t' k=true/\Q ((dget kvs' k).getD z) M3
theorem vc {to tk tx:TEd} (h1:ad to) (h2:ad tk) (j:ad tx):ad (jW to tk tx):=fun ρ M Q Q' i q=>h1 _ _ _ _ (fun x O ⟨a,t,kvs,e,B,F⟩=>⟨a,t,kvs,e,B,h2 _ _ _ _ (fun k M2 G=>j _ _ _ _ (fun z U ⟨t',kvs',J,ok,L⟩=>⟨t',kvs',J,ok,i _ _ L⟩) G) F⟩) q
section
variable {X:Cx}
theorem vd {K:Frag} {M:Mem} {H:Hp} (rm:RM K M H) {a:Addr} {t:Bool} {kvs:List (D×D)} (e:M a=some (.dct t kvs)):IsD H a:=by
 have ro:=rm a _ e
 cases t with
 | false=>obtain ⟨ps,j,_⟩:=ro;exact .inl ⟨_,Rd.of j⟩
 | true=>obtain ⟨ps,j,_⟩:=ro;exact .inr ⟨_,Rd.of j⟩
theorem AS {o e f:Expr} {to tk tx:TEd} {apos cpos:Pos} (Y:X.A.units+1 < Js) (mo:ad to) (mk:ad tk) (mx:ad tx) (ho:PE X o (lE X.K to)) (he:PE X e (lE X.K tk)) (hf:PE X f (lE X.K tx)) (m:M2 X o "get" apos e f cpos) :
 PE X (.Call (.Attribute o "get" apos) [e,f] [] cpos) (lE X.K (jW to tk tx)):=by
 refine PE.imp (xf Y ho he hf m) fun σ H Q h=>?_;obtain ⟨ρ,M,rs,rm,q⟩:=h;refine ⟨ρ,M,rs,rm,mo _ _ _ _ (fun x Z ⟨a,t,kvs,e,e1,q1⟩ v H1 L j rd1=>?_) q⟩;subst e
 cases SE.mp rd1
 have B:=rs.mono (L.stab rm);refine ⟨a,rfl,vd j e1,ρ,Z,B,j,mk _ _ _ _ (fun k M2 q2 v2 H2 O F G=>?_) q1⟩;have J:=B.mono (O.stab j);refine ⟨ρ,M2,J,F,mx _ _ _ _ (fun z M3 ⟨t',kvs',e3,ok,q3⟩ v3 H3 U rm3 rd3=>?_) q2⟩;obtain ⟨w,g,g1,g2⟩:=kJ rm3 e3 ok (G.mono (U.stab F));refine ⟨w,g,?_⟩;refine q3 _ H3 (L.trans (O.trans U)) rm3 ?_
 cases e4:dget kvs' k with
 | none=>rw [g2 e4];exact rd3
 | some d =>
   obtain ⟨w',e5,r5⟩:=g1 d e4;rw [e5];exact r5
end
end
end Mi
end L2
namespace L2
open PySem PySem.Spec PyProof.Rows
namespace Mi
end Mi
end L2
namespace L2
open PySem PySem.Spec PyProof.Rows
namespace Mi
end Mi
end L2
namespace L2
open PySem PySem.Spec PyProof.Rows
namespace Mi
end Mi
end L2
namespace L2
open PySem PySem.Spec PyProof.Rows
section
section
variable {prog:HB} {w:HX} {A:I0} {E:hH->tv->Prop} {s:tv}
theorem AT:typeLookup (.type "list") "keys" = pure none:=by rw [Nh,Ld];kernel_rfl
theorem AU {l:Addr} {o:Obj} {xs:Array hH} {k:Nat} {Q:Option hH->tv->Prop} (B:A.handled=none) (ho:s.heap.get? l=some o) (z:o.cls = .type "list") (hd:o.data = .seq xs k) (j:o.dict=none)
 (q:∀ h' tk,(∀ b o,s.heap.get? b=some o->h'.get? b=some o)->Q none { s with heap:=h',toks:=tk }):Hh (model prog w) A (getAttr? (.ref l) "keys") Q E s:=by
 have ty:s.TypeIs (.ref l) "list":=⟨_,ho,z⟩;unfold getAttr?;unfold mkText;refine gV ?_;refine gV (wpAny_fresh ?_);refine hW ?_;unfold getAttrBy?;refine gV (Jn ?_);unfold getAttrBy;refine I7 ?_;refine gV (Jy (s:={ s with toks:=s.toks+1 }) ty ?_)
 refine gV (JO F.slot_list_getattribute.lookup ?_);refine JC (by decide) ?_
 unfold getAttrByItsOwn hookBefore;rw [if_neg (by decide)]
 refine gV (hW ?_);refine gV (Jn (I7 ?_));unfold callGetattribute boundAndCalled;rw [if_neg (by decide)]
 refine gV (JO (F.slot_list_getattribute.bind _) ?_);dsimp only;obtain ⟨cls,dd,dat,sl⟩:=o;dsimp only at z hd j;subst z hd j;refine QJ F.slot_list_getattribute (s:={ s with toks:=s.toks+1 }) ty am_entry_list_getattribute (F.args_list_getattribute_2 _ _) ((meets_getattribute_miss_list l xs k sl "keys" s.toks AT (by decide) (by decide)).inModel prog w) ⟨ho,B,fun h' tk a ne=>?_⟩
 ·have ne:s.heap.NewAttrErr h' a (.ref l) "keys":=ne;obtain ⟨t,u,he⟩:=ne.there;unfold getattributeRaised;refine gV (Jg (T:="AttributeError") (b:=true) ⟨_,he,rfl⟩ (by rw [Ki];kernel_rfl) ?_)
  rw [if_pos rfl];unfold hookBehind;rw [if_neg (by decide)]
  refine gV (JO am_list_getattr_none ?_);unfold hookOrError attributeErrorLeaves;dsimp only;rw [if_pos (by decide)]
  refine gV (Pj ?_);refine gV (Jg (T:="AttributeError") (b:=true) ⟨_,he,rfl⟩ (by rw [Ki];kernel_rfl) ?_)
  rw [if_pos rfl];exact hW (q h' tk ne.keeps)
end
end
section
theorem oO:Sg table "dict.update.loop" = some IS.«dict.update.loop»:=Ox (by kernel_rfl)
theorem oP:plainId "dict.update.loop" = true:=by decide +kernel
section
variable {X:Cx} {pins:List (Addr×Obj)} {σ:St} {H:Hp}
def PrV (H:Hp) (v:V) (kv:List Key×V):Prop:=∃ t b,v = .ref t/\H t=some (.tup [.ref b,kv.2])/\H b=some (.tup (kv.1.map kV))
noncomputable abbrev bM (kvs:List (List Key×V)):List (List Key×V):=kvs.foldl (fun a kv=>bf a kv.1 kv.2) []
theorem sF (kvs:List (List Key×V)):(bM kvs).length<=kvs.length:=by
 have g:∀ (r:List (List Key×V)) (a:List (List Key×V)),(r.foldl (fun a kv=>bf a kv.1 kv.2) a).length<=a.length+r.length:=by
  intro r
  induction r with
  | nil=>intro a;simp
  | cons x r ih =>
    intro a;have h1:=ih (bf a x.1 x.2);have h2:=cS a x.1 x.2;simp only [LJ,Io];lia
 have:=g kvs [];simpa using this
theorem jX {α β:Type} {R : α -> β -> Prop}:∀ {l:List α} {m:List β} {i:Nat} {x : α},I8 R l m->l[i]? = some x -> ∃ y,m[i]? = some y/\R x y
 | _,_,_,_,.nil,e=>by simp at e
 | _,_,0,_,.cons r _,e=>by simp at e;subst e;exact ⟨_,rfl,r⟩
 | _,_,i+1,x,.cons _ t,e=>by
   simp at e;obtain ⟨y,h1,h2⟩:=jX t e;exact ⟨y,by simpa using h1,h2⟩
theorem AV {A:I0} (hu:A.units+1 < Js) (hn:A.handled=none) {l it p:Addr} {vs:List V} {kvs:List (List Key×V)} (Z:H p=none) (Y:H l=some (.lst vs)) (G:I8 (PrV H) vs kvs) (hz:vs.length < Hd) {R:Qj->tv->Prop} (hf:bZ X pins H it) (j:it≠p) :
 ∀ (k i:Nat) (s:tv),vs.length - i=k->i<=vs.length->Inv X pins σ (upd H p (.dT (bM (kvs.take i)))) s->s.heap.IsListIter it l i ->
  (∀ s',Inv X pins σ (upd H p (.dT (bM kvs))) s'->R (.ok (.ret .none)) s') ->
  Le (model X.prog X.w) A (.builtin "dict.update.loop" ⟨[.ref p,.ref it,JU i,.none],[]⟩) R s:=by
 have J:l≠p:=fun z=>by rw [z,Z] at Y;cases Y
 have hlen:vs.length=kvs.length:=JL G;obtain ⟨f0,f1,f2,f3,f4,f5⟩:=hf;intro k
 induction k with
 | zero =>
   intro i s hk hi I st q;have ES:i=vs.length:=by lia
   obtain ⟨its,rv,pl,_⟩:=I.list (SqL.of (K:=X.K) ((ah J).trans Y));refine Jf oO ?_;unfold IS.«dict.update.loop»;dsimp only;refine gV (P2 hn st pl.isList (by have:=rv.length;simp;lia) fun h' eb=>?_)
   refine gV ?_;unfold Oc;refine gV ?_;have B:=I.turned (t':=s.toks) (h':=h') (fun b o F e=>eb b o F e) ((ah j).trans f0) f1 f3 f4 f5;rw [ES,hlen,Ri] at B;exact hW (hW (hW (q _ B)))
 | succ k ih =>
   intro i s hk hi I st q;have L:i < vs.length:=by lia
   obtain ⟨its,rv,pl,_⟩:=I.list (SqL.of (K:=X.K) ((ah J).trans Y));obtain ⟨u,ET,ru⟩:=rv.get (D0 L);obtain ⟨kv,EU,t,b,hv,ht,F⟩:=jX G (D0 L);rw [hv] at ru
   cases (show u=Ht t from ru)
   refine Jf oO ?_;rw [Qs (by rfl) (by rfl)]
   unfold IS.«dict.update.loop»;dsimp only;refine gV (OE st pl.isList (x:=.ref t) (by simpa using ET) fun h' st' sb=>?_)
   have B:=I.turned (t':=s.toks) (h':=h') (fun b o F e=>(sb.2 b F).trans e) ((ah j).trans f0) f1 f3 f4 f5;dsimp only;have EV:t≠p:=fun z=>by rw [z,Z] at ht;cases ht
   have EW:b≠p:=fun z=>by rw [z,Z] at F;cases F
   obtain ⟨tits,rt,tt,_⟩:=B.tuple (SqT.of (K:=X.K) ((ah EV).trans ht));obtain ⟨ob,O,EX,nt,EY⟩:=id tt
   cases rt with
   | cons r1 rt =>
     cases rt with
     | cons r2 rt =>
       cases rt
       cases (show _=Ht b from r1)
       rename_i uv;refine gV (I7 ?_);refine gV (Mr ?_);unfold Builtin.Dict.pairItems;refine gV (Jy (T:="tuple") (s:={ s with heap:=h' }) ⟨ob,O,EX⟩ ?_)
       rw [if_pos (by decide)]
       refine gV (J0 (s:={ s with heap:=h' }) O EY ?_)
       refine hW ?_;refine I7 ?_;obtain ⟨z,hd,xs,rel,dd⟩:=rT (a:=p) B.hok ao;have EZ:xs.length<=Hd:=by rw [<- JL rel];exact z
       have U:upd H p (.dT (bM (kvs.take i))) b=some (.tup (kv.1.map kV)):=(ah EW).trans F;have F1:(bf (bM (kvs.take i)) kv.1 kv.2).length<=Hd:=by
        have h1:=cS (bM (kvs.take i)) kv.1 kv.2;have h2:=sF (kvs.take i);rw [HR] at h2;lia
       have etk:bf (bM (kvs.take i)) kv.1 kv.2=bM (kvs.take (i+1)):=by
        unfold bM;rw [List.take_succ,EU,List.foldl_append];rfl
       refine wpAny_dictSet_heap (hsz:=EZ) (knd:=IP (ar X.prog X.w)) (JI hu) (dR B.hok U) dd fun h2 dd' hs=>?_;obtain ⟨q',es,ep,hq,g2,g3,g4,_,g5⟩:=dd';have I2:=gL (t':=s.toks+(IP (ar X.prog X.w)).draws kv.1) B (a:=p) (ob:=.dT (bf (bM (kvs.take i)) kv.1 kv.2)) (by rw [ao];exact Kf) hs ⟨q',hq⟩ ⟨F1,hd,_,(rel.put kv.1 U r2).keeps fun c ys ec=>?_,q',es,ep,hq,g2,g3,g4,g5⟩
       ·rw [zN,etk] at I2;refine hW ⟨Kb oP _,ih (i+1) _ (by lia) (by lia) I2 ?_ q⟩
        exact st'.at fun o e=>(hs.2 it j).trans e
       ·rw [ah (rE ec ao (fun z=>nomatch z))];exact ec
end
section
variable {X:Cx}
theorem jY (hu:X.A.units+16 < Js) (hc:X.calm=true):CallR X (.type "dict") (fun xs H Q=>∃ l vs kvs,xs=[V.ref l]/\H l=some (.lst vs)/\I8 (PrV H) vs kvs/\vs.length < Hd /\ ∀ p,H p=none->Q (.ref p) (upd H p (.dT (bM kvs)))):=by
 intro pins s σ H xs us Q I r h;obtain ⟨l,vs,kvs,rfl,J,L,hz,q⟩:=h
 cases r with
 | cons r1 rr =>
 cases rr
 cases (show _=Ht l from r1)
 have Z:=I.ok.hd hc;have O:H s.heap.objs.size=none:=I.hok.fresh (Hg _);have I1:=I.laid (a:=s.heap.objs.size) (o:=.dT []) (t':=s.toks) (fun _ _ q=>h6 _ q) (Hg _) (nD s.heap I.big);have U:l≠s.heap.objs.size:=fun z=>by rw [z,O] at J;cases J
 refine Pq (Q₁:=fun obj s₁=>obj = .ref s.heap.objs.size/\s₁ = { s with heap:=s.heap.push { cls:=.type "dict",data:=.dict #[] } }) Ro (Pt _) QX (Rp _ ⟨rfl,rfl⟩) fun obj s₁ h₁=>?_
 obtain ⟨rfl,rfl⟩:=h₁;refine ⟨⟨_,GZ _ rfl,rfl⟩,Qt _ _,?_⟩;unfold IS.«dict.__init__»;refine gV ?_;unfold Oe;unfold Builtin.Dict.notOrdered;rw [if_pos (by decide)]
 have tyd:MW { s with heap:=s.heap.push { cls:=.type "dict",data:=.dict #[] } } (.ref s.heap.objs.size) "dict":=⟨_,GZ _ rfl,rfl⟩
 refine gV (gV (Jy tyd ?_));rw [if_neg (by decide)]
 refine hW ?_;refine gV (hW (hW ?_));unfold Builtin.Dict.updateCommon LZ;dsimp only;obtain ⟨its,rv,pl,_⟩:=I1.list (SqL.of (K:=X.K) ((ah U).trans J));have il:=pl.isList;refine gV (Jy il.typeIs ?_);rw [if_pos (by decide)]
 obtain ⟨ob,nn,e1,j,B,G⟩:=id pl;refine gV (AU Z e1 j G B fun h1 tk kp=>?_);rw [if_pos (show (none:Option hH).isNone=true from rfl)];refine gV (J6 ?_);have Y:=I1.kept (t':=tk) kp;refine gV (Jz (s:={ s with heap:=h1,toks:=tk }) (PlainL.isList (⟨ob,nn,kp _ _ e1,j,B,G⟩)) ?_)
 have I3:=Y.kept (t':=tk) (h':=h1.push { cls:=.type "list_iterator",data:=.fields #[.ref l,.int 0 0] }) fun b o e=>h6 _ e;refine hW ⟨Kb oP _,?_⟩;have hle:s.heap.objs.size < h1.objs.size:=H0 (kp _ _ (GZ _ rfl));have hf:bZ X pins H h1.objs.size:=by
  have:=Y.fpOk (H':=upd H s.heap.objs.size (.dT [])) (Hg _) (Y.hok.fresh (Hg _));exact ⟨by rw [<- this.1,ah (Iu hle)],this.2⟩
 refine AV (A:=X.A.in1) (X:=X) (pins:=pins) (σ:=σ) (H:=H) (p:=s.heap.objs.size) (kvs:=kvs) (by have:X.A.in1.units=X.A.units+1:=rfl;lia) Z O J L hz hf (Iu hle) vs.length 0 _ (by lia) (by lia) I3 ⟨_,GZ _ rfl,rfl,rfl⟩ fun s' I'=>?_
 exact ⟨rfl,.ref s.heap.objs.size,_,I',rfl,q _ O⟩
end
end
end L2
namespace L2
namespace Mi
open PySem PySem.Spec PyProof.Rows
section
section
variable {X:Cx}
noncomputable def sH (kvs:List (D×D)):List (D×D):=kvs.foldl (fun a kv=>bQ a kv.1 kv.2) []
noncomputable def sJ:RAd:=fun ds M Q=>∃ a kvs,ds=[.ref a]/\M a=some (.lst (kvs.map fun kv:D×D=>.tup [kv.1,kv.2]))/\(∀ kv∈kvs,bJ kv.1=true)/\kvs.length < Hd /\ ∀ p,M p=none->Q (.ref p) (af M p (.dct true (sH kvs)))
theorem mn:aQ sJ:=fun _ _ _ _ h ⟨a,kvs,e,j,z,B,q⟩=>⟨a,kvs,e,j,z,B,fun p n=>h _ _ (q p n)⟩
theorem oQ {K:Frag} {H:Hp}:∀ {kvs:List (D×D)} {vs:List V},RDs K H (kvs.map fun kv:D×D=>.tup [kv.1,kv.2]) vs->(∀ kv∈kvs,bJ kv.1=true) ->
 ∃ ps:List (List Key×V),I8 (PrV H) vs ps/\I8 (fun (p:D×D) (q:List Key×V)=>RKeys p.1 q.1/\RD K H p.2 q.2) kvs ps
 | [],vs,r,_=>by rw [RDs.nil_iff.mp r];exact ⟨[],.nil,.nil⟩
 | kv::kvs,vs,r,h=>by
   rw [Hj] at r;obtain ⟨v,vr,rfl,G,J⟩:=SG.mp r;obtain ⟨ps,h1,h2⟩:=oQ J fun x hx=>h x (HM _ hx);have z:=h kv (Ij ..);obtain ⟨k,v⟩:=kv;obtain ⟨ks,j⟩:=gO z
   cases k <;> first
    | exact j.elim
    | (obtain ⟨t,us,rfl,B,ru⟩:=SR rfl G
       obtain ⟨Z,ur,rfl,L,ru⟩:=SG.mp ru;obtain ⟨O,U,rfl,Y,ru⟩:=SG.mp ru;rw [RDs.nil_iff.mp ru] at B;obtain ⟨b,ws,rfl,F,rw'⟩:=SR (gP z) L;rw [dS j rw'] at F;exact ⟨(ks,O)::ps,.cons ⟨t,b,rfl,B,F⟩ h1,.cons ⟨j,Y⟩ h2⟩)
theorem oR {K:Frag} {H:Hp}:∀ {kvs:List (D×D)} {ps:List (List Key×V)} {a:List (D×D)} {b:List (List Key×V)},I8 (fun (p:D×D) (q:List Key×V)=>RKeys p.1 q.1/\RD K H p.2 q.2) kvs ps->I8 (fun (p:D×D) (q:List Key×V)=>RKeys p.1 q.1/\RD K H p.2 q.2) a b ->
 I8 (fun (p:D×D) (q:List Key×V)=>RKeys p.1 q.1/\RD K H p.2 q.2) (kvs.foldl (fun a kv=>bQ a kv.1 kv.2) a) (ps.foldl (fun a kv=>bf a kv.1 kv.2) b)
 | _,_,_,_,.nil,h=>h
 | _,_,_,_,.cons r t,h=>by
   have g:=oR t (iY (RK:=RKeys) RKeys.inj RKeys.fun r.1 r.2 h);exact g
theorem qm (j:X.A.units+16 < Js) (B:X.calm=true):CallR X (.type "dict") (lR X.K sJ):=by
 refine CallR.of (jY j B) fun vs H Q h=>?_;obtain ⟨ds,M,rm,rs,a,kvs,rfl,e,F,hz,q⟩:=h;obtain ⟨v,rfl,r⟩:=rs.one
 cases SE.mp r
 obtain ⟨us,G,ru⟩:=rm _ _ e;obtain ⟨ps,h1,h2⟩:=oQ ru F;refine ⟨a,us,ps,rfl,G,h1,by rw [ru.length,H8];exact hz,fun p n=>?_⟩
 have st:Stab H (upd H p (.dT (bM ps))):=(SN (M:=M) n).stab rm;exact q p (rm.out n) (.ref p) _ (Ext.lay n) (rm.lay n ⟨_,ao,SH (oR h2 .nil) fun _ _ z=>⟨z.1,z.2.mono st⟩⟩) (SE.mpr rfl)
end
end
end Mi
end L2
namespace L2
namespace Dk
open PySem PySem.Spec PyProof.Rows
section
variable {prog:HB} {w:HX} {A:I0} {E:hH->tv->Prop} {s:tv}
noncomputable def kO (d:Addr) (i n ep:Nat):Obj:={ cls:=.type "dict_keyiterator",data:=.fields #[.ref d,.int i 0,.int n 0,.int ep 0] }
theorem slot_next:Slot "dict_keyiterator" "__next__" "dict_keyiterator.__next__":=.of (owner:="dict_keyiterator") (n:="__next__") (by rw [Nh,Ld];kernel_rfl) (by decide +kernel) (by decide +kernel) (by decide +kernel) (.inl (by decide +kernel)) (by rw [Ki];kernel_rfl)
theorem bE:Sg table "dict_keyiterator.__next__" = some IS.«dict_keyiterator.__next__»:=Ox (by kernel_rfl)
theorem bS (a:hH):Si "dict_keyiterator.__next__" ⟨[a],[]⟩:=by unfold Si;kernel_rfl
theorem bK {it:Addr} (ty:s.TypeIs (.ref it) "dict_keyiterator") {types:List String} {Q:Bool->tv->Prop} (q:Q (types.any fun t=>[HY "dict_keyiterator",HY "object"].contains (HY t)) s):Hh (model prog w) A (Kj (.ref it) types) Q E s:=by
 have hm:=Q9;unfold Kj
 wp_walk
 exact q
theorem nx_item {it d:Addr} {i ep:Nat} {cd:hH} {dd:Option Addr} {sl:Array (Option hH)} {es:Array HS} {e:HS} {Q:Option hH->tv->Prop} (hi:s.heap.get? it=some (kO d i es.size ep)) (hd:s.heap.get? d=some { cls:=cd,dict:=dd,data:=.dict es ep,slots:=sl }) (he:es[i]? = some e)
 (q:∀ h',h'.get? it=some (kO d (i+1) es.size ep)->IQ it s.heap h'->Q (some e.key) { s with heap:=h' }):Hh (model prog w) A (JD (.ref it)) Q E s:=by
 have ty:s.TypeIs (.ref it) "dict_keyiterator":=⟨_,hi,rfl⟩;unfold JD;refine gV (Jn (HN (name:=Iy "__next__") ty slot_next (HK slot_next ty bE ?_ (bS _))));unfold IS.«dict_keyiterator.__next__»;have hm:=Q9
 wp_walk
 dsimp only;rw [if_neg (by simp)]
 simp only [HF,he];refine gV (IK (Q:=fun n s'=>n=0/\s'=s) ?_ (fun n s' hs=>?_) fun _ _ z=>z)
 ·wp_walk
  exact ⟨by kernel_rfl,rfl⟩
 obtain ⟨rfl,rfl⟩:=hs;refine gV (bK ty ?_);refine gV (Hv hi (by simp) fun h1 j s1=>?_)
 rw [if_neg (by decide +kernel)] at j
 have j:h1.get? it=some (kO d (i+1) es.size ep):=j;have B:MW { s' with heap:=h1 } (.ref it) "dict_keyiterator":=⟨_,j,rfl⟩
 refine gV (I7 ?_);refine gV (bK B ?_);refine Mp (by decide +kernel) ?_
 refine hW (hW ⟨_,rfl,hW ?_⟩);exact q h1 j s1
theorem nx_end {it d:Addr} {ep:Nat} {cd:hH} {dd:Option Addr} {sl:Array (Option hH)} {es:Array HS} {Q:Option hH->tv->Prop} (j:A.handled=none) (hi:s.heap.get? it=some (kO d es.size es.size ep)) (hd:s.heap.get? d=some { cls:=cd,dict:=dd,data:=.dict es ep,slots:=sl })
 (q:∀ h',(∀ b o,b≠it->s.heap.get? b=some o->h'.get? b=some o)->Q none { s with heap:=h' }):Hh (model prog w) A (JD (.ref it)) Q E s:=by
 have ty:s.TypeIs (.ref it) "dict_keyiterator":=⟨_,hi,rfl⟩;unfold JD;refine gV (Jn (HN (name:=Iy "__next__") ty slot_next (HK slot_next ty bE ?_ (bS _))));unfold IS.«dict_keyiterator.__next__»;have hm:=Q9
 wp_walk
 dsimp only;rw [if_neg (by simp)]
 have he:es[es.size]? = none:=KW (Hg _);simp only [HF,he];refine gV (IK (Q:=fun n s'=>n=0/\s'=s) ?_ (fun n s' hs=>?_) fun _ _ z=>z)
 ·wp_walk
  exact ⟨by kernel_rfl,rfl⟩
 obtain ⟨rfl,rfl⟩:=hs;refine gV (Hv hi (by simp) fun h1 F s1=>?_)
 refine gV (m:=Sd (.type "StopIteration") []) ?_;simp only [Sd,Se];refine gV (IE ?_ (by size_fits))
 refine gV (m:=Ll _ _) (JO (a:=Jw) (by first | rfl | (simp only [Ll];rfl)) (IE ?_ (by size_fits)))
 simp only [raiseNew];refine gV (Q7 ?_)
 first | rw [show A.in1.handled=none from j] | rw [j]
 refine gV (hW (Pj ?_));exact gV (Jg (T:="StopIteration") (b:=true) ⟨_,GZ _ rfl,rfl⟩ NN (hW (q _ fun b o B e=>h6 _ (h6 _ (s1.extBut b o B e)))))
theorem it_dict {d:Addr} {es:Array HS} {ep:Nat} {dd:Option Addr} {sl:Array (Option hH)} {Q:hH->tv->Prop} (j:(d==Ir)=false) (hd:s.heap.get? d=some { cls:=.type "dict",dict:=dd,data:=.dict es ep,slots:=sl })
 (q:Q (.ref s.heap.objs.size) { s with heap:=s.heap.push (kO d 0 es.size ep) }):Hh (model prog w) A (O8 (.ref d)) Q E s:=by
 have ty:s.TypeIs (.ref d) "dict":=⟨_,hd,rfl⟩;refine O6 ty Rq (HK Rq ty F.entry_dict_iter ?_ (F.args_dict_iter_1 _));unfold IS.«dict.__iter__»
 wp_walk
 exact ⟨_,rfl,"dict_keyiterator",_,⟨_,GZ _ rfl,rfl⟩,slot_next.lookup,q⟩
theorem walk (hn:A.handled=none) (it d:Addr) (hne:d≠it) (es:Array HS) (ep:Nat) :
 Walks prog w A it [it,d] [it] es.size (fun i v=>∃ e,es[i]? = some e/\v=e.key) (fun i h=>h.get? it=some (kO d i es.size ep) /\ ∃ cd dd sl,h.get? d=some { cls:=cd,dict:=dd,data:=.dict es ep,slots:=sl }) where
 sub:=fun b hb=>by simp at hb;simp [hb]
 frame:=fun _ _ _ st k=>⟨k it (by simp) _ st.1,by obtain ⟨cd,dd,sl,h⟩:=st.2;exact ⟨cd,dd,sl,k d (by simp) _ h⟩⟩
 item:=fun i s Q E hi st q=>by
  obtain ⟨h1,cd,dd,sl,h2⟩:=st;refine nx_item (e:=es[i]) h1 h2 (HC hi) fun h' e' s'=>?_;exact q _ h' s.toks ⟨_,HC hi,rfl⟩ ⟨e',cd,dd,sl,s'.extBut d _ hne h2⟩ fun b o hb x=>s'.extBut b o (fun z=>hb (by simp [z])) x
 done:=fun s Q E st q=>by
  obtain ⟨h1,cd,dd,sl,h2⟩:=st;exact nx_end hn h1 h2 fun h' k=>q h' s.toks fun b o hb x=>k b o (fun z=>hb (by simp [z])) x
 self:=fun i s Q E st q=>Pu ⟨_,st.1,rfl,rfl⟩ q
theorem ve {d:Addr} {Q:Bool->tv->Prop} (ty:s.TypeIs (.ref d) "dict") (q:Q false s):Hh (model prog w) A (K9 (.ref d)) Q E s:=by
 unfold K9;refine gV (Ni ty F.slot_dict_len.lookup ?_);generalize j:("dict.__len__":String)=z
 (fail_if_success (clear j z));wp_delta
 rw [show splitId z=some ("dict","__len__") from by subst j;decide +kernel]
 subst j;refine gV (Jg (b:=true) ty (by rw [Ki];kernel_rfl) ?_)
 rw [if_neg (by decide)]
 refine Mp (by decide +kernel) ?_
 refine gV (Jy ty ?_);exact hW q
open Builtin.List in
theorem ext_dict (hn:A.handled=none) {S d:Addr} {es:Array HS} {ep c:Nat} {dd:Option Addr} {sl:Array (Option hH)} {R:Qj->tv->Prop} (res:hH) (Z:(d==Ir)=false) (hd:s.heap.get? d=some { cls:=.type "dict",dict:=dd,data:=.dict es ep,slots:=sl }) (Y:s.heap.get? S=some { cls:=.type "list",data:=.seq #[] c }) (hz:es.size<=Hd)
 (q:∀ (h':Heap) (tk:Nat) (acc':Array hH) (c':Nat),(∀ b o,b≠S->s.heap.get? b=some o->h'.get? b=some o)->h'.get? S=some { cls:=.type "list",data:=.seq acc' c' }->acc'.toList=es.toList.map (·.key)->s.toks<=tk->R (.ok (.ret res)) { s with heap:=h',toks:=tk }) :
 Hh (model prog w) A.in1 (listExtendWith (.ref S) (.ref d) res) (fun fin s'=>match fin with | .done f=>R (.ok f) s' | .again c'=>c'.quiet=true/\Le (model prog w) A c' R s') (fun e s'=>R (.error e) s') s:=by
 have ty:s.TypeIs (.ref d) "dict":=⟨_,hd,rfl⟩;have G:S≠d:=fun e=>by rw [e,hd] at Y;simp at Y
 have h1:listSameRef (.ref S) (.ref d)=false:=by simp [listSameRef,G]
 unfold listExtendWith;refine gV (Jy ty ?_);rw [if_neg (by rw [h1];decide)]
 refine gV (it_dict Z hd ?_);refine gV (I7 (ve (s:={ s with heap:=s.heap.push (kO d 0 es.size ep) }) ⟨_,h6 _ hd,rfl⟩ ?_))
 have B:=H0 Y;have J:=H0 hd;have W:=(walk (prog:=prog) (w:=w) (A:=A.in1) hn s.heap.objs.size d (HJ J) es ep).toS;have ES:S∉[s.heap.objs.size,d]:=fun hm=>by
  simp only [He,I9,or_false] at hm
  rcases hm with e | e
  ·exact absurd (e ▸ B) (Ig _)
  ·exact G e
 refine Mp (by decide +kernel) ?_
 refine gV (J6 ?_);unfold listTouch;have L:(s.heap.push (kO d 0 es.size ep)).get? S=some (Qq "list" #[] c):=h6 _ Y;refine gV (gV (KA L rfl ?_ (by simp) (by simp)))
 have O:=JZ L (fun x=>x.push Jw);refine KA O rfl ?_ (by simp;decide) (by simp)
 have ET:=JZ O (fun x=>x.pop);have oth:∀ b o,b≠S->s.heap.get? b=some o->(((s.heap.push (kO d 0 es.size ep)).update S (Ja fun x=>x.push Jw)).update S (Ja fun x=>x.pop)).get? b=some o:=fun b o U e=>by
  rw [Iq _ _ _ _ U,Iq _ _ _ _ U];exact h6 _ e
 have hit:(((s.heap.push (kO d 0 es.size ep)).update S (Ja fun x=>x.push Jw)).update S (Ja fun x=>x.pop)).get? s.heap.objs.size=some (kO d 0 es.size ep):=by
  rw [Iq _ _ _ _ (Iu B),Iq _ _ _ _ (Iu B)];exact GZ _ rfl
 refine hW ⟨Kb Nr _,codeAny_extend_loopS W hz _ ES _ es.size 0 _ _ _ rfl (Jj _) ⟨hit,_,_,_,oth d _ G.symm hd⟩ ET (ItemsOf.nil _) fun s' acc c' hm EU ha=>?_⟩;rw [hm.eq_with];refine q _ _ acc c' (fun b o U e=>?_) EU ?_ hm.toks
 ·exact hm.heap b o (fun z=>by
   simp only [He,I9,or_false] at z
   rcases z with z | z
   ·exact U z
   ·exact absurd (z ▸ H0 e) (Ig _)) (oth b o U e)
 ·obtain ⟨g1,g2⟩:=ha;apply Kr;intro j;rw [Hz,HG,Hz]
  by_cases hj:j < es.size
  ·obtain ⟨e,he,hv⟩:=g2 j (acc[j]'(by lia)) (HC (by lia))
   rw [HC (by lia),hv,he];rfl
  ·rw [KW (by lia),KW (by lia)];rfl
theorem collect_dict (L:A.handled=none) {d:Addr} {es:Array HS} {ep:Nat} {dd:Option Addr} {sl:Array (Option hH)} {Q:List hH->tv->Prop} (j:(d==Ir)=false) (hd:s.heap.get? d=some { cls:=.type "dict",dict:=dd,data:=.dict es ep,slots:=sl }) (hz:es.size<=Hd)
 (q:∀ (h':Heap) (tk:Nat),(∀ b o,s.heap.get? b=some o->h'.get? b=some o)->s.toks<=tk->Q (es.toList.map (·.key)) { s with heap:=h',toks:=tk }):Hh (model prog w) A (collect (.ref d)) Q E s:=by
 unfold collect;refine gV (wpAny_runValue (Jf P5 ?_));unfold IS.«proto.collect»;dsimp only;refine gV (MV ?_ (by simp))
 refine hW ⟨Qr _ (by decide +kernel),?_⟩
 refine Jf Rm ?_;unfold IS.«list.__iadd__»;refine gV (JO (a:=(Ht s.heap.objs.size,[Ht d])) (by kernel_rfl) ?_)
 have z:(s.heap.push { cls:=HY "list",data:=KJ [].toArray }).get? s.heap.objs.size=some { cls:=HY "list",data:=KJ #[] 0 }:=GZ _ rfl;rw [Qs (by rfl) (by rfl)]
 refine IK (ext_dict (s:={ s with heap:=s.heap.push { cls:=HY "list",data:=KJ [].toArray } }) (R:=fun r s'=>r = .ok (.ret (.ref s.heap.objs.size))/\Hh (model prog w) A (do
  let o <- load s.heap.objs.size
  match o.data with
  | .seq xs _=>pure xs.toList
  | _=>unsupported "internal:collect") Q E s') L (Ht s.heap.objs.size) j (h6 _ hd) z hz fun h' tk acc c' kp B O G=>⟨rfl,?_⟩) (fun fn s' h=>?_) (fun e s' h=>?_)
 ·refine gV (S3 B ?_);refine hW ?_;rw [O];exact q h' tk (fun b o e=>kp b o (HJ (H0 e)) (h6 _ e)) G
 ·cases fn with
  | done f =>
    obtain ⟨e,h⟩:=h
    cases e
    exact h
  | again c' =>
    refine ⟨h.1,Ls h.2 fun r s1 J=>?_⟩;obtain ⟨rfl,J⟩:=J;exact J
 ·cases h.1
end
end Dk
end L2
namespace L2
namespace Mi
open PySem PySem.Spec PyProof.Rows L2.Srt
noncomputable def oS:RAd:=fun ds M Q=>∃ a t kvs sh,ds=[.ref a]/\M a=some (.dct t kvs)/\gp sh=true/\(∀ kv∈kvs,hs sh kv.1=true) /\ ∀ p ys,M p=none->ys.Perm (kvs.map (·.1))->fI ys->Q (.ref p) (af M p (.lst ys))
theorem jZ:aQ oS:=fun _ _ _ _ h ⟨a,t,kvs,sh,e,j,z,B,q⟩=>⟨a,t,kvs,sh,e,j,z,B,fun p ys n F hs=>h _ _ (q p ys n F hs)⟩
theorem kP {K:Frag} {H:Hp}:∀ {kvs:List (D×D)} {es:List HS},I8 (gv K H) kvs es -> ∃ vs,RDs K H (kvs.map (·.1)) vs/\Vals vs (es.map (·.key))
 | _,_,.nil=>⟨[],RDs.nil,.nil⟩
 | _,_,.cons r t=>by
   obtain ⟨vs,h1,h2⟩:=kP t;obtain ⟨kV,vV,g1,g2,_,_⟩:=r;exact ⟨kV::vs,RDs.cons g1 h1,.cons g2 h2⟩
section
variable {X:Cx}
theorem oT (L:X.A.units+16 < Js) (O:X.calm=true):CallR X (.builtin "sorted") (lR X.K oS):=by
 intro pins s σ H xs us Q I r h;obtain ⟨ds,M,rm,rs,a,t,kvs,sh,rfl,e,hok,j,q⟩:=h;obtain ⟨v,rfl,rv⟩:=rs.one;obtain ⟨u,rfl,ru⟩:=dq r
 cases SE.mp rv
 cases (show u=Ht a from ru)
 obtain ⟨cd,dd,sl,es,ep,hd,hz,z,U⟩:=kN I rm e;obtain ⟨t1,t2,B⟩:=cW I U;obtain ⟨vs,h1,h2⟩:=kP z;have F:cd = .type "dict":=by
  obtain ⟨o,g1,g2⟩:=t1;rw [hd] at g1;cases g1;exact g2
 subst F;have Y:X.A.in1.handled=none:=I.ok.hd O;exact ql (cap:=Hd) jS L I rm h1 hok (fun d hd=>by
  obtain ⟨kv,G,rfl⟩:=Hk.mp hd;exact j kv G) q h2 (by have:=h2.length;rw [H8] at this;simp at this;lia) (by have:=h2.length;rw [H8] at this;simp at this;lia) fun E R Z=>Dk.collect_dict Y B hd hz fun h' tk kp J=>Z h' tk kp J
end
end Mi
end L2
namespace L2
open PySem PySem.Spec PyProof.Rows
namespace Mi
end Mi
end L2
namespace L2
namespace Mi
open PySem PySem.Spec PyProof.Rows
end Mi
end L2
namespace L2
open PySem PySem.Spec PyProof.Rows
section
section
variable {X:Cx} {pins:List (Addr×Obj)} {σ:St} {H:Hp} {s:tv}
theorem Inv.freeze (I:Inv X pins σ H s) {a:Addr} {ps:List (List Key×V)} (e:H a=some (.dT ps)):∃ o,Inv X pins σ (upd H a (.frz o (.dT ps))) s:=by
 obtain ⟨B,j,xs,pr,o,es,ep,h1,h2,F,G,J⟩:=id (I.hok a _ e);have mu:Mut (H a):=by rw [e];exact Kf
 have u:Un X.fs [] H (upd H a (.frz o (.dT ps))) s.heap s.heap:=Un.write mu (.inl rfl) (fun b u _ q=>q) ⟨_,h1⟩;have ok:HOk X.prog X.w (upd H a (.frz o (.dT ps))) s.heap:=HOk.write I.hok mu (.inl rfl) (fun b u _ q=>q) ⟨_,h1⟩
  ⟨h1,(I.hok a _ e).stay (fun b u _ q=>q) (fun b q=>by rw [ah (fun z=>by subst z;rw [e] at q;cases q)];exact q) (fun b xs q=>by rw [ah (fun z=>by subst z;rw [e] at q;cases q)];exact q)⟩
 exact ⟨o,I.un (t':=s.toks) u ok⟩
end
noncomputable def Itk (n:Nat) (G:Hp->Prop) (yl:Nat->V->Hp->Prop):It:=⟨fun i H=>i < n/\G H,fun i H x H'=>H'=H/\yl i x H,fun i H=>n<=i/\G H⟩
theorem vf {P:HB} {w:HX} {K:Frag} {tg:Expr} (a it:Addr) {cd:hH} {dd:Option Addr} {sl:Array (Option hH)} {es:Array HS} {ep:Nat} {G:Hp->Prop} {yl:Nat->V->Hp->Prop}
 (U:∀ H,G H -> ∃ u,H a=some (.frz { cls:=cd,dict:=dd,data:=.dict es ep,slots:=sl } u)) (Z:∀ i H h,HOk P w H h->G H -> ∀ e,es[i]? = some e -> ∃ x,RelV x e.key/\yl i x H) :
 fx P w K tg (Itk es.size G yl) [it] it (fun i h=>i<=es.size/\h.get? it=some (Dk.kO a i es.size ep)) where
 mem:=by simp
 obj:=fun i h st b q=>by
  have e:b=it:=by simpa using q
  subst e;exact ⟨_,st.2,fun v z=>by cases z⟩
 keep:=fun i h h' st k=>⟨st.1,k it (by simp) _ st.2⟩
 item:=by
  intro X B hw F Y i pins s σ H E I hf st j;subst B hw F;obtain ⟨hi,j⟩:=j;obtain ⟨u,J⟩:=U H j;obtain ⟨f0,f1,f2,L,f4,O⟩:=hf it (by simp)
  obtain ⟨x,rx,yx⟩:=Z i H s.heap I.hok j es[i] (HC hi);refine Dk.nx_item (e:=es[i]) st.2 (I.hok a _ J).1 (HC hi) fun h' st' sb=>?_;have I1:Inv X pins σ H { s with heap:=h' }:=I.turned (t':=s.toks) (fun b o q e=>(sb.2 b q).trans e) f0 f1 L f4 O
  exact ⟨_,rfl,mV (s:={ s with heap:=h' }) (n:="dict_keyiterator") st' rfl rfl (by decide) ⟨x,H,I1,rx,⟨rfl,yx⟩,⟨hi,st'⟩,fun b q=>(hf b q).1⟩⟩
 done:=by
  intro X B hw F Y i pins s σ H E I hf st j;subst B hw F;obtain ⟨hi,j⟩:=j;obtain ⟨u,J⟩:=U H j;obtain ⟨f0,f1,f2,L,f4,O⟩:=hf it (by simp)
  have e:i=es.size:=by have:=st.1;lia
  subst e;exact Dk.nx_end (I.ok.hd Y) st.2 (I.hok a _ J).1 fun h' k=>⟨rfl,I.turned (t':=s.toks) (fun b o q e=>k b o q e) f0 f1 L f4 O⟩
 self:=fun A i s Q E st h=>Pu ⟨_,st.2,rfl,rfl⟩ h
namespace Mi
section
variable {X:Cx}
noncomputable def sK (i:Nat) (t:TSd):TSd:=fun A ρ M=>∃ a kvs,ρ[i]? = some (some (.ref a))/\((M a=some (.dct true kvs)/\t A ρ (af M a (.fdc kvs)))∨(M a=some (.fdc kvs)/\t A ρ M))
theorem yd {i:Nat} {t:TSd} (h:aC t):aC (sK i t):=fun a b ρ M l ⟨p,kvs,e,q⟩=>⟨p,kvs,e,q.imp (fun q=>⟨q.1,h _ _ _ _ l q.2⟩) fun q=>⟨q.1,h _ _ _ _ l q.2⟩⟩
theorem CF {st:Stmt} {i:Nat} {t:TSd} (h:PS X st (lS X.K t)):PS X st (lS X.K (sK i t)):=by
 intro pins s σ H D I ⟨ρ,M,A,rs,rm,lk,a,kvs,e,q⟩
 rcases q with ⟨m,q⟩ | ⟨m,q⟩
 ·obtain ⟨ps,j,pr⟩:=rm a _ m;obtain ⟨o,I'⟩:=I.freeze j;have sb:Stab H (upd H a (.frz o (.dT ps))):=rm.stabPut m;exact h pins s σ _ D I' ⟨ρ,af M a (.fdc kvs),A,rs.mono sb,rm.put m ⟨o,ps,ao,SH pr fun _ _ z=>⟨z.1,z.2.mono sb⟩⟩,lk.ext (Ext.put m),q⟩
 ·exact h pins s σ H D I ⟨ρ,M,A,rs,rm,lk,q⟩
noncomputable def ka (ta:TEd):TId:=fun ρ M R=>ta ρ M fun x M1=>∃ a kvs,x = .ref a/\M1 a=some (.fdc kvs)/\R (kvs.map (·.1)) (fun _=>True) M1
theorem vg {ta:TEd} (h:ad ta):bW (ka ta):=fun ρ M Q Q' i q=>h _ _ _ _ (fun x B ⟨a,ds,e,j,z⟩=>⟨a,ds,e,j,i _ _ _ z⟩) q
theorem qO {K:Frag} {H:Hp}:∀ {kvs:List (D×D)} {es:List HS},I8 (gv K H) kvs es -> ∀ (i:Nat) (e:HS),es[i]? = some e -> ∃ (kv:D×D) (v:V),kvs[i]? = some kv/\RD K H kv.1 v/\RelV v e.key
 | _,_,.nil,_,_,h=>by simp at h
 | _,_,.cons r t,0,_,h=>by
   simp at h;subst h;obtain ⟨kV,vV,g1,g2,_,_⟩:=r;exact ⟨_,kV,rfl,g1,g2⟩
 | _,_,.cons _ t,i+1,e,h=>by
   obtain ⟨kv,v,h1,h2⟩:=qO t i e (by simpa using h)
   exact ⟨kv,v,by simpa using h1,h2⟩
theorem AW {tg e:Expr} {ta:TEd} (m:ad ta) (he:PE X e (lE X.K ta)):PI X tg e (lI X.K (ka ta)):=by
 intro pins s σ H R I h;obtain ⟨ρ,M,rs,rm,q⟩:=h;have hq:lE X.K ta σ H (fun v H1=>∃ a kvs B,v = .ref a/\Ext M H B H1/\RM X.K B H1/\B a=some (.fdc kvs) /\ ∀ J,fD X.K H1 (kvs.map (·.1)) (fun _=>True) J->R J H1) :=
  ⟨ρ,M,rs,rm,m _ _ _ _ (fun x B ⟨a,kvs,e,O,U⟩ v H1 Y j rd1=>by
    subst e
    cases SE.mp rd1
    exact ⟨a,kvs,B,rfl,Y,j,O,fun J ij=>U J H1 Y j ij⟩) q⟩
 refine thn (he pins s σ H _ I hq) fun u s1 ⟨x,H1,F,r1,a,kvs,B,e0,Y,j,O,U⟩=>?_;subst e0
 cases r1
 obtain ⟨o,ps,Z,pr⟩:=j _ _ O;obtain ⟨g0,ok⟩:=F.hok a _ Z;obtain ⟨cd,dd,sl,es,ep,g1,g2,g3⟩:=gw ok pr;obtain ⟨ty,_,ES⟩:=cW F (.inr ⟨ps,.inr ⟨o,Z⟩⟩);rw [g0] at g1
 cases g1
 have ET:cd = .type "dict":=by
  obtain ⟨o,h1,h2⟩:=ty;rw [g0] at h1;cases h1;exact h2
 subst ET;have lz:kvs.length=es.size:=by have:=aK g3;simpa using this
 refine Dk.it_dict ES g0 ?_;refine ⟨s1.heap.objs.size,[s1.heap.objs.size],_,_,H1,rfl,F.kept (t':=s1.toks) fun b o e=>h6 _ e,vf (G:=fun H=>H a=some (.frz { cls:=.type "dict",dict:=dd,data:=.dict es ep,slots:=sl } (.dT ps))/\I8 (fun (p:D×D) (q:List Key×V)=>RKeys p.1 q.1/\RD X.K H p.2 q.2) kvs ps) (yl:=fun i x H=>∃ kv,kvs[i]? = some kv/\RD X.K H kv.1 x) a _ (fun H h=>⟨_,h.1⟩) (fun i H h hok ⟨ha,pr'⟩ e he=>?_),⟨Jj _,GZ _ rfl⟩,fun b hb=>?_,U _ ?_⟩
 ·obtain ⟨z0,ok'⟩:=hok a _ ha;obtain ⟨cd,dd,sl',es',ep',z1,_,z3⟩:=gw ok' pr';rw [z0] at z1
  cases z1
  obtain ⟨kv,v,y1,y2,y3⟩:=qO z3 i e (by simpa using he)
  exact ⟨v,y3,kv,y1,y2⟩
 ·have e:b=s1.heap.objs.size:=by simpa using hb
  subst e;exact F.fpOk (Hg _) (F.hok.fresh (Hg _))
 ·intro M' H' st rm' _ i;have L:=st.frz _ _ _ Z;have pr':I8 (fun (p:D×D) (q:List Key×V)=>RKeys p.1 q.1/\RD X.K H' p.2 q.2) kvs ps:=SH pr fun _ _ z=>⟨z.1,z.2.mono st⟩;rw [H8,lz];refine ⟨fun hi=>⟨hi,L,pr'⟩,fun hi=>⟨⟨hi,L,pr'⟩,fun x H'' y=>?_⟩⟩;obtain ⟨e,kv,y1,y2⟩:=y;subst e;exact ⟨.inl rfl,kv.1,by rw [HG,y1];rfl,y2⟩
end
end Mi
end
section
section
variable {prog:HB} {w:HX} {K:Type} [DecidableEq K] {knd:HeapKind prog w K} {A:I0} {E:hH->tv->Prop} {s:tv}
noncomputable def dl (ev:hH->hH->Bool) (xb:List (K×Addr×hH)) (x:K×Addr×hH):Bool:=match Pg xb x.1 with
 | some p=>ev x.2.2 p.2
 | none=>false
theorem CG {nm:String} {a b:Addr} {xa xb:List (K×Addr×hH)} {ev:hH->hH->Bool} {Q:Bool->tv->Prop} (hu:knd.room A) (ha:(a==Ir)=false) (hb:(b==Ir)=false)
 (da:s.heap.DictOfH knd a xa) (db:s.heap.DictOfH knd b xb) (EX:∀ x∈xa,∀ y∈xb,S9 A s x.2.2 y.2.2 (ev x.2.2 y.2.2)) (h:Q (xa.length==xb.length&&xa.all (dl ev xb)) s) :
 Hh (model prog w) A (OR nm a b) Q E s:=by
 obtain ⟨oa,es,ep,F,_,G,EU,EY,F6⟩:=da;obtain ⟨ob,es',ep',L,_,O,U,EZ,EV⟩:=db;have Y:xa.length=es.size:=(L6 EU).symm;have F1:xb.length=es'.size:=(L6 U).symm;rw [Y,F1] at h;unfold OR P6;rw [if_neg (show ¬ (a==Ir)=true by rw [ha];exact Hi),if_neg (show ¬ (b==Ir)=true by rw [hb];exact Hi)]
 refine gV (hW (gV (hW ?_)));refine gV (J9 F G ?_);dsimp only;refine gV (J9 L O ?_)
 by_cases hsz:es.size=es'.size
 case neg =>
  rw [if_pos (by simpa using hsz)]
  have F3:(es.size==es'.size)=false:=by simpa using hsz
  rw [F3,NG] at h;exact gV (J6 (hW h))
 case pos =>
  have h':Q (xa.all (dl ev xb)) s:=by simpa [hsz] using h
  rw [if_neg (by rw [hsz];simp)]
  refine gV (P1 F G ?_);refine gV ?_;rw [Lo];simp only [P7,Nat.sub_zero,NQ,Nat.div_one];refine Oi _
   (fun rest q s'=>s'=s/\q=(none,()) /\ ∃ i,rest=List.range' i (es.size - i)/\i<=es.size/\xa.all (dl ev xb)=(xa.drop i).all (dl ev xb))
   _ ?_ ?_ _ _ ⟨rfl,rfl,0,by simp,Jj _,by simp⟩
  ·rintro x rest q s' ⟨rfl,rfl,i,Z,hi,z⟩;have EW:i < es.size:=by
    rcases Nat.lt_or_ge i es.size with h | h
    ·exact h
    ·rw [Nat.sub_eq_zero_of_le h] at Z;simp at Z
   obtain ⟨rfl,ES⟩:x=i/\rest=List.range' (i+1) (es.size - (i+1)):=by
    have e:es.size - i=(es.size - (i+1))+1:=by lia
    rw [e,Rr] at Z
    injection Z with h1 h2
    exact ⟨h1,h2⟩
   have B:x < xa.length:=by rw [Y];exact EW
   refine gV (J9 F G ?_);rw [entry_at EU x,D0 B];have ET:xa.drop x=xa[x]::xa.drop (x+1):=IZ B;have J:xa[x]∈xa:=JK B;rw [ET,Kz] at z;show Hh _ _ (holding [_,_] _ >>= _) _ _ _;refine gV (I7 (gV (Q1 (k:=xa[x].1) (a:=xa[x].2.1) hu (EY _ J) L O U EZ EV (fun F4=>?_) (fun j p hj=>?_))))
   ·have hn:dl ev xb xa[x]=false:=by unfold dl;rw [QY F4]
    rw [z,hn,NG] at h';refine hW ?_;show Hh _ _ (if (!false)=true then _ else _) _ _ _
    rw [if_pos (by decide)]
    exact hW (hW h')
   ·have hn:dl ev xb xa[x]=ev xa[x].2.2 p.2:=by unfold dl;rw [atKey_of_get EV hj]
    refine gV (J9 L O ?_);rw [entry_at U j,hj];refine I7 (EX _ J _ (HH hj) prog w _ _ ?_);show Hh _ _ (if (!(ev xa[x].2.2 p.2))=true then _ else _) _ _ _
    rw [hn] at z
    cases e:ev xa[x].2.2 p.2 with
    | false =>
      rw [e,NG] at z;rw [z] at h';rw [if_pos (by decide)]
      exact hW (hW h')
    | true =>
      rw [e,Bool.true_and] at z;rw [if_neg (by decide)]
      refine gV (P1 F G ?_);rw [if_neg (by simp)]
      exact hW ⟨rfl,rfl,x+1,ES,EW,z⟩
  ·rintro q s' ⟨rfl,rfl,i,Z,hi,z⟩;have F5:i=es.size:=by
    rcases Nat.lt_or_ge i es.size with h | h
    ·have e:es.size - i=(es.size - (i+1))+1:=by lia
     rw [e,Rr] at Z;exact nomatch Z
    ·exact Nat.le_antisymm hi h
   refine hW ?_;rw [F5,<- Y,Ou] at z;rw [z] at h';exact h'
theorem E5 {a b:Addr} {xa xb:List (K×Addr×hH)} {ev:hH->hH->Bool} {Q:hH->tv->Prop} (q:A.units < Js) (z:knd.room A.in1) (B:(a==Ir)=false) (G:(b==Ir)=false)
 (da:s.heap.DictOfH knd a xa) (db:s.heap.DictOfH knd b xb) (j:∀ x∈xa,∀ y∈xb,S9 A.in1 s x.2.2 y.2.2 (ev x.2.2 y.2.2)) (h:Q (.bool (xa.length==xb.length&&xa.all (dl ev xb))) s) :
 Hh (model prog w) A (IW .Eq (.ref a) (.ref b)) Q E s:=by
 refine Nx (op:=.Eq) da.typeIs db.typeIs Pw (HK Pw da.typeIs PySem.F.entry_dict_eq ?_ (PySem.F.args_dict_eq_2 _ _)) q;show Hh _ _ (NU "__eq__" ⟨[.ref a,.ref b],[]⟩ >>= _) _ _ s;refine gV ?_;unfold NU;refine gV (Mu da.typeIs ?_);show Hh _ _ (pure (Ht a,Ht b)) _ _ s;refine hW ?_;refine gV (Jg (T:="dict") db.typeIs PySem.F.sub_dict_dict ?_);simp only [Bool.not_true,Iw,if_false];refine gV (hW (gV (hW ?_)));refine gV (CG z B G da db j ?_);refine hW ⟨_,rfl,?_,?_⟩
 ·exact fun x=>nomatch x
 ·simpa using h
end
namespace Mi
section
variable {X:Cx}
def dI (M:Mem) (a:Addr) (kvs:List (D×D)):Prop:=(M a=some (.dct true kvs)∨M a=some (.fdc kvs)) /\ ∀ kv∈kvs,∃ i,kv.2 = .int i
noncomputable def eqD (ps qs:List (D×D)):Bool:=ps.length==qs.length&&ps.all fun kv=>decide (dget qs kv.1=some kv.2)
noncomputable def sL:R2d:=fun x y M Q=>∃ a b ps qs,x = .ref a/\y = .ref b/\dI M a ps/\dI M b qs/\Q (.bl (eqD ps qs)) M
theorem ye:aB sL:=fun _ _ _ _ _ h ⟨a,b,ps,qs,j,z,B,F,q⟩=>⟨a,b,ps,qs,j,z,B,F,h _ _ q⟩
noncomputable def evI:hH->hH->Bool
 | .int i _,.int j _=>i==j
 | _,_=>false
theorem dI.at {K:Frag} {M:Mem} {H:Hp} {a:Addr} {kvs:List (D×D)} (rm:RM K M H) (h:dI M a kvs):∃ ps,Rd H a (.dT ps)/\I8 (fun (p:D×D) (q:List Key×V)=>RKeys p.1 q.1/\RD K H p.2 q.2) kvs ps:=by
 rcases h.1 with e | e
 ·obtain ⟨ps,j,pr⟩:=rm a _ e;exact ⟨ps,.inl j,pr⟩
 ·obtain ⟨o,ps,j,pr⟩:=rm a _ e;exact ⟨ps,.inr ⟨o,j⟩,pr⟩
theorem oU {K:Frag} {H:Hp} {kvs:List (D×D)} {ps:List (List Key×V)} {xs:List (List Key×Addr×hH)} (pr:I8 (fun (p:D×D) (q:List Key×V)=>RKeys p.1 q.1/\RD K H p.2 q.2) kvs ps) (kt:KT H ps xs) (hi:∀ kv∈kvs,∃ i,kv.2 = .int i):∀ x∈xs,∃ i t,x.2.2 = .int i t:=by
 induction pr generalizing xs with
 | nil=>cases kt;intro x hx;exact nomatch hx
 | @cons p q ps qs h t ih =>
  cases kt with
  | cons g gt =>
    intro x hx
    rcases He.mp hx with e | hx
    ·subst e;obtain ⟨i,ei⟩:=hi p (by simp)
     have:=h.2;rw [ei] at this;have z:=g.2.2;rw [SD.mp this] at z;obtain ⟨t,B⟩:=z;exact ⟨i,t,B⟩
    ·exact ih gt (fun kv j=>hi kv (by simp [j])) x hx
theorem CH {K:Frag} {H:Hp} {kvs:List (D×D)} {ps:List (List Key×V)} {xs:List (List Key×Addr×hH)} (pr:I8 (fun (p:D×D) (q:List Key×V)=>RKeys p.1 q.1/\RD K H p.2 q.2) kvs ps) (kt:KT H ps xs) (hi:∀ kv∈kvs,∃ i,kv.2 = .int i)
 {k:D} {q:List Key} (G:RKeys k q) (i:Int) (t:Tok) (b:Addr):dl evI xs (q,b,.int i t)=decide (dget kvs k=some (.int i)):=by
 obtain ⟨g1,g2⟩:=dU (RK:=RKeys) RKeys.inj RKeys.fun G pr;have B:=KT.val kt q;unfold dl;dsimp only
 cases e:dget kvs k with
 | none =>
   rw [g2 e] at B
   cases z:Pg xs q with
   | none=>simp
   | some p=>rw [z] at B;exact B.elim
 | some d =>
   obtain ⟨v,J,L⟩:=g1 d e;rw [J] at B
   cases z:Pg xs q with
   | none=>rw [z] at B;exact B.elim
   | some p =>
     rw [z] at B;obtain ⟨j,ej⟩:∃ j,d = .int j:=by
      unfold dget at e;obtain ⟨kv,h1,h2⟩:=Mh.mp e;obtain ⟨j,O⟩:=hi kv (JF h1);exact ⟨j,by rw [<- h2];exact O⟩
     subst ej
     cases SD.mp L
     obtain ⟨t',U⟩:∃ t',p.2 = .int j t':=B;dsimp only;rw [U];show (i==j)=decide (some (D.int j)=some (D.int i))
     by_cases hij:i=j
     ·subst hij;simp
     ·have F : ¬ j=i:=fun z=>hij z.symm;simp [hij,F]
theorem CI {K:Frag} {H:Hp} {kvs ls:List (D×D)} {ps us:List (List Key×V)} {xs ys:List (List Key×Addr×hH)} (pr:I8 (fun (p:D×D) (q:List Key×V)=>RKeys p.1 q.1/\RD K H p.2 q.2) kvs ps) (kt:KT H ps xs) (hi:∀ kv∈kvs,∃ i,kv.2 = .int i)
 (pr':I8 (fun (p:D×D) (q:List Key×V)=>RKeys p.1 q.1/\RD K H p.2 q.2) ls us) (kt':KT H us ys) (j:∀ kv∈ls,∃ i,kv.2 = .int i) :
 (xs.length==ys.length&&xs.all (dl evI ys))=eqD kvs ls:=by
 have l1:xs.length=kvs.length:=by rw [aK pr,aK kt]
 have l2:ys.length=ls.length:=by rw [aK pr',aK kt']
 unfold eqD;rw [l1,l2];congr 1;clear l1 l2
 induction pr generalizing xs with
 | nil=>cases kt;rfl
 | @cons p q ps qs h t ih =>
  cases kt with
  | @cons _ x _ xs g gt =>
   rw [Kz,Kz,ih gt (fun kv B=>hi kv (by simp [B]))]
   congr 1;obtain ⟨i,ei⟩:=hi p (by simp)
   have:=h.2;rw [ei] at this;have z:=g.2.2;rw [SD.mp this] at z;obtain ⟨t,F⟩:∃ t',x.2.2 = .int i t':=z;obtain ⟨J,G,L⟩:=x;dsimp only at F g;subst F;rw [ei,<- g.1];exact CH pr' kt' j h.1 i t G
theorem yf {pins:List (Addr×Obj)} {σ:St} {H:Hp} {s:tv} {M:Mem} {A:I0} {E:hH->tv->Prop} {Q:hH->tv->Prop} {ps qs:List (D×D)} {a b:Addr} (J:A.units+2 < Js) (I:Inv X pins σ H s) (rm:RM X.K M H) (h1:dI M a ps) (h2:dI M b qs) (h:Q (.bool (eqD ps qs)) s):Hh (model X.prog X.w) A (IW .Eq (.ref a) (.ref b)) Q E s:=by
 obtain ⟨us,z,pr⟩:=h1.at rm;obtain ⟨vs,q,pr'⟩:=h2.at rm;obtain ⟨_,sm,xs,kt,dd⟩:=eE I.hok z;obtain ⟨_,sm',ys,kt',dd'⟩:=eE I.hok q;have B:=oU pr kt h1.2;have F:=oU pr' kt' h2.2;refine E5 (ev:=evI) (by lia) (JI (by lia)) sm sm' dd dd' (fun x hx y G=>?_) (by rw [CI pr kt h1.2 pr' kt' h2.2];exact h)
 obtain ⟨i,t,e⟩:=B x hx;obtain ⟨j,u,e'⟩:=F y G;rw [e,e'];exact Qk i t j u
theorem yg (j:X.A.units+2 < Js):OpR X (IW .Eq) (l2 X.K sL):=by
 intro pins s σ H x y v u Q I rx ry h;obtain ⟨x',y',M,rm,rdx,rdy,a,b,ps,qs,rfl,rfl,h1,h2,q⟩:=h
 cases SE.mp rdx
 cases SE.mp rdy
 cases rx
 cases ry
 exact yf j I rm h1 h2 ⟨.bl (eqD ps qs),H,I,rfl,q _ H Ext.refl rm (SF.mpr rfl)⟩
end
section
section
variable {lt:Nat->Nat->Bool} {prog:HB} {w:HX} {A:I0} {R:Qj->tv->Prop} {I:Addr} {fp wr:List Addr} {n:Nat} {P:Nat->hH->Prop} {St:Nat->Heap->Prop} {h0:Heap} {S:Addr}
def Kpt (wr:List Addr) (S:Addr) (h h':Heap):Prop:=∀ b o,b∉wr->b≠S->h.get? b=some o->h'.get? b=some o
theorem Kpt.trans {wr:List Addr} {S:Addr} {a b c:Heap} (h:Kpt wr S a b) (g:Kpt wr S b c):Kpt wr S a c:=fun x o h1 h2 e=>g x o h1 h2 (h x o h1 h2 e)
noncomputable def lsO (vs:Array hH) (c:Nat):Obj:={ cls:=.type "list",dict:=none,data:=.seq vs c,slots:=#[] }
def yh (lt:Nat->Nat->Bool) (prog:HB) (w:HX) (A:I0) (P:Nat->hH->Prop) (wr:List Addr) (S:Addr) (h0:Heap):Prop:=∀ (s:tv) (x y:hH) (i j:Nat) (Q:hH->tv->Prop) (E:hH->tv->Prop),Kpt wr S h0 s.heap->P i x->P j y->Q (.bool (lt i j)) s->Hh (model prog w) A (MY .Lt x y) Q E s
def Lst (lt:Nat->Nat->Bool) (P:Nat->hH->Prop) (j:Nat) (u:hH):Prop:=∃ i,P i u /\ ∀ a,a<=j->lt a i=false
structure yi (lt:Nat->Nat->Bool):Prop where
 tr:∀ a b c,lt a b=true->lt b c=true->lt a c=true
 ir:∀ a,lt a a=false
theorem CJ (W:Walks prog w A.in1 I fp wr n P St) (U:S∉fp) (Y:yh lt prog w A.in1 P wr S h0) (O:yi lt):∀ (k j:Nat) (s:tv) (u:hH) (c:Nat),n - (j+1)=k->j+1<=n->St (j+1) s.heap->Lst lt P j u->s.heap.get? S=some (lsO #[u,u] c)->Kpt wr S h0 s.heap ->
 (∀ v h' tk,Lst lt P (n - 1) v->Kpt wr S s.heap h'->R (.ok (.ret v)) { s with heap:=h',toks:=tk })->Le (model prog w) A (.builtin "min.loop" ⟨[.ref I,.none,.ref S],[]⟩) R s:=by
 have Z:S∉wr:=fun h=>U (W.sub _ h);have nm:(Px "min" ++ Px ".loop":String) = "min.loop":=by decide
 intro k
 induction k with
 | zero =>
   intro j s u c hk hj st L hS _ hR;have ej:j+1=n:=by lia
   refine Jf Oz ?_;rw [N7 Ke _];refine gV (m:=PR (.ref S)) (J0 hS rfl ?_);refine gV (m:=Sj (JD (.ref I)) _) (Mr (W.done s _ _ (ej ▸ st) fun h' tk kk=>?_));have q:=kk S _ Z hS;refine gV (m:=updateSeq S (fun _=>#[])) (Nk q rfl (gV (JP (hW ?_))));exact hR u _ tk (by rw [<- ej];exact L) fun b o ET EU e=>(IF _ _ (Ne.symm EU)).trans (kk b o ET e)
 | succ k ih =>
   intro j s u c hk hj st L hS hK hR;have B:j+1 < n:=by lia
   refine Jf Oz ?_;rw [N7 Ke _];refine gV (m:=PR (.ref S)) (J0 hS rfl ?_);refine gV (m:=Sj (JD (.ref I)) _) (Mr (W.item (j+1) s _ _ B st fun v h' tk ES st' kk=>?_));have q:=kk S _ Z hS;obtain ⟨i,L,hle⟩:=L;have kk':Kpt wr S s.heap h':=fun b o h1 _ e=>kk b o h1 e;refine gV (m:=Sj (holding [v,v] (MY .Lt v u >>= _)) _) (Mr (I7 (gV (Y _ v u (j+1) i _ _ (hK.trans kk') ES L ?_))));refine gV (I7 (Kq ?_));refine gV (JP (hW ?_))
   cases hb:lt (j+1) i with
   | true =>
     simp only [if_true];refine gV (Nk q rfl (gV (JP ?_)));rw [nm];have up:Kpt wr S s.heap (h'.update S (Ja fun _=>#[v,v])):=fun b o h1 h2 e=>(IF _ _ (Ne.symm h2)).trans (kk b o h1 e);refine hW ⟨Kb Ke _,ih (j+1) _ v _ (by lia) B (W.frame _ _ _ st' fun b EV o e=>?_) ⟨j+1,ES,fun a ha=>?_⟩ (Jl _ q rfl) (hK.trans up) fun v' G tk'' J z=>hR v' G tk'' J (up.trans z)⟩
     rotate_left
     ·by_cases e:a=j+1
      ·rw [e];exact O.ir _
      ·cases hx:lt a (j+1) with
       | false=>rfl
       | true =>
         have:=O.tr _ _ _ hx hb;rw [hle a (by lia)] at this;cases this
     exact (IF _ _ (fun h:S=b=>U (by rw [h];exact EV))).trans e
   | false =>
     simp only [Iw,if_false];refine gV (JP ?_);rw [nm];exact hW ⟨Kb Ke _,ih (j+1) _ u c (by lia) B st' ⟨i,L,fun a ha=>by
      by_cases e:a=j+1
      ·rw [e];exact hb
      ·exact hle a (by lia)⟩ q (hK.trans kk') fun v' G tk'' J z=>hR v' G tk'' J (kk'.trans z)⟩
theorem vh (W:Walks prog w A.in1 I fp wr n P St) (j:S∉fp) (q:yh lt prog w A.in1 P wr S h0) (O:yi lt) (Y : 0 < n) {s:tv} {c:Nat} (st:St 0 s.heap) (Z:s.heap.get? S=some (lsO #[] c)) (hK:Kpt wr S h0 s.heap)
 (hR:∀ v h' tk,Lst lt P (n - 1) v->Kpt wr S s.heap h'->R (.ok (.ret v)) { s with heap:=h',toks:=tk }):Le (model prog w) A (.builtin "min.loop" ⟨[.ref I,.none,.ref S],[]⟩) R s:=by
 have G:S∉wr:=fun h=>j (W.sub _ h);have nm:(Px "min" ++ Px ".loop":String) = "min.loop":=by decide
 refine Jf Oz ?_;rw [N7 Ke _];refine gV (m:=PR (.ref S)) (J0 Z rfl ?_);refine gV (m:=Sj (JD (.ref I)) _) (Mr (W.item 0 s _ _ Y st fun v h' tk hP st' kk=>?_));have z:=kk S _ G Z;refine gV (m:=updateSeq S (fun _=>#[v,v])) (Nk z rfl ?_);rw [nm];have up:Kpt wr S s.heap (h'.update S (Ja fun _=>#[v,v])):=fun b o h1 h2 e=>(IF _ _ (Ne.symm h2)).trans (kk b o h1 e);refine hW ⟨Kb Ke _,CJ W j q O _ 0 _ v _ rfl Y (W.frame _ _ _ st' fun b J o e=>?_) ⟨0,hP,fun a ha=>by rw [Nat.le_zero.mp ha];exact O.ir _⟩ (Jl _ z rfl) (hK.trans up) fun v' L tk'' U B=>hR v' L tk'' U (up.trans B)⟩
 exact (IF _ _ (fun h:S=b=>j (by rw [h];exact J))).trans e
end
section
variable {prog:HB} {w:HX} {A:I0} {E:hH->tv->Prop} {s:tv}
theorem vj {x:hH} {Q:hH->tv->Prop}
 (h:Hh (model prog w) A.in1 (O8 x) (fun it s₂=>∃ I fp wr n P St lt,it = .ref I/\Walks prog w A.in1 I fp wr n P St/\St 0 s₂.heap/\(∀ b∈fp,b < s₂.heap.objs.size)/\0 < n/\yh lt prog w A.in1 P wr s₂.heap.objs.size s₂.heap/\yi lt /\
   ∀ v h' tk,Lst lt P (n - 1) v->(∀ b o,b∉wr->s₂.heap.get? b=some o->h'.get? b=some o)->Q v { s₂ with heap:=h',toks:=tk }) E s) :
 Hh (model prog w) A (call (.builtin "min") [x]) Q E s:=by
 have nm:(Px "min" ++ Px ".loop":String) = "min.loop":=by decide
 refine call_function_tree F.kind_min F.plain_min F.entry_min (F.args_min1 _) ?_;refine gV (m:=Nz "min" ["key","default"] 0 ⟨[],[]⟩) (JO (show Nz "min" ["key","default"] 0 ⟨[],[]⟩=pure [none,none] from rfl) ?_);refine gV (hW ?_);refine gV (IK h (fun it s₂ G=>?_) fun _ _ e=>e);obtain ⟨I,fp,wr,n,P,St,lt,rfl,W,st,q,J,j,O,L⟩:=G;refine gV (IE ?_);have z:s₂.heap.objs.size∉fp:=fun hm=>Ig _ (q _ hm);rw [nm];refine hW ⟨Kb Ke _,vh W z j O J (W.frame _ _ _ st fun b _ o e=>h6 _ e) (GZ _ rfl) (fun b o _ _ e=>h6 _ e) fun v h' tk U Y=>?_⟩;exact L v h' tk U fun b o B e=>Y b o B (HJ (H0 e)) (h6 _ e)
end
theorem vm:∀ {a:List Int},HT.lexLt a a=false
 | []=>by simp [HT.lexLt]
 | x::a=>by simp [HT.lexLt,vm (a:=a)]
theorem vp:∀ {a b c:List Int},HT.lexLt a b=true->HT.lexLt b c=true->HT.lexLt a c=true
 | [],[],_,h,_=>by simp [HT.lexLt] at h
 | [],_::_,[],_,g=>by simp [HT.lexLt] at g
 | [],_::_,_::_,_,_=>rfl
 | _::_,[],_,h,_=>by simp [HT.lexLt] at h
 | _::_,_::_,[],_,g=>by simp [HT.lexLt] at g
 | x::a,y::b,z::c,h,g=>by
   rw [HT.lexLt_cons] at h g ⊢
   by_cases e1:x=y
   ·subst e1;rw [if_pos rfl] at h
    by_cases e2:x=z
    ·rw [if_pos e2] at g ⊢;exact vp h g
    ·rw [if_neg e2] at g ⊢;exact g
   ·rw [if_neg e1] at h;have h:=of_decide_eq_true h
    by_cases e2:y=z
    ·subst e2;rw [if_neg e1];exact decide_eq_true h
    ·rw [if_neg e2] at g;have g:=of_decide_eq_true g;rw [if_neg (by lia)]
     exact decide_eq_true (by lia)
section
variable {X:Cx}
noncomputable def sM:RAd:=fun xs M Q=>∃ (a:Addr) (nss:List (List Int)),xs=[.ref a]/\M a=some (.lst (nss.map fun ns=>.tup (ns.map .int)))/\nss≠[] /\ ∀ ns∈nss,(∀ ms∈nss,HT.lexLt ms ns=false)->Q (.tup (ns.map .int)) M
theorem mq:aQ sM:=fun _ _ _ _ h ⟨a,nss,e,j,z,q⟩=>⟨a,nss,e,j,z,fun i hi B=>h _ _ (q i hi B)⟩
theorem qo (hu:X.A.units+16 < Js) (hc:X.calm=true):CallR X (.builtin "min") (lR X.K sM):=by
 intro pins s σ H xs us Q I r h;obtain ⟨ds,M,rm,rs,a,nss,rfl,ea,O,q⟩:=h;obtain ⟨v,rfl,rv⟩:=rs.one;obtain ⟨u,rfl,ru⟩:=dq r
 cases SE.mp rv
 cases (show u=Ht a from ru)
 obtain ⟨vs,ha,rvs⟩:=rm _ _ ea;obtain ⟨its,r1,U,hz⟩:=I.list (SqL.of ha);have hl:=r1.length;have Y:=rvs.length;rw [H8] at Y;have Z:s.heap.IsList a its.toArray:=U.isList;have lt:=H0 Z.choose_spec.1;have ET : 0 < nss.length:=Il.mpr O;have hn:X.A.in1.handled=none:=I.ok.hd hc;have z:∀ (i:Nat) (v:hH),its.toArray[i]? = some v -> ∃ (ns:List Int) (t:Addr) (ws:List hH),nss[i]? = some ns/\RD X.K H (.tup (ns.map .int)) (.ref t)/\v = .ref t/\RB s.heap t ws.toArray/\LI ws.toArray.toList ns:=fun i v e=>by
  have e':its[i]? = some v:=by simpa using e
  have hi:i < its.length:=(Hy.mp e').1;have G:i < nss.length:=by lia
  obtain ⟨x,hx,rx⟩:=rvs.get (i:=i) (d:=.tup (nss[i].map .int)) (by rw [HG,D0 G];rfl)
  obtain ⟨y,L,ry⟩:=r1.get hx;rw [e'] at L;cases L;obtain ⟨t,ts,rfl,ht,rts⟩:=SI rx;rw [rts.ints_eq] at ht;obtain ⟨ws,r2,p2,_⟩:=I.tuple ht;exact ⟨nss[i],t,ws,D0 G,rx,ry,p2,rQ r2⟩
 refine vj (Jz Z ?_);refine ⟨_,[_,a],[_],_,_,_,fun i j=>HT.lexLt (nss.getD i []) (nss.getD j []),rfl,Walks.list (A:=X.A.in1) hn _ a (HJ lt) its.toArray,⟨⟨_,GZ _ rfl,rfl,rfl⟩,Z.push _⟩,fun d hd=>?_,by simp;lia,fun s' x y i j Q' E' hk hx L F=>?_,⟨fun a b c=>vp,fun a=>vm⟩,fun v h' tk hP hk=>?_⟩
 ·rw [IX]
  rcases He.mp hd with rfl | hd
  ·exact Rj _
  ·rcases He.mp hd with rfl | hd
   ·exact Mj lt
   ·cases hd
 ·obtain ⟨n1,t1,w1,f1,_,rfl,U,i1⟩:=z i x hx;obtain ⟨n2,t2,w2,f2,_,rfl,p2,i2⟩:=z j y L;dsimp only at F;rw [Hs,Hs,f1,f2] at F;have up:∀ {t:Addr} {o:Obj},s.heap.get? t=some o->s'.heap.get? t=some o:=fun {t o} e=>by
   have B:=H0 e;refine hk t o (fun hm=>?_) ?_ (h6 _ e)
   ·simp only [He,I9,or_false] at hm;rw [hm] at B;exact Ig _ B
   ·intro hm;rw [hm,IX] at B;exact absurd B (by lia)
  obtain ⟨o1,g1,h1⟩:=U;obtain ⟨o2,g2,h2⟩:=p2;exact HT.lt_tupInts ⟨o1,up g1,h1⟩ ⟨o2,up g2,h2⟩ i1 i2 (by show X.A.units+1 < Js;lia) F
 ·obtain ⟨i,hP,hle⟩:=hP;obtain ⟨ns,t,ws,hm,rx,rfl,_,_⟩:=z i v hP;have hle:∀ ms∈nss,HT.lexLt ms ns=false:=fun ms ES=>by
   obtain ⟨k,J⟩:=Py ES;have EU:=(Hy.mp J).1;have:=hle k (by simp;lia)
   dsimp only at this;rw [Hs,Hs,J,hm] at this;exact this
  refine ⟨.ref t,H,I.kept (fun b o e=>hk b o (fun hm=>?_) (h6 _ e)),rfl,q ns (HH hm) hle _ H Ext.refl rm rx⟩
  rcases He.mp hm with e1 | hm
  ·exact absurd (e1 ▸ H0 e) (Ig _)
  ·cases hm
end
end
end Mi
end
end L2
namespace L2
open PySem PySem.Spec PyProof.Rows
namespace Mi
end Mi
end L2
namespace L2
namespace Mi
open PySem PySem.Spec PyProof.Rows
section
section
variable {X:Cx}
def DF (M:Mem) (a:Addr) (t:Bool) (kvs:List (D×D)):Prop:=M a=some (.dct t kvs)∨(t=true/\M a=some (.fdc kvs))
noncomputable def yj (neg:Bool):R2d:=fun k x M Q=>∃ a t kvs,x = .ref a/\DF M a t kvs/\eF t k=true/\Q (.bl (if neg then !(dget kvs k).isSome else (dget kvs k).isSome)) M
theorem yk {neg:Bool}:aB (yj neg):=fun _ _ _ _ _ h ⟨a,t,kvs,j,z,B,q⟩=>⟨a,t,kvs,j,z,B,h _ _ q⟩
theorem CK {K:Frag} {M:Mem} {H:Hp} {a:Addr} {t:Bool} {kvs:List (D×D)} {k:D} {v:V} (rm:RM K M H) (e:DF M a t kvs) (ok:eF t k=true) (rk:RD K H k v):∃ o,DGet H a v o/\o.isSome=(dget kvs k).isSome:=by
 have:∃ o,DGet H a v o/\(∀ d,dget kvs k=some d -> ∃ w,o=some w/\RD K H d w)/\(dget kvs k=none->o=none):=by
  rcases e with e | ⟨rfl,e⟩
  ·exact kJ rm e ok rk
  ·obtain ⟨ob,ps,j,pr⟩:=rm a _ e;exact nN (.inr ⟨ob,j⟩) pr ok rk
 obtain ⟨o,g,g1,g2⟩:=this;refine ⟨o,g,?_⟩
 cases h:dget kvs k with
 | none=>rw [g2 h];rfl
 | some d=>obtain ⟨w,rfl,_⟩:=g1 d h;rfl
theorem vq (j:X.A.units+1 < Js):OpR X (IW .NotIn) (l2 X.K (yj true)):=by
 intro pins s σ H y x u v Q I ry rx h;obtain ⟨dk,dx,M,rm,rk,rd,a,t,kvs,rfl,e,ok,q⟩:=h
 cases SE.mp rd
 cases rx
 obtain ⟨o,g,ho⟩:=CK rm e ok rk;exact A6 j I g ry fun s' I'=>⟨.bl (!o.isSome),H,I',rfl,by rw [ho];exact q _ H Ext.refl rm (SF.mpr rfl)⟩
end
end
end Mi
end L2
namespace L2
open PySem PySem.Spec PyProof.Rows
namespace Mi
end Mi
end L2
namespace L2
open PySem PySem.Spec PyProof.Rows
section
section
variable {prog:HB} {w:HX} {A:I0} {E:hH->tv->Prop} {s:tv}
theorem kQ {Q:hH->tv->Prop} (O:A.in1.handled=none) {d:Addr} {es:Array HS} {ep:Nat} {dd:Option Addr} {sl:Array (Option hH)} (q:(d==Ir)=false) (hd:s.heap.get? d=some { cls:=.type "dict",dict:=dd,data:=.dict es ep,slots:=sl }) (hz:es.size<=Hd)
 (U:∀ h' c' tk,(∀ b o',s.heap.get? b=some o'->h'.get? b=some o')->h'.get? s.heap.objs.size=some { cls:=.type "list",dict:=none,data:=.seq (es.toList.map (·.key)).toArray c',slots:=#[] }->s.toks<=tk->Q (.ref s.heap.objs.size) { s with heap:=h',toks:=tk }) :
 Hh (model prog w) A (call (.type "list") [.ref d]) Q E s:=by
 have z:d≠s.heap.objs.size:=fun e=>Ig _ (e ▸ H0 hd);refine Pq (Q₁:=fun obj s₁=>obj = .ref s.heap.objs.size/\s₁ = { s with heap:=s.heap.push { cls:=.type "list",data:=.seq #[] } }) F.called_list (F.typeCall_list_1 _) F.entry_list_init
  (code_list_new _ ⟨rfl,rfl⟩) fun obj s₁ Y=>?_
 obtain ⟨rfl,rfl⟩:=Y;have j:(s.heap.push { cls:=.type "list",data:=.seq #[] }).get? s.heap.objs.size=some { cls:=.type "list",data:=.seq #[] }:=GZ _ rfl;refine ⟨⟨_,j,rfl⟩,F.args_list_init_2 _ _,?_⟩;show Hh _ A.in1.in1 (do let old <- OS (.ref s.heap.objs.size);Builtin.List.listUpdate (.ref s.heap.objs.size) (fun _=>#[]);letGo old.toList.reverse;NA (.ref s.heap.objs.size) (.ref d) .none) _ _ _
 refine gV ?_;unfold OS;refine gV (J0 j rfl (hW ?_));show Hh _ A.in1.in1 (updateSeq s.heap.objs.size (fun _=>#[]) >>= fun _=>letGo (#[]:Array hH).toList.reverse >>= fun _=>NA (.ref s.heap.objs.size) (.ref d) .none) _ _ _;refine gV (Nk j rfl ?_);have B:=Jl (Ja (fun _=>(#[]:Array hH))) j rfl;refine gV (JP ?_);refine Dk.ext_dict (A:=A.in1) O Jw q ((IF _ _ (Ne.symm z)).trans (h6 _ hd)) B hz fun h' tk acc c' kp G Z J=>⟨rfl,?_⟩;refine U _ c' tk (fun b o' e=>?_) ?_ J
 ·have L:b≠s.heap.objs.size:=fun e'=>Ig _ (e' ▸ H0 e);exact kp b o' L ((IF _ _ (Ne.symm L)).trans (h6 _ e))
 ·rw [<- Z];exact G
end
namespace Mi
open L2.Srt
noncomputable def oV:RAd:=fun ds M Q=>∃ a t kvs,ds=[.ref a]/\M a=some (.dct t kvs) /\ ∀ p,M p=none->Q (.ref p) (af M p (.lst (kvs.map (·.1))))
theorem kb:aQ oV:=fun _ _ _ _ h ⟨a,t,kvs,e,j,q⟩=>⟨a,t,kvs,e,j,fun p n=>h _ _ (q p n)⟩
section
variable {X:Cx}
theorem oW (F:X.calm=true):CallR X (.type "list") (lR X.K oV):=by
 intro pins s σ H xs us Q I r h;obtain ⟨ds,M,rm,rs,a,t,kvs,rfl,e,q⟩:=h;obtain ⟨v,rfl,rv⟩:=rs.one;obtain ⟨u,rfl,ru⟩:=dq r
 cases SE.mp rv
 cases (show u=Ht a from ru)
 obtain ⟨cd,dd,sl,es,ep,hd,hz,j,G⟩:=kN I rm e;obtain ⟨t1,O,z⟩:=cW I G;obtain ⟨vs,h1,h2⟩:=kP j;have B:cd = .type "dict":=by
  obtain ⟨o,g1,g2⟩:=t1;rw [hd] at g1;cases g1;exact g2
 subst B;have J:X.A.in1.handled=none:=I.ok.hd F;have hlen:vs.length<=Hd:=by have:=h2.length;rw [H8] at this;simp at this;lia
 refine kQ J z hd hz fun h' c' tk kp eN L=>?_;refine ⟨.ref s.heap.objs.size,_,I.laid (t':=tk) kp (Hg _) (show ObjOk X.prog X.w _ h' _ (.lst vs) from ⟨hlen,_,c',h2,eN⟩),rfl,?_⟩;exact cH rm h1 (fun p n=>q p n) (I.hok.fresh (Hg _))
end
end Mi
end
section
section
variable {prog:HB} {w:HX} {A:I0} {E:hH->tv->Prop} {s:tv} {K:Type} [DecidableEq K] {knd:HeapKind prog w K}
theorem kc {α:Type} {f : α -> Bool}:∀ {l:List α} {j:Nat} {x : α},l[j]? = some x->f x=false->(∀ i y,l[i]? = some y->f y=false->i=j)->l.eraseIdx j=l.filter f
 | [],j,x,h,_,_=>by simp at h
 | y::l,0,x,h,hx,q=>by
   simp at h;subst h;rw [List.eraseIdx_cons_zero,HA (by rw [hx];decide)]
   refine (Q2.mpr fun z hz=>?_).symm;obtain ⟨i,hi⟩:=Py hz
   cases hf:f z with
   | true=>rfl
   | false=>have:=q (i+1) z (by simpa using hi) hf;lia
 | y::l,j+1,x,h,hx,q=>by
   have B:f y=true:=by
    cases hf:f y with
    | true=>rfl
    | false=>have:=q 0 y rfl hf;lia
   rw [Ma,HE B,kc (x:=x) (by simpa using h) hx fun i z hi hz=>by have:=q (i+1) z (by simpa using hi) hz;lia]
theorem gx {α β:Type} (f : α -> β):∀ (l:List α) (j:Nat),(l.map f).eraseIdx j=(l.eraseIdx j).map f
 | [],_=>by simp
 | _::_,0=>rfl
 | x::l,j+1=>by rw [Hj,Ma,Ma,Hj,gx f l j]
theorem ym {d a:Addr} {xs:List (K×Addr×hH)} {k:K} {Q:Option HS->tv->Prop} (U:knd.room A) (z:knd.is s.heap k a) (hm:s.heap.DictOfH knd d xs) (hsz:xs.length<=Hd)
 (B:(∀ (j:Nat) (p:Addr×hH),xs[j]? ≠ some (k,p))->Q none { s with toks:=s.toks+knd.draws k })
 (F:∀ (j:Nat) (p:Addr×hH) h',xs[j]? = some (k,p)->h'.DictOfH knd d (xs.filter fun x=>decide (x.1≠k))->IQ d s.heap h'->Q (some (Ku knd (k,p))) { s with heap:=h',toks:=s.toks+knd.draws k }) :
 Hh (model prog w) A (Pz d (.ref a)) Q E s:=by
 obtain ⟨o,es,ep,ho,Y,hd,he,G,L⟩:=hm;unfold Pz
 try with_reducible refine I7 ?_
 refine gV (knd.pyHash U z (gV (Q1 (s:={ s with toks:=s.toks+knd.draws k }) U z ho hd he G L ?_ ?_)))
 ·intro O;exact hW (B O)
 ·intro j p J;refine gV (J9 (s:={ s with toks:=s.toks+knd.draws k }) ho hd ?_)
  rw [entry_at he j,J];refine gV (wpAny_updateDictKeys (hz:=by have e:=L6 he;omega) (s:={ s with toks:=s.toks+knd.draws k }) ho hd (hW (F j p _ J ⟨_,_,ep+1,Jl _ ho (Q3 (Lq hd _)),
   Y.mapDictKeys _,Lq hd _,?_,?_,?_⟩ (K0 ..))))
  ·have Z:xs.eraseIdx j=xs.filter fun x=>decide (x.1≠k):=kc J (by simp) fun i y hi hy=>by
    have hk:y.1=k:=by simpa using hy
    exact idxH_unique L (k:=k) (p:=y.2) (q:=p) (by rw [hi,<- hk]) J
   rw [<- Z];have e3:(es.eraseIdxIfInBounds j).toList=es.toList.eraseIdx j:=by obtain ⟨l⟩:=es;simp
   rw [e3,he];exact (gx (Ku knd) xs j)
  ·intro x hx;exact knd.keeps (G x (Ic.mp hx).1) ho hd (K0 ..)
  ·exact L.sublist (MN _ KG)
end
theorem KT.drop {H:Hp} {kvs:List (List Key×V)} {xs:List (List Key×Addr×hH)} (r:KT H kvs xs) (k:List Key):KT H (cR kvs k) (xs.filter fun x=>decide (x.1≠k)):=by
 unfold cR
 induction r with
 | nil=>exact .nil
 | @cons p q ps qs h t ih =>
  obtain ⟨h1,h2,j⟩:=h
  by_cases e:p.1=k
  ·rw [HA (by simp [e]),HA (by simp [h1.symm.trans e])];exact ih
  ·rw [HE (by simp [e]),HE (by simpa using fun z=>e (h1.trans z))];exact .cons ⟨h1,h2,j⟩ ih
section
variable {X:Cx} {pins:List (Addr×Obj)} {σ:List (Option V)} {H:Hp} {s:tv} {a b:Addr} {A:I0} {E:hH->tv->Prop}
theorem CL {kvs:List (List Key×V)} {k:List Key} {z:V} {r:hH} {Q:hH->tv->Prop} (hu:A.units+1 < Js) (I:Inv X pins σ H s) (e:H a=some (.dT kvs)) (eb:H b=some (.tup (k.map kV))) (rz:RelV z r)
 (h:∀ w' s',Inv X pins σ (upd H a (.dT (cR kvs k))) s'->RelV ((be kvs k).getD z) w'->Q w' s'):Hh (model X.prog X.w) A (call (.builtin "dict.pop") [.ref a,.ref b,r]) Q E s:=by
 obtain ⟨hz,hd,xs,rel,dd⟩:=rT I.hok e;have hl:xs.length<=Hd:=by rw [<- JL rel];exact hz
 have B:(∀ (j:Nat) (p:Addr×hH),xs[j]? ≠ some (k,p)) -> ∀ tk,Q r { s with toks:=tk }:=fun J tk=>by
  have G:=rel.val k;rw [QY J] at G;have U:be kvs k=none:=by
   cases hv:be kvs k with
   | none=>rfl
   | some v=>rw [hv] at G;exact G.elim
  have e3:cR kvs k=kvs:=by
   unfold cR;refine Q2.mpr fun p hp=>?_;have:=iP (kvs:=kvs) (k:=k);rw [U] at this;have Y:(kvs.any fun kv=>decide (kv.1=k))=false:=by simpa using this
   rw [QA] at Y;have h8:=Y p hp;simpa using h8
  refine h r _ ?_ (by rw [U];exact rz)
  have e4:upd H a (.dT kvs)=H:=by
   funext c
   unfold upd
   split
   ·next Z=>rw [Z,e]
   ·rfl
  rw [e3,e4];exact I.tok _
 refine HK P9 dd.typeIs PySem.F.entry_dict_pop ?_ (PySem.F.args_dict_pop_3 _ _ _);unfold IS.«dict.pop»;refine gV ?_;unfold Builtin.Dict.keyAndDefault;refine gV (Mu dd.typeIs ?_);show Hh _ _ (pure (a,Ht b,some r)) _ _ s;refine hW ?_;have hk:(keyPart (Ht b)).isSome=false:=rfl;obtain ⟨o,es,ep,ho,Z,L,he,ES,hn⟩:=id dd;simp only [hk,Iw,if_false];refine gV (J9 ho L (gV (hW ?_)));have hsz:es.size=xs.length:=L6 he
 by_cases hem:es.isEmpty=true
 ·rw [if_pos hem];refine gV (J6 (gV (hW ?_)));simp only [Qu,if_true];refine gV (NV hd ?_);refine gV (J6 (hW ⟨r,rfl,B (fun j p O=>?_) s.toks⟩));have hx:xs=[]:=Ia.mp (by rw [<- hsz];simpa using hem)
  rw [hx] at O;simp at O
 ·rw [if_neg hem];refine gV (ym (knd:=IP (ar X.prog X.w)) (JI hu) (dR I.hok eb) dd hl (fun J=>?_) fun j p h' O dd' hs=>?_)
  ·simp only [Qu,if_true];refine gV (NV hd ?_);exact gV (J6 (hW ⟨r,rfl,B J _⟩))
  ·simp only [Option.isNone_some,Iw,if_false];refine gV (JP (hW ⟨_,rfl,h _ _ ?_ ?_⟩))
   ·obtain ⟨q,es',ep',hq,h2,h3,h4,_,h5⟩:=dd';refine gL I (by rw [e];exact Kf) hs ⟨q,hq⟩ ⟨Jp (wX kvs k) hz,hd,_,(rel.drop k).keeps fun c ys ec=>?_,q,es',ep',hq,h2,h3,h4,h5⟩
    rw [ah (rE ec e (fun z=>nomatch z))];exact ec
   ·have G:=rel.val k;rw [atKey_of_get hn O] at G
    cases hv:be kvs k with
    | none=>rw [hv] at G;exact G.elim
    | some v=>rw [hv] at G;exact G
end
noncomputable def CM (td ty tx:TE):TE:=fun σ H Q=>td σ H fun x H1=>∃ a,x = .ref a/\IsD H1 a/\ty σ H1 fun y H2=>tx σ H2 fun z H3=>∃ kvs k b,H3 a=some (.dT kvs)/\y = .ref b/\H3 b=some (.tup (k.map kV))/\Q ((be kvs k).getD z) (upd H3 a (.dT (cR kvs k)))
section
variable {X:Cx} {o e f:Expr} {apos cpos:Pos} {td ty tx:TE}
theorem yn (q:X.A.units+1 < Js) (ho:PE X o td) (he:PE X e ty) (hf:PE X f tx) (m:M2 X o "pop" apos e f cpos):PE X (.Call (.Attribute o "pop" apos) [e,f] [] cpos) (CM td ty tx):=by
 intro pins s σ H Q I h;refine QK m.base m.few m.line Lk P9 PySem.F.type_dict_pop (thn (ho pins s σ H _ I h) fun u s1 ⟨x,H1,j,rx,a,ex,d,B⟩=>?_);subst ex;obtain rfl:u=Ht a:=rx;obtain ⟨t1,G,_⟩:=cW j d;refine ⟨t1,G,?_⟩;rw [m.trees];refine K7 rfl (MZ (Kg (thn (he pins s1 σ H1 _ j B) fun iv s2 ⟨y,H2,J,ry,L⟩ =>
  Kg (thn (hf pins s2 σ H2 _ J L) fun fv s3 ⟨z,Z,O,rz,kvs,k,b,ea,ey,eb,U⟩=>Md ?_))))
 subst ey
 cases (show iv=Ht b from ry)
 exact CL q O ea eb rz fun w' s4 Y rw'=>⟨_,_,Y,rw',U⟩
end
namespace Mi
section
variable {K:Frag} {H:Hp} {κ:Type} [DecidableEq κ] {RK:D -> κ -> Prop}
theorem vt (inj:∀ {a b:D} {q : κ},RK a q->RK b q->a=b) (fn:∀ {a:D} {p q : κ},RK a p->RK a q->p=q) {k:D} {q : κ} (j:RK k q) {kvs:List (D×D)} {ps:List (κ × V)} (r:I8 (fun p r=>RK p.1 r.1/\RD K H p.2 r.2) kvs ps) :
 I8 (fun p r=>RK p.1 r.1/\RD K H p.2 r.2) (gN kvs k) (cR ps q):=by
 unfold gN cR
 induction r with
 | nil=>exact .nil
 | @cons p r ps qs h t ih =>
  by_cases e:p.1=k
  ·have e':r.1=q:=by have h1:=h.1;rw [e] at h1;exact fn h1 j
   rw [HA (by simp [e]),HA (by simp [e'])];exact ih
  ·have e' : ¬ r.1=q:=fun z=>e (by have h1:=h.1;rw [z] at h1;exact inj h1 j)
   rw [HE (by simp [e]),HE (by simp [e'])];exact .cons h ih
end
noncomputable def nh (to tk tx:TEd):TEd:=fun ρ M Q=>to ρ M fun x M1=>∃ a kvs,x = .ref a/\M1 a=some (.dct true kvs)/\tk ρ M1 fun k M2=>tx ρ M2 fun z M3=>∃ kvs',M3 a=some (.dct true kvs')/\bJ k=true/\Q ((dget kvs' k).getD z) (af M3 a (.dct true (gN kvs' k)))
theorem vw {to tk tx:TEd} (h1:ad to) (h2:ad tk) (j:ad tx):ad (nh to tk tx):=fun ρ M Q Q' i q=>h1 _ _ _ _ (fun x O ⟨a,kvs,e,B,F⟩=>⟨a,kvs,e,B,h2 _ _ _ _ (fun k M2 G=>j _ _ _ _ (fun z U ⟨kvs',J,ok,L⟩=>⟨kvs',J,ok,i _ _ L⟩) G) F⟩) q
section
variable {X:Cx}
theorem AX {o e f:Expr} {to tk tx:TEd} {apos cpos:Pos} (hu:X.A.units+1 < Js) (mo:ad to) (mk:ad tk) (mx:ad tx) (ho:PE X o (lE X.K to)) (he:PE X e (lE X.K tk)) (hf:PE X f (lE X.K tx)) (m:M2 X o "pop" apos e f cpos) :
 PE X (.Call (.Attribute o "pop" apos) [e,f] [] cpos) (lE X.K (nh to tk tx)):=by
 refine PE.imp (yn hu ho he hf m) fun σ H Q h=>?_;obtain ⟨ρ,M,rs,rm,q⟩:=h;refine ⟨ρ,M,rs,rm,mo _ _ _ _ (fun x M1 ⟨a,kvs,e,e1,q1⟩ v H1 x1 j rd1=>?_) q⟩;subst e
 cases SE.mp rd1
 have F:=rs.mono (x1.stab rm);refine ⟨a,rfl,vd j e1,ρ,M1,F,j,mk _ _ _ _ (fun k M2 q2 v2 H2 x2 G O=>?_) q1⟩;have U:=F.mono (x2.stab j);refine ⟨ρ,M2,U,G,mx _ _ _ _ (fun z M3 ⟨kvs',J,ok,q3⟩ v3 Y x3 B rd3=>?_) q2⟩;have ri:=O.mono (x3.stab G);obtain ⟨ps,hp,pr⟩:=B _ _ J;obtain ⟨kq,L⟩:=gO ok;obtain ⟨g1,g2⟩:=dU (RK:=RKeys) RKeys.inj RKeys.fun L pr;have st:Stab Y (upd Y a (.dT (cR ps kq))):=B.stabPut J;have Z:=vt (RK:=RKeys) RKeys.inj RKeys.fun L pr;have rv:RD X.K Y ((dget kvs' k).getD z) ((be ps kq).getD v3):=by
  cases e4:dget kvs' k with
  | none=>rw [g2 e4];exact rd3
  | some d =>
    obtain ⟨w',e5,r5⟩:=g1 d e4;rw [e5];exact r5
 have fin:=q3 _ _ ((x1.trans (x2.trans x3)).trans (Ext.put J)) (B.put (o:=.dct true (gN kvs' k)) J ⟨_,ao,SH Z fun _ _ z=>⟨z.1,z.2.mono st⟩⟩) (rv.mono st)
 cases k <;> first
  | exact L.elim
  | (obtain ⟨b,us,rfl,hb,ru⟩:=SR (gP ok) ri
     rw [dS L ru] at hb;exact ⟨ps,kq,b,hp,rfl,hb,fin⟩)
end
section
noncomputable def ni (te to1 ti1 to2 ti2:TEd):TSd:=fun D ρ M=>te ρ M fun v M1=>∃ x y,v = .tup [x,y]/\to1 ρ M1 fun o1 M2=>ti1 ρ M2 fun i1 M3=>dy o1 i1 x M3 fun M4=>to2 ρ M4 fun o2 M5=>ti2 ρ M5 fun i2 M6=>dy o2 i2 y M6 fun M7=>D.nx ρ M7
theorem vx {te j z to2 B:TEd} (he:ad te) (F:ad j) (G:ad z) (J:ad to2) (L:ad B):aC (ni te j z to2 B):=fun a b ρ M i q =>
 he _ _ _ _ (fun v M1 ⟨x,y,e,O⟩=>⟨x,y,e,F _ _ _ _ (fun o M2 U=>G _ _ _ _ (fun k M3 Y=>eJ (fun M4 Z=>J _ _ _ _ (fun o' M5 q5=>L _ _ _ _ (fun k' M6 q6=>eJ (fun M7 q7=>i.nx _ _ q7) q6) q5) Z) Y) U) O⟩) q
section
variable {X:Cx}
theorem AY {U Y Z i2 e:Expr} {te B F to2 G:TEd} {pos p1 p2 pt:Pos} {kt:Nat} (hc:X.calm=true) (hu:X.A.units+1 < Js) (me:ad te) (EW:ad B) (EX:ad F) (EY:ad to2) (EZ:ad G) (he:PE X e (lE X.K te)) (F1:PE X U (lE X.K B)) (F3:PE X Y (lE X.K F)) (F4:PE X Z (lE X.K to2)) (F5:PE X i2 (lE X.K G))
 (hs:L9 [.Tuple [.Subscript U Y p1,.Subscript Z i2 p2] kt pt] e pos.line X.env=pure false) (hw:Jv [.Tuple [.Subscript U Y p1,.Subscript Z i2 p2] kt pt] e X.env=pure none)
 (ha:∀ v,assign (.Subscript U Y p1) X.env v=(do
   let ov <- holding [v] (eval U X.env)
   let iv <- holding [v,ov] (eval Y X.env)
   MR p1
   holding [v,ov,iv] (NY ov iv v)
   release [v,ov,iv] []))
 (hb:∀ v,assign (.Subscript Z i2 p2) X.env v=(do
   let ov <- holding [v] (eval Z X.env)
   let iv <- holding [v,ov] (eval i2 X.env)
   MR p2
   holding [v,ov,iv] (NY ov iv v)
   release [v,ov,iv] [])):PS X (.Assign [.Tuple [.Subscript U Y p1,.Subscript Z i2 p2] kt pt] e pos) (lS X.K (ni te B F to2 G)):=by
 have pset:=PSet.or (iN (X:=X)) (iX hu);refine PS.imp (nA he (tN (n:=2) hc (iL (ny F1 F3 pset ha) (iL (ny F4 F5 pset hb) qv))) hs hw rfl) fun D σ H h=>?_;obtain ⟨ρ,M,A,rs,rm,l,q⟩:=h;refine ⟨ρ,M,rs,rm,me _ _ _ _ (fun v M1 ⟨x,y,ev,q1⟩ vv H1 x1 z rd1=>?_) q⟩;subst ev;obtain ⟨b,us,rfl,F6,ru⟩:=SI rd1;obtain ⟨w1,w2,rfl,r1,r2⟩:=ru.two;have ES:=rs.mono (x1.stab rm);refine ⟨b,_,rfl,F6,rfl,w1,_,rfl,?_⟩;refine ⟨ρ,M1,ES,z,EW _ _ _ _ (fun ov M2 q2 vo H2 x2 j F7=>?_) q1⟩;have ET:=ES.mono (x2.stab z);refine ⟨ρ,M2,ET,j,EX _ _ _ _ (fun iv M3 q3 vi H3 x3 J F8=>?_) q2⟩;have F9:=ET.mono (x3.stab j);have Fa:=x1.trans (x2.trans x3);refine fF J (F7.mono (x3.stab j)) F8 ((r1.mono (x2.stab z)).mono (x3.stab j)) q3 fun M4 H4 x4 L q4=>?_;have EU:=F9.mono (x4.stab J);refine ⟨w2,_,rfl,ρ,M4,EU,L,EY _ _ _ _ (fun Fh M5 q5 Fi H5 x5 O Fb=>?_) q4⟩;have Fc:=EU.mono (x5.stab L);refine ⟨ρ,M5,Fc,O,EZ _ _ _ _ (fun Fj M6 q6 Fk H6 x6 Fd Fe=>?_) q5⟩;have EV:=Fa.trans (x4.trans (x5.trans x6));have Ff:=((((r2.mono (x2.stab z)).mono (x3.stab j)).mono (x4.stab J)).mono (x5.stab L)).mono (x6.stab O);exact fF Fd (Fb.mono (x6.stab O)) Fe Ff q6 fun M' H' x7 Fg q7=>⟨rfl,l.nx ρ M' σ H' (EV.trans x7) (rs.mono ((EV.trans x7).stab rm)) Fg q7⟩
end
end
end Mi
end
end L2
namespace L2
namespace It
open PySem PySem.Spec PyProof.Rows
section
variable {prog:HB} {w:HX} {A:I0} {E:hH->tv->Prop} {s:tv}
theorem yo {it d:Addr} {i n ep:Nat} {k v ok ov:hH} {Q:hH->tv->Prop} (hi:s.heap.get? it=some (iO .none false d i n ep ok ov))
 (q:∀ h',h'.get? it=some (iO (JU s.heap.objs.size) false d i n ep k v)->h'.get? s.heap.objs.size=some { cls:=.type "tuple",data:=.seq #[k,v] }->(∀ b o,b≠it->s.heap.get? b=some o->h'.get? b=some o)->Q (.ref s.heap.objs.size) { s with heap:=h' }):Hh (model prog w) A (IJ (.ref it) 6 k v) Q E s:=by
 unfold IJ;refine gV (Lm ?_ (by size_fits))
 have B:=H0 hi;have j:=h6 ({ cls:=.type "tuple",data:=.seq [k,v].toArray }) hi;unfold Jo;refine gV (gV (HW j rfl (x:=.none) rfl (hW ?_)));dsimp only;rw [if_pos rfl];refine gV (HW j rfl (x:=ok) rfl ?_);refine gV (HW j rfl (x:=ov) rfl ?_);refine gV (Hv j (by simp) fun h1 G s1=>?_)
 refine gV (Hv G (by simp) fun h2 J s2=>?_)
 refine gV (Hv J (by simp) fun U L s3=>?_)
 refine gV (Hv L (by simp) fun F O s4=>?_)
 refine gV (JP ?_);have kp:∀ b o,b≠it->(s.heap.push { cls:=.type "tuple",data:=.seq [k,v].toArray }).get? b=some o->F.get? b=some o:=fun b o z e=>s4.extBut b o z (s3.extBut b o z (s2.extBut b o z (s1.extBut b o z e)));refine hW (q F O (kp _ _ (Iu B) (GZ _ rfl)) fun b o z e=>kp b o z (h6 _ e))
theorem nx_any {it d:Addr} {i ep:Nat} {cd ok ov:hH} {dd:Option Addr} {sl:Array (Option hH)} {es:Array HS} {e:HS} {Q:Option hH->tv->Prop} (hi:s.heap.get? it=some (iO .none false d i es.size ep ok ov)) (hd:s.heap.get? d=some { cls:=cd,dict:=dd,data:=.dict es ep,slots:=sl }) (he:es[i]? = some e)
 (q:∀ h',h'.get? it=some (iO (JU s.heap.objs.size) false d (i+1) es.size ep e.key e.val)->h'.get? s.heap.objs.size=some { cls:=.type "tuple",data:=.seq #[e.key,e.val] }->(∀ b o,b≠it->s.heap.get? b=some o->h'.get? b=some o)->Q (some (.ref s.heap.objs.size)) { s with heap:=h' }):Hh (model prog w) A (JD (.ref it)) Q E s:=by
 have ty:s.TypeIs (.ref it) "dict_itemiterator":=⟨_,hi,rfl⟩;unfold JD;refine gV (Jn (HN (name:=Iy "__next__") ty slot_next (HK slot_next ty bE ?_ (bS _))));unfold IS.«dict_itemiterator.__next__»;have hm:=gn
 wp_walk
 dsimp only;rw [if_neg (by simp)]
 wp_walk
 simp only [HF,he];refine gV (IK (Q:=fun n s'=>n=2/\s'=s) ?_ (fun n s' hs=>?_) fun _ _ z=>z)
 ·wp_walk
  exact ⟨by kernel_rfl,rfl⟩
 obtain ⟨rfl,rfl⟩:=hs;refine gV (bK ty ?_);refine gV (Hv hi (by simp) fun h1 j s1=>?_)
 refine gV (I7 ?_);have B:MW { s' with heap:=h1 } (.ref it) "dict_itemiterator":=⟨_,j,rfl⟩
 refine gV (bK B ?_);rw [if_neg (by decide +kernel)] at j
 have j:h1.get? it=some (iO .none false d (i+1) es.size ep ok ov):=j;have hsz:h1.objs.size=s'.heap.objs.size:=s1.1;refine JC (by decide +kernel) ?_
 refine gV (bK B ?_);refine JC (by decide +kernel) ?_
 refine yo (s:={ s' with heap:=h1 }) j fun h2 F G L=>?_
 refine hW ⟨_,rfl,hW ?_⟩;dsimp only at F G ⊢;rw [hsz] at F G ⊢;exact q h2 F G fun b o J e=>L b o J (s1.extBut b o J e)
theorem mv:Slot "dict_itemiterator" "__iter__" "dict_itemiterator.__iter__":=.of (owner:="dict_itemiterator") (n:="__iter__") (by rw [Nh,Ld];kernel_rfl) (by decide +kernel) (by decide +kernel) (by decide +kernel) (.inl (by decide +kernel)) (by rw [Ki];kernel_rfl)
theorem sN:Sg table "dict_itemiterator.__iter__" = some IS.«dict_keyiterator.__iter__» :=
 entryFor_alias (id':="dict_keyiterator.__iter__") (by kernel_rfl) (by first | rfl | decide +kernel | (unfold String.splitOn;simp +decide [String.splitOnAux])) (by decide +kernel) (by kernel_rfl)
theorem vy (a:hH):Si "dict_itemiterator.__iter__" ⟨[a],[]⟩:=by unfold Si;kernel_rfl
theorem it_self {it:Addr} {f0 ok ov:hH} {b:Bool} {d:Addr} {i n ep:Nat} {Q:hH->tv->Prop} (hi:s.heap.get? it=some (iO f0 b d i n ep ok ov)) (h:Q (.ref it) s):Hh (model prog w) A (O8 (.ref it)) Q E s:=by
 have ty:s.TypeIs (.ref it) "dict_itemiterator":=⟨_,hi,rfl⟩;refine O6 ty mv (HK mv ty sN ?_ (vy _));exact hW ⟨_,rfl,"dict_itemiterator",_,ty,slot_next.lookup,h⟩
end
end It
open PySem PySem.Spec PyProof.Rows
noncomputable def Itp (n:Nat) (G:Hp->Prop) (yl:Nat->V->V->Hp->Prop):It:=⟨fun i H=>i < n/\G H,fun i H x H'=>∃ p u v,H p=none/\x = .ref p/\H'=upd H p (.tup [u,v])/\yl i u v H,fun i H=>n<=i/\G H⟩
theorem sP {P:HB} {w:HX} {K:Frag} {elts:List Expr} {cx} {pos:Pos} (a it:Addr) {cd:hH} {dd:Option Addr} {sl:Array (Option hH)} {es:Array HS} {ep:Nat} {G:Hp->Prop} {yl:Nat->V->V->Hp->Prop}
 (O:∀ H,G H -> ∃ u,H a=some (.frz { cls:=cd,dict:=dd,data:=.dict es ep,slots:=sl } u)) (U:∀ i H h,HOk P w H h->G H -> ∀ e,es[i]? = some e -> ∃ u v,RelV u e.key/\RelV v e.val/\yl i u v H) :
 fx P w K (.Tuple elts cx pos) (Itp es.size G yl) [it] it (fun i h=>i<=es.size /\ ∃ ok ov,h.get? it=some (It.iO .none false a i es.size ep ok ov)) where
 mem:=by simp
 obj:=fun i h st b B=>by
  have e:b=it:=by simpa using B
  subst e;obtain ⟨_,ok,ov,e⟩:=st;exact ⟨_,e,fun v z=>by cases z⟩
 keep:=fun i h h' st k=>by
  obtain ⟨h1,ok,ov,e⟩:=st;exact ⟨h1,ok,ov,k it (by simp) _ e⟩
 item:=by
  intro X F hw J j i pins s σ H E I hf st q;subst F hw J;obtain ⟨hi,q⟩:=q;obtain ⟨_,ok,ov,st⟩:=st;obtain ⟨u',L⟩:=O H q;obtain ⟨u,v,ru,rv,yx⟩:=U i H s.heap I.hok q es[i] (HC hi);refine It.nx_any (e:=es[i]) st (I.hok a _ L).1 (HC hi) fun h1 Y Z k1=>⟨_,rfl,?_⟩;refine wpAny_letOwnedTupleGo_items (s:={ s with heap:=h1 }) Y fun h2 e2 s2=>?_
  have lt:∀ {c o},s.heap.get? c=some o->c≠s.heap.objs.size:=fun e=>HJ (H0 e);have nz:s.heap.objs.size≠it:=(lt st).symm;have up:∀ c o,c≠it->h1.get? c=some o->h2.get? c=some o:=fun c o n e=>s2.extBut _ _ n e;have IL:Inv X pins σ (upd H s.heap.objs.size (.tup [u,v])) { s with heap:=s.heap.push { cls:=.type "tuple",data:=.seq #[es[i].key,es[i].val] } } :=
   I.laid (t':=s.toks) (fun b o e=>h6 _ e) (Hg _) ⟨by rw [D2];simp,[es[i].key,es[i].val],.cons ru (.cons rv .nil),Mw _ _⟩
  have un:∀ c∈[it],upd H s.heap.objs.size (.tup [u,v]) c=none:=fun c j=>by
   have e:c=it:=by simpa using j
   rw [e,ah nz.symm];exact (hf it (by simp)).1
  have kk:∀ c o,c∉[it]->(s.heap.push { cls:=.type "tuple",data:=.seq #[es[i].key,es[i].val] }).get? c=some o->h2.get? c=some o:=fun c o j e=>by
   simp only [He,I9,or_false] at j
   rcases N3 e with ⟨rfl,rfl⟩ | e
   ·exact up _ _ nz Z
   ·exact up _ _ j (k1 c o j e)
  have I2:Inv X pins σ (upd H s.heap.objs.size (.tup [u,v])) { s with heap:=h2 } :=
   Inv.turnedL (s:={ s with heap:=s.heap.push { cls:=.type "tuple",data:=.seq #[es[i].key,es[i].val] } }) (h':=h2) (t':=s.toks) (fp:=[it]) IL (fun c j=>⟨un c j,(hf c j).2⟩) kk
  exact ⟨.ref s.heap.objs.size,_,I2,rfl,⟨_,u,v,I.hok.fresh (Hg _),rfl,rfl,yx⟩,⟨hi,_,_,e2⟩,un⟩
 done:=by
  intro X F hw J j i pins s σ H E I hf st q;subst F hw J;obtain ⟨hi,q⟩:=q;obtain ⟨h0,ok,ov,st⟩:=st;obtain ⟨u,L⟩:=O H q;obtain ⟨f0,f1,f2,f3,f4,f5⟩:=hf it (by simp)
  have e:i=es.size:=by lia
  subst e;exact It.nx_end (I.ok.hd j) st (I.hok a _ L).1 fun h' k=>⟨rfl,I.turned (t':=s.toks) (fun b o B e=>k b o B e) f0 f1 f3 f4 f5⟩
 self:=fun A i s Q E st h=>by
  obtain ⟨_,ok,ov,e⟩:=st;exact It.it_self e h
namespace Mi
section
variable {X:Cx}
noncomputable def gy (ta:TEd):TId:=fun ρ M R=>ta ρ M fun x M1=>∃ a kvs,x = .ref a/\M1 a=some (.fdc kvs)/\R (kvs.map kvD) (fun _=>True) M1
theorem sQ {ta:TEd} (h:ad ta):bW (gy ta):=fun ρ M Q Q' i q=>h _ _ _ _ (fun x B ⟨a,ds,e,j,z⟩=>⟨a,ds,e,j,i _ _ _ z⟩) q
theorem oZ {K:Frag} {H:Hp}:∀ {kvs:List (D×D)} {es:List HS},I8 (gv K H) kvs es -> ∀ (i:Nat) (e:HS),es[i]? = some e -> ∃ (kv:D×D) (u v:V),kvs[i]? = some kv/\RD K H kv.1 u/\RelV u e.key/\RD K H kv.2 v/\RelV v e.val
 | _,_,.nil,_,_,h=>by simp at h
 | _,_,.cons r t,0,_,h=>by
   simp at h;subst h;obtain ⟨kV,vV,g1,g2,g3,j⟩:=r;exact ⟨_,kV,vV,rfl,g1,g2,g3,j⟩
 | _,_,.cons _ t,i+1,e,h=>by
   obtain ⟨kv,u,v,h1,h2⟩:=oZ t i e (by simpa using h)
   exact ⟨kv,u,v,by simpa using h1,h2⟩
theorem yp {elts:List Expr} {cx} {tpos:Pos} {e:Expr} {ta:TEd} {apos cpos:Pos} (m:ad ta) (he:PE X e (lE X.K ta)) (B:MU e "items" X.env (eval e X.env)=eval e X.env) (L:(apos.endLine==cpos.line)=true) :
 PI X (.Tuple elts cx tpos) (.Call (.Attribute e "items" apos) [] [] cpos) (lI X.K (gy ta)):=by
 intro pins s σ H R I h;obtain ⟨ρ,M,rs,rm,q⟩:=h;have hq:lE X.K ta σ H (fun v H1=>∃ a kvs O,v = .ref a/\Ext M H O H1/\RM X.K O H1/\O a=some (.fdc kvs) /\ ∀ J,fD X.K H1 (kvs.map kvD) (fun _=>True) J->R J H1) :=
  ⟨ρ,M,rs,rm,m _ _ _ _ (fun x O ⟨a,kvs,e,e1,q1⟩ v H1 x1 j rd1=>by
    subst e
    cases SE.mp rd1
    exact ⟨a,kvs,O,rfl,x1,j,e1,fun J ij=>q1 J H1 x1 j ij⟩) q⟩
 refine Oy B L (thn (he pins s σ H _ I hq) fun u s1 ⟨x,H1,I1,r1,a,kvs,O,e0,x1,j,e1,q1⟩=>?_);subst e0;obtain rfl:u=Ht a:=r1;obtain ⟨o,ps,hp,pr⟩:=j _ _ e1;obtain ⟨Z,ok⟩:=I1.hok a _ hp;obtain ⟨cd,dd,sl,es,ep,g1,g2,g3⟩:=gw ok pr;obtain ⟨ty,t2,ES⟩:=cW I1 (.inr ⟨ps,.inr ⟨o,hp⟩⟩);rw [Z] at g1
 cases g1
 have ET:cd = .type "dict":=by
  obtain ⟨o,h1,h2⟩:=ty;rw [Z] at h1;cases h1;exact h2
 subst ET;have lz:kvs.length=es.size:=by have:=aK g3;simpa using this
 refine ⟨"dict","dict.items",Lk,O7,QW,ty,t2,K7 rfl (Q0 ?_)⟩;refine mm ty ES Z ?_;have kpv:∀ b o,s1.heap.get? b=some o->(s1.heap.push { cls:=HY "dict_items",data:=LV #[Ht a] }).get? b=some o:=fun b o e=>h6 _ e;have I2:Inv X pins σ H1 { s1 with heap:=s1.heap.push { cls:=HY "dict_items",data:=LV #[Ht a] } }:=I1.kept (t':=s1.toks) kpv
 refine It.it_view (s:={ s1 with heap:=s1.heap.push { cls:=HY "dict_items",data:=LV #[Ht a] } }) (GZ _ rfl) (kpv _ _ Z) ?_
 refine ⟨_,_,_,_,H1,rfl,I2.kept (t':=s1.toks) fun b o e=>h6 _ e,sP (G:=fun H=>H a=some (.frz { cls:=.type "dict",dict:=dd,data:=.dict es ep,slots:=sl } (.dT ps))/\I8 (fun (p:D×D) (q:List Key×V)=>RKeys p.1 q.1/\RD X.K H p.2 q.2) kvs ps) (yl:=fun i u v H=>∃ kv,kvs[i]? = some kv/\RD X.K H kv.1 u/\RD X.K H kv.2 v) a _ (fun H h=>⟨_,h.1⟩) (fun i H h hok ⟨ha,pr'⟩ e he=>?_),⟨Jj _,_,_,GZ _ rfl⟩,fun b hb=>?_,q1 _ ?_⟩
 ·obtain ⟨z0,ok'⟩:=hok a _ ha;obtain ⟨cd,dd,sl',es',ep',z1,_,z3⟩:=gw ok' pr';rw [z0] at z1
  cases z1
  obtain ⟨kv,u,v,y1,y2,y3,y4,y5⟩:=oZ z3 i e (by simpa using he)
  exact ⟨u,v,y3,y5,kv,y1,y2,y4⟩
 ·have e:b=(s1.heap.push { cls:=HY "dict_items",data:=LV #[Ht a] }).objs.size:=by simpa using hb
  subst e;exact I2.fpOk (Hg _) (I2.hok.fresh (Hg _))
 ·intro M' H' st rm' _ i;have U:=st.frz _ _ _ hp;have pr':I8 (fun (p:D×D) (q:List Key×V)=>RKeys p.1 q.1/\RD X.K H' p.2 q.2) kvs ps:=SH pr fun _ _ z=>⟨z.1,z.2.mono st⟩;rw [H8,lz];refine ⟨fun hi=>⟨hi,U,pr'⟩,fun hi=>⟨⟨hi,U,pr'⟩,fun x H'' y=>?_⟩⟩;obtain ⟨p,u,v,n,e,e2,kv,y1,y2,y3⟩:=y;subst e e2;have Y:Stab H' (upd H' p (.tup [u,v])):=(SN (M:=M') n).stab rm';exact ⟨.inr ⟨p,[u,v],n,rfl⟩,kvD kv,by rw [HG,y1];rfl,SO ⟨p,[u,v],rfl,ao,RDs.cons (y2.mono Y) (RDs.cons (y3.mono Y) RDs.nil)⟩⟩
end
end Mi
end L2
namespace L2
open PySem PySem.Spec PyProof.Rows
namespace Mi
end Mi
end L2
namespace L2
open PySem PySem.Spec PyProof.Rows
section
theorem qP {α:Type} {f : α -> Int}:∀ {l:List α},(l.map f).Nodup -> ∀ h:Int,(l.filter fun x=>f x==h).length<=1
 | [],_,_=>by simp
 | x::l,j,h=>by
   rw [Hj,Ip] at j
   by_cases e:f x=h
   ·rw [HE (by simpa using e)]
    have:(l.filter fun y=>f y==h)=[]:=List.filter_eq_nil_iff.mpr fun y q z=>j.1 (Hk.mpr ⟨y,q,by rw [e];simpa using z⟩)
    rw [this];simp
   ·rw [HA (by simpa using e)];exact qP j.2 h
section
variable {prog:HB} {w:HX} {K:Type} [DecidableEq K] {knd:KeyKind prog w K} {A:I0} {E:hH->tv->Prop} {s:tv}
theorem p7 {id:String} {o:Addr} {ob:Obj} {es:Array HS} {ep:Nat} {xs:List (List K×Addr×hH)} {Q:Array HS->tv->Prop} (ho:s.heap.get? o=some ob) (hd:ob.data = .dict es ep) (he:es.toList=xs.map (Ku (IP knd)))
 (z:∀ x∈xs,(IP knd).is s.heap x.1 x.2.1) (G:(xs.map fun x=>Ks knd x.1).Nodup) (q:Q es s):Hh (model prog w) A (Nl id o) Q E s:=by
 unfold Nl;refine gV (J9 ho hd ?_);refine gV ?_;rw [<- Array.forIn_toList];refine Oi _ (fun rest _ s'=>s'=s /\ ∃ a,es.toList=a++rest) _ ?_ ?_ _ _ ⟨rfl,[],rfl⟩
 ·rintro e rest b s' ⟨rfl,a,B⟩;have hm:e∈xs.map (Ku (IP knd)):=by rw [<- he,B];simp
  obtain ⟨x,hx,rfl⟩:=Hk.mp hm;have J:s'.TypeIs (.ref x.2.1) "tuple":=(show IsTupleKey knd s'.heap x.1 x.2.1 from z x hx).typeIs;have j : ¬ ((es.filter fun y=>y.hash==(Ku (IP knd) x).hash).size > 1):=by
   have h1:=qP (f:=fun y:HS=>y.hash) (l:=es.toList) (by rw [he,Im];exact G) (Ku (IP knd) x).hash
   rw [<- HI,Array.toList_filter];omega
  refine gV (m:=PD (.ref x.2.1)) ?_;unfold PD;refine gV (Ni J F.slot_tuple_eq.lookup (hW ?_));rw [if_pos (by decide),if_neg j]
  exact hW ⟨rfl,a++[Ku (IP knd) x],by rw [B];simp⟩
 ·rintro b s' ⟨rfl,_⟩;exact hW q
theorem sR {nm:String} {d o:Addr} {xs:List (List K×Addr×hH)} {Q:Unit->tv->Prop} (O:d≠o) (U:(o==Ir)=false) (hd:s.heap.DictOfH (IP knd) d []) (ho:s.heap.DictOfH (IP knd) o xs) (hn:(xs.map fun x=>Ks knd x.1).Nodup) (hsz:xs.length<=Hd)
 (hQ:∀ h',h'.DictOfH (IP knd) d xs->IQ d s.heap h'->Q () { s with heap:=h' }):Hh (model prog w) A (OT nm d o) Q E s:=by
 obtain ⟨od,esd,epd,B,Y,q,Z,EU,EV⟩:=id hd;obtain ⟨oo,eso,epo,F,EW,j,G,J,ES⟩:=id ho;have hlen:=L6 G;have ET:=L6 Z;unfold OT;rw [if_neg (by simpa using O)]
 unfold P6;rw [if_neg (by rw [U];exact Hi)]
 refine gV (hW ?_);refine gV (J9 F j ?_);dsimp only
 cases xs with
 | nil =>
   have h0:eso = #[]:=MP (by simpa using hlen)
   subst h0;rw [if_neg (by simp)]
   refine gV (P1 F j (gV (J9 F j (gV ?_))));rw [Lo];simp only [P7,Nat.sub_zero,NQ,Nat.div_one,Hn,Jd,List.range'_zero,NM];exact hW (hW (hQ _ hd (QU _ _)))
 | cons x xs =>
   have L:(decide (eso.size<=8)&&eso.all fun e=>(keyPart e.key).isSome)=false:=by
    rw [Bool.and_eq_false_iff]
    right
    rw [Array.all_eq_false];refine ⟨0,by rw [hlen];simp,?_⟩
    have:eso.toList[0]? = some (Ku (IP knd) x):=by rw [G];rfl
    rw [Hz] at this;rw [HC (by rw [hlen];simp)] at this
    rw [Ju.inj this];simp [Ku,keyPart]
   rw [L,if_pos (by rfl)]
   refine gV (J9 B q ?_);rw [if_pos (by rw [Array.isEmpty_iff];exact MP (by simpa using ET))]
   refine gV (p7 F j G J hn ?_);rw [if_pos (by
    have:eso ≠ #[]:=fun z=>by rw [z] at hlen;simp at hlen
    simpa using this)]
   refine gV (wpAny_updateDictKeysTo B q (hW (hQ _ ⟨_,_,epd+1,Jl _ B (Q3 (Lq q _)),Y.mapDictKeys _,Lq q _,G,fun y hy=>(IP knd).keeps (J y hy) B q (K0 ..),ES⟩ (K0 ..))) (by rw [hlen];omega))
theorem mU {o:Addr} {xs:List (List K×Addr×hH)} {Q:hH->tv->Prop} (z:(o==Ir)=false) (ho:s.heap.DictOfH (IP knd) o xs) (L:(xs.map fun x=>Ks knd x.1).Nodup) (hsz:xs.length<=Hd)
 (h:∀ h',h'.DictOfH (IP knd) s.heap.objs.size xs->IQ s.heap.objs.size (s.heap.push { cls:=.type "dict",data:=.dict #[] }) h'->Q (.ref s.heap.objs.size) { s with heap:=h' }) :
 Hh (model prog w) A (call (.type "dict") [.ref o]) Q E s:=by
 refine Pq (Q₁:=fun obj s₁=>obj = .ref s.heap.objs.size/\s₁ = { s with heap:=s.heap.push { cls:=.type "dict",data:=.dict #[] } }) Ro (Pt _) QX (Rp _ ⟨rfl,rfl⟩) ?_
 rintro obj s₁ ⟨rfl,rfl⟩;have j:(s.heap.push { cls:=.type "dict",data:=.dict #[] }).DictOfH (IP knd) s.heap.objs.size []:=Heap.DictOfH.new s.heap;obtain ⟨ob,es,ep,g1,g2,g3,O,U,Y⟩:=id ho;have q:(s.heap.push { cls:=.type "dict",data:=.dict #[] }).DictOfH (IP knd) o xs:=⟨ob,es,ep,h6 _ g1,g2,g3,O,fun x hx=>by
  obtain ⟨Z,its,n,k1,k2⟩:=(show IsTupleKey knd s.heap x.1 x.2.1 from U x hx);exact ⟨Z,its,n,h6 _ k1,k2⟩,Y⟩
 have B:s.heap.objs.size≠o:=fun e=>absurd (H0 g1) (by rw [e];exact Ig _)
 refine ⟨j.typeIs,Qt _ _,?_⟩;unfold IS.«dict.__init__»;refine gV ?_;unfold Oe;refine gV (Mu j.typeIs ?_);show Hh _ _ (pure (s.heap.objs.size,[Ht o])) _ _ _;refine hW ?_;show Hh _ _ (LZ "dict.__init__" s.heap.objs.size (.ref o) [] .none) _ _ _;unfold LZ;refine gV (Jy q.typeIs ?_);rw [if_neg (by decide)]
 refine gV ?_;unfold Builtin.Dict.merge;refine gV ?_;unfold Builtin.Dict.readDirectly;refine gV (Jg q.typeIs isSubtype_dict_dict ?_);simp only [Bool.not_true,Iw,if_false];refine gV (Ni q.typeIs F.slot_dict_iter.lookup (hW ?_));simp only [beq_self_eq_true,if_true];refine gV (hW ?_);refine sR B z j q L hsz fun h' G J=>?_;show Hh _ _ (Oc s.heap.objs.size [] >>= _) _ _ _;exact gV (hW (hW ⟨rfl,h h' G J⟩))
end
noncomputable def ihI (is:List Int):Int:=reduceHash (Builtin.Tuple.tupleHashOf (is.map hashInt))
theorem E6 {P:HB} {w:HX} {is:List Int}:Ks (ar P w) (is.map LG)=ihI is:=by
 unfold Ks ihI;rw [Im];rfl
section
variable {X:Cx}
theorem pc:CallR X (.type "dict") (fun xs H Q=>∃ a ps,xs=[V.ref a]/\Rd H a (.dT ps)/\(∃ ts:List (List Int),ps.map (·.1)=ts.map (·.map LG)/\(ts.map ihI).Nodup) /\ ∀ p,H p=none->Q (.ref p) (upd H p (.dT ps))):=by
 intro pins s σ H xs us Q I r h;obtain ⟨a,ps,rfl,e,⟨ts,B,J⟩,q⟩:=h
 cases r with
 | cons L rr =>
 cases rr
 cases (show _=Ht a from L)
 obtain ⟨F,O,xs,kt,dd⟩:=eE I.hok e;have hx:xs.map (·.1)=ps.map (·.1):=by
  clear dd B e q F
  induction kt with
  | nil=>rfl
  | cons h t ih=>rw [Hj,Hj,ih,h.1]
 have j:(xs.map fun x=>Ks (ar X.prog X.w) x.1).Nodup:=by
  have:(xs.map fun x=>Ks (ar X.prog X.w) x.1)=ts.map ihI:=by
   rw [show (xs.map fun x=>Ks (ar X.prog X.w) x.1)=(xs.map (·.1)).map (Ks (ar X.prog X.w)) by rw [Im];rfl,hx,B,Im]
   exact IT fun is _=>E6
  rw [this];exact J
 have hlen:ps.length=xs.length:=JL kt;refine mU O dd j (by omega) fun h' hm hs=>?_
 have keep:∀ b u,s.heap.get? b=some u->h'.get? b=some u:=fun b u g=>hs.extBut b u (HJ (H0 g)) (h6 _ g);have G:H s.heap.objs.size=none:=I.hok.fresh (Hg _);obtain ⟨o,es,ep,h1,h2,U,Y,h5,Z⟩:=hm;refine ⟨.ref s.heap.objs.size,_,I.laid (a:=s.heap.objs.size) (o:=.dT ps) (t':=s.toks) keep (Hg _) ⟨F,beq_eq_false_iff_ne.mpr (Ne.symm (HJ I.big)),xs,kt.keeps fun b ys g=>?_,o,es,ep,h1,h2,U,Y,Z⟩,rfl,q _ G⟩;rw [ah (fun z=>by rw [z,G] at g;cases g)];exact g
end
namespace Mi
open L2.Srt
section
variable {X:Cx}
noncomputable def sU:RAd:=fun ds M Q=>∃ a kvs,ds=[.ref a]/\(M a=some (.dct true kvs)∨M a=some (.fdc kvs))/\(∃ ts:List (List Int),kvs.map (·.1)=ts.map (fun is=>.tup (is.map .int))/\(ts.map ihI).Nodup) /\ ∀ p,M p=none->Q (.ref p) (af M p (.dct true kvs))
theorem ph:aQ sU:=fun _ _ _ _ h ⟨a,kvs,e,j,z,q⟩=>⟨a,kvs,e,j,z,fun p n=>h _ _ (q p n)⟩
theorem zz:∀ {is:List Int} {ks:List Key},I8 RKey (is.map .int) ks->ks=is.map LG
 | [],_,h=>by cases h;rfl
 | i::is,_,h=>by
   cases h with
   | cons a b=>rw [Hj,<- zz b,show _=LG i from a]
theorem mw {K:Frag} {H:Hp}:∀ {kvs:List (D×D)} {ps:List (List Key×V)} {ts:List (List Int)},I8 (fun (p:D×D) (q:List Key×V)=>RKeys p.1 q.1/\RD K H p.2 q.2) kvs ps->kvs.map (·.1)=ts.map (fun is=>.tup (is.map .int))->ps.map (·.1)=ts.map (·.map LG)
 | _,_,ts,.nil,e=>by
   cases ts with
   | nil=>rfl
   | cons _ _=>cases e
 | _,_,ts,.cons (a:=kv) h t,e=>by
   cases ts with
   | nil=>cases e
   | cons is ts =>
     rw [Hj,Hj,L5] at e;rw [Hj,Hj,mw t e.2];have:=h.1;rw [e.1] at this;rw [zz this]
theorem sV:CallR X (.type "dict") (lR X.K sU):=by
 refine CallR.of pc fun vs H Q h=>?_;obtain ⟨ds,M,rm,rs,a,kvs,rfl,e,⟨ts,B,F⟩,q⟩:=h;obtain ⟨v,rfl,r⟩:=rs.one
 cases SE.mp r
 have G:∃ ps,Rd H a (.dT ps)/\I8 (fun (p:D×D) (q:List Key×V)=>RKeys p.1 q.1/\RD X.K H p.2 q.2) kvs ps:=by
  rcases e with e | e
  ·obtain ⟨ps,j,pr⟩:=rm a _ e;exact ⟨ps,.inl j,pr⟩
  ·obtain ⟨o,ps,j,pr⟩:=rm a _ e;exact ⟨ps,.inr ⟨o,j⟩,pr⟩
 obtain ⟨ps,J,pr⟩:=G;refine ⟨a,ps,rfl,J,⟨ts,mw pr B,F⟩,fun p n=>?_⟩;have st:Stab H (upd H p (.dT ps)):=(SN (M:=M) n).stab rm;exact q p (rm.out n) (.ref p) _ (Ext.lay n) (rm.lay n ⟨_,ao,SH pr fun _ _ z=>⟨z.1,z.2.mono st⟩⟩) (SE.mpr rfl)
end
end Mi
end
end L2
namespace L2
namespace Mi
open PySem PySem.Spec PyProof.Rows
end Mi
end L2
namespace L2
open PySem PySem.Spec PyProof.Rows
namespace Mi
end Mi
end L2
namespace L2
namespace Mi
open PySem PySem.Spec PyProof.Rows
section
mutual
noncomputable def GV (K:Frag):D->hH->Prop
 | .int i,v=>∃ t,v = .int i t
 | .str x,v=>∃ t,v = .str x t
 | .tup ds,v=>∃ a o its n,v = .ref a/\K.lookup a=some o/\o.cls = .type "tuple" /\ o.data = .seq its n/\its.size<=Hd/\fk ds=false/\GVs K ds its.toList
 | _,_=>False
noncomputable def GVs (K:Frag):List D->List hH->Prop
 | [],us=>us=[]
 | d::ds,us=>∃ u r,us=u::r/\GV K d u/\GVs K ds r
end
end
section
inductive BOp where | add | sub | mul | fdiv | mod | pow
inductive COp where | eq | ne | lt | gt | ge | is | isn | eqD | ninD
inductive BF where | len | abs | min2 | int | tuple | sum | dict | sortk | dcp | minP | listD
inductive MF where | append
inductive MF0 where | clear
mutual
inductive MG where
 | name (i:Nat)
 | tup (gs:MGs)
inductive MGs where
 | nil
 | cons (g:MG) (r:MGs)
end
mutual
inductive ME where
 | var (i:Nat)
 | int (i:Int)
 | bl (b:Bool)
 | non
 | bin (op:BOp) (a b:ME)
 | neg (a:ME)
 | cmp (op:COp) (a b:ME)
 | and (es:MEs)
 | or (es:MEs)
 | not (a:ME)
 | ite (c:MT) (a b:ME)
 | tup (es:MEs)
 | lst (es:MEs)
 | ix (a b:ME)
 | sl (a:ME) (lo hi:MO)
 | call (f:Nat) (es:MEs)
 | blt (f:BF) (es:MEs)
 | isin (a:ME) (T:String)
 | dnew (t:Bool)
 | sortI (a:ME)
 | dpop (o k x:ME)
 | dget (o k x:ME)
 | meth (m:MF) (o a:ME)
 | comp (fr:List (Option Nat)) (N:List Str) (c:MC)
inductive MEs where
 | nil
 | cons (e:ME) (r:MEs)
inductive MO where
 | none
 | some (e:ME)
inductive MT where
 | tru (e:ME)
 | cmp (op:COp) (a b:ME)
 | and (ts:MTs)
 | or (ts:MTs)
 | not (t:MT)
inductive MTs where
 | nil
 | cons (t:MT) (r:MTs)
inductive MI where
 | seq (e:ME)
 | rng1 (a:ME)
 | zip (a b:ME)
 | enum (a:ME)
 | keys (a:ME)
 | items (a:ME)
inductive MC where
 | last (src:MI) (g:MG) (ifs:MTs) (elt:ME)
 | more (src:MI) (g:MG) (ifs:MTs) (rest:MC)
end
mutual
inductive MS where
 | asg (g:MG) (e:ME)
 | par (i j:Nat) (a b:ME)
 | put2 (o i o' i' e:ME)
 | put (o i e:ME)
 | augI (o i:ME) (op:BOp) (e:ME)
 | drop (e:ME)
 | ret (e:ME)
 | ite (c:MT) (a b:MSs)
 | for (g:MG) (src:MI) (b:MSs)
 | while (c:MT) (b:MSs)
 | frz (i:Nat) (s:MS)
 | pass | brk | cnt
inductive MSs where
 | nil
 | cons (s:MS) (r:MSs)
end
noncomputable def opB:BOp->R2d
 | .add=>iT | .sub=>rX | .mul=>kH | .fdiv=>mW | .mod=>rY | .pow=>rZ
noncomputable def opC:COp->R2d
 | .eq=>wEq | .ne=>wNe | .lt=>wLt| .gt=>wGt | .ge=>wGe | .is=>wIs | .isn=>xW| .eqD=>sL| .ninD=>yj true
noncomputable def opF:BF->RAd
 | .len=>fY | .listD=>oV| .abs=>nP| .min2=>mX | .int=>nQ| .tuple=>nT | .sum=>si| .dict=>sJ | .sortk=>oS| .dcp=>sU| .minP=>sM
noncomputable def opM:MF->D->List D->Mem->QD->Prop
 | .append=>kK
noncomputable def CN:MF0->D->List D->Mem->QD->Prop
 | .clear=>Cp
noncomputable def opI:BOp->R2d
 | .add=>mZ | .sub=>n6 | .mul=>nc | _=>fun _ _ _ _=>False
theorem pi:∀ o,aB (opB o)
 | .add=>xo | .sub=>xp | .mul=>xr | .fdiv=>ue | .mod=>xt | .pow=>xu
theorem fJ:∀ o,aB (opC o)
 | .eq=>Ad | .ne=>Ae | .lt=>Ah| .gt=>Ai | .ge=>Aj | .is=>AF | .isn=>xX| .eqD=>ye| .ninD=>yk
theorem yq:∀ o,aQ (opF o)
 | .len=>nO | .listD=>kb| .abs=>nR| .min2=>lJ | .int=>nS| .tuple=>jB | .sum=>nV| .dict=>mn | .sortk=>jZ| .dcp=>ph| .minP=>mq
theorem yr:∀ o,mY (opM o)
 | .append=>iE
theorem yt:∀ o,aB (opI o)
 | .add=>lQ | .sub=>lU | .mul=>lV
 | .fdiv=>fun _ _ _ _ _ _ q=>q.elim | .mod=>fun _ _ _ _ _ _ q=>q.elim | .pow=>fun _ _ _ _ _ _ q=>q.elim
noncomputable abbrev Phi:=Nat->RAd
mutual
noncomputable def bG:MG->BT
 | .name i=>ce i
 | .tup gs=>oh (bGs gs)
noncomputable def bGs:MGs->BTs
 | .nil=>fZ
 | .cons g r=>bV (bG g) (bGs r)
end
mutual
noncomputable def wE (Φ:Phi):ME->TEd
 | .var i=>iQ i
 | .int i=>wC (.int i)
 | .bl b=>wC (.bl b)
 | .non=>wC .non
 | .bin op a b=>wOp (opB op) (wE Φ a) (wE Φ b)
 | .neg a=>wUn s9 (wE Φ a)
 | .cmp op a b=>wOp (opC op) (wE Φ a) (wE Φ b)
 | .and es=>wAnds Φ es
 | .or es=>wOrs Φ es
 | .not a=>jF (wE Φ a)
 | .ite c a b=>wIf (wT Φ c) (wE Φ a) (wE Φ b)
 | .tup es=>wAr nJ (wA Φ es)
 | .lst es=>wAr nK (wA Φ es)
 | .ix a b=>wOp wIx (wE Φ a) (wE Φ b)
 | .sl a lo hi=>wSl (wE Φ a) (wO Φ lo) (wO Φ hi)
 | .call f es=>wAr (Φ f) (wA Φ es)
 | .blt f es=>wAr (opF f) (wA Φ es)
 | .isin a T=>jH T (wE Φ a)
 | .dnew t=>jP t
 | .sortI a=>gu (wE Φ a)
 | .dpop o k x=>nh (wE Φ o) (wE Φ k) (wE Φ x)
 | .dget o k x=>jW (wE Φ o) (wE Φ k) (wE Φ x)
 | .meth m o a=>wBM (opM m) (wE Φ o) (bq (wE Φ a) cy)
 | .comp fr _ c=>wCmp Φ fr c
noncomputable def wA (Φ:Phi):MEs->TAd
 | .nil=>cy
 | .cons e r=>bq (wE Φ e) (wA Φ r)
noncomputable def wAnds (Φ:Phi):MEs->TEd
 | .nil=>fun _ _ _=>False
 | .cons e .nil=>wE Φ e
 | .cons e (.cons f r)=>jE (wE Φ e) (wAnds Φ (.cons f r))
noncomputable def wOrs (Φ:Phi):MEs->TEd
 | .nil=>fun _ _ _=>False
 | .cons e .nil=>wE Φ e
 | .cons e (.cons f r)=>nZ (wE Φ e) (wOrs Φ (.cons f r))
noncomputable def wO (Φ:Phi):MO->TOd
 | .none=>eY
 | .some e=>jG (wE Φ e)
noncomputable def wT (Φ:Phi):MT->TTd
 | .tru e=>nX (wE Φ e)
 | .cmp op a b=>iR (wOp (opC op) (wE Φ a) (wE Φ b))
 | .and ts=>wAndTs Φ ts
 | .or ts=>wOrTs Φ ts
 | .not t=>jC (wT Φ t)
noncomputable def wAndTs (Φ:Phi):MTs->TTd
 | .nil=>fun _ _ _=>False
 | .cons e .nil=>wT Φ e
 | .cons e (.cons f r)=>jD (wT Φ e) (wAndTs Φ (.cons f r))
noncomputable def wOrTs (Φ:Phi):MTs->TTd
 | .nil=>fun _ _ _=>False
 | .cons e .nil=>wT Φ e
 | .cons e (.cons f r)=>nY (wT Φ e) (wOrTs Φ (.cons f r))
noncomputable def wTl (Φ:Phi):MTs->List TTd
 | .nil=>[]
 | .cons t r=>wT Φ t::wTl Φ r
noncomputable def wI (Φ:Phi):MI->TId
 | .seq e=>oi (wE Φ e)
 | .rng1 a=>jI (bq (wE Φ a) cy)
 | .zip a b=>oj (wE Φ a) (wE Φ b)
 | .enum a=>jK (wE Φ a)
 | .keys a=>ka (wE Φ a)
 | .items a=>gy (wE Φ a)
noncomputable def wCl (Φ:Phi):MC->TCd
 | .last src g ifs elt=>dF (wI Φ src) (bG g) (br (wTl Φ ifs) (eG (wE Φ elt)))
 | .more src g ifs rest=>dF (wI Φ src) (bG g) (br (wTl Φ ifs) (wCl Φ rest))
noncomputable def wCmp (Φ:Phi) (fr:List (Option Nat)):MC->TEd
 | .last src g ifs elt=>gW fr (wI Φ src) (bG g) (br (wTl Φ ifs) (eG (wE Φ elt)))
 | .more src g ifs rest=>gW fr (wI Φ src) (bG g) (br (wTl Φ ifs) (wCl Φ rest))
end
mutual
noncomputable def wS (Φ:Phi):MS->TSd
 | .asg g e=>iW (wE Φ e) (bG g)
 | .par i j a b=>oz (bq (wE Φ a) (bq (wE Φ b) cy)) (bV (ce i) (bV (ce j) fZ))
 | .put2 o i o' i' e=>ni (wE Φ e) (wE Φ o) (wE Φ i) (wE Φ o') (wE Φ i')
 | .put o i e=>oB (wE Φ e) (wE Φ o) (wE Φ i)
 | .augI o i op e=>jO (wE Φ o) (wE Φ i) (wE Φ e) (opI op)
 | .drop e=>jN (wE Φ e)
 | .ret e=>ox (wE Φ e)
 | .ite c a b=>sIf (wT Φ c) (wSs Φ a) (wSs Φ b)
 | .for g src b=>oA (wI Φ src) (bG g) (wSs Φ b)
 | .while c b=>gf (wT Φ c) (wSs Φ b)
 | .frz i s=>sK i (wS Φ s)
 | .pass=>gX
 | .brk=>gd
 | .cnt=>jM
noncomputable def wSs (Φ:Phi):MSs->TSd
 | .nil=>gX
 | .cons s r=>ow (wS Φ s) (wSs Φ r)
end
section
variable {Φ:Phi} (hΦ:∀ f,aQ (Φ f))
include hΦ
mutual
theorem mE:∀ m,ad (wE Φ m)
 | .var _=>xj
 | .int _=>nI
 | .bl _=>nI
 | .non=>nI
 | .bin op a b=>eW (pi op) (mE a) (mE b)
 | .neg a=>Aa nM (mE a)
 | .cmp op a b=>eW (fJ op) (mE a) (mE b)
 | .and es=>mAnds es
 | .or es=>mOrs es
 | .not a=>uj (mE a)
 | .ite c a b=>Ap (mT c) (mE a) (mE b)
 | .tup es=>gQ ub (mA es)
 | .lst es=>gQ uc (mA es)
 | .ix a b=>eW qD (mE a) (mE b)
 | .sl a lo hi=>As (mE a) (mO lo) (mO hi)
 | .call f es=>gQ (hΦ f) (mA es)
 | .blt f es=>gQ (yq f) (mA es)
 | .isin a T=>uo (mE a)
 | .dnew _=>uM
 | .sortI a=>sD (mE a)
 | .dpop o k x=>vw (mE o) (mE k) (mE x)
 | .dget o k x=>vc (mE o) (mE k) (mE x)
 | .meth m o a=>Ax (yr m) (mE o) (aH (mE a) aI)
 | .comp fr _ c=>mCmp fr c
theorem mA:∀ m,bn (wA Φ m)
 | .nil=>aI
 | .cons e r=>aH (mE e) (mA r)
theorem mAnds:∀ m,ad (wAnds Φ m)
 | .nil=>fun _ _ _ _ _ q=>q.elim
 | .cons e .nil=>mE e
 | .cons e (.cons f r)=>ui (mE e) (mAnds (.cons f r))
theorem mOrs:∀ m,ad (wOrs Φ m)
 | .nil=>fun _ _ _ _ _ q=>q.elim
 | .cons e .nil=>mE e
 | .cons e (.cons f r)=>xG (mE e) (mOrs (.cons f r))
theorem mO:∀ m,fC (wO Φ m)
 | .none=>qg
 | .some e=>um (mE e)
theorem mT:∀ m,aE (wT Φ m)
 | .tru e=>xE (mE e)
 | .cmp op a b=>xk (eW (fJ op) (mE a) (mE b))
 | .and ts=>mAndTs ts
 | .or ts=>mOrTs ts
 | .not t=>ug (mT t)
theorem mAndTs:∀ m,aE (wAndTs Φ m)
 | .nil=>fun _ _ _ _ _ q=>q.elim
 | .cons e .nil=>mT e
 | .cons e (.cons f r)=>uh (mT e) (mAndTs (.cons f r))
theorem mOrTs:∀ m,aE (wOrTs Φ m)
 | .nil=>fun _ _ _ _ _ q=>q.elim
 | .cons e .nil=>mT e
 | .cons e (.cons f r)=>xF (mT e) (mOrTs (.cons f r))
theorem mTl:∀ m,∀ t∈wTl Φ m,aE t
 | .nil=>by rw [wTl];intro t j;simp at j
 | .cons t r=>by
  rw [wTl];intro t' j
  rcases He.mp j with e | e
  ·rw [e];exact mT t
  ·exact mTl r t' e
theorem mI:∀ m,bW (wI Φ m)
 | .seq e=>xK (mE e)
 | .rng1 a=>uu (aH (mE a) aI)
 | .zip a b=>xL (mE a) (mE b)
 | .enum a=>uw (mE a)
 | .keys a=>vg (mE a)
 | .items a=>sQ (mE a)
theorem mCl:∀ m,bX (wCl Φ m)
 | .last src g ifs elt=>iF (mI src) (aJ (bA (mE elt)) (mTl ifs))
 | .more src g ifs rest=>iF (mI src) (aJ (mCl rest) (mTl ifs))
theorem mCmp (fr:List (Option Nat)):∀ m,ad (wCmp Φ fr m)
 | .last src g ifs elt=>lK (mI src) (aJ (bA (mE elt)) (mTl ifs))
 | .more src g ifs rest=>lK (mI src) (aJ (mCl rest) (mTl ifs))
end
mutual
theorem mS:∀ m,aC (wS Φ m)
 | .asg g e=>xO (mE hΦ e)
 | .par i j a b=>xP (aH (mE hΦ a) (aH (mE hΦ b) aI))
 | .put2 o i o' i' e=>vx (mE hΦ e) (mE hΦ o) (mE hΦ i) (mE hΦ o') (mE hΦ i')
 | .put o i e=>xV (mE hΦ e) (mE hΦ o) (mE hΦ i)
 | .augI o i op e=>uK (mE hΦ o) (mE hΦ i) (mE hΦ e) (yt op)
 | .drop e=>uB (mE hΦ e)
 | .ret e=>xM (mE hΦ e)
 | .ite c a b=>xN (mT hΦ c) (mSs a) (mSs b)
 | .for g src b=>xQ (mI hΦ src) (mSs b)
 | .while c b=>sv (mT hΦ c) (mSs b)
 | .frz i s=>yd (mS s)
 | .pass=>lM
 | .brk=>su
 | .cnt=>uz
theorem mSs:∀ m,aC (wSs Φ m)
 | .nil=>lM
 | .cons s r=>uA (mS s) (mSs r)
end
end
end
section
structure Ctx where
 Γ:List Str
 N:List Str
 sc:Scope
 fn:List Str
 cs:List (Str×D)
noncomputable def glB (sc:Scope) (x:Str):Bool:=sc.names.lookup x==some .globalImplicit
noncomputable def yu (sc:Scope) (x:Str):Bool:=sc.names.lookup x==some .local || sc.names.lookup x==some .cell || sc.names.lookup x==some .free
noncomputable def yv (sc:Scope) (x:Str):Bool:=sc.names.lookup x==some .local || sc.names.lookup x==some .cell
noncomputable def aM:Expr->Bool
 | .Starred ..=>false
 | _=>true
noncomputable def pj:Expr->Bool
 | .Name .. | .Call .. | .Subscript .. | .Constant .. | .BinOp .. | .Attribute ..=>true
 | _=>false
noncomputable def bw:Expr->Bool
 | .Slice ..=>false
 | _=>true
noncomputable def fg:Expr->Bool
 | .ListComp .. | .SetComp .. | .DictComp ..=>false
 | _=>true
noncomputable def ke:Expr->Bool
 | .Set ..=>false
 | _=>true
noncomputable def cK:Expr->Bool
 | .Call ..=>false
 | _=>true
noncomputable def opO:BOp->Mc
 | .add=>.Add | .sub=>.Sub | .mul=>.Mult | .fdiv=>.FloorDiv | .mod=>.Mod | .pow=>.Pow
noncomputable def yw:COp->CmpOp
 | .eq=>.Eq | .ne=>.NotEq | .lt=>.Lt| .gt=>.Gt | .ge=>.GtE | .is=>.Is | .isn=>.IsNot| .eqD=>.Eq| .ninD=>.NotIn
noncomputable def pA:BF->Str
 | .len=>"len" | .listD=>"list"| .abs=>"abs"| .min2=>"min" | .int=>"int"| .tuple=>"tuple" | .sum=>"sum"| .dict=>"dict" | .sortk=>"sorted"| .dcp=>"dict"| .minP=>"min"
noncomputable def CO:MF->Str
 | .append=>"append"
noncomputable def bltNames:List Str:=["len","abs","max","min","int","list","tuple","sum","isinstance","range","bool","str","dict","zip","enumerate","reversed","sorted","all","any","set"]
noncomputable def j7 (sc osc:Scope):Scope :=
 { sc with names:=sc.names.map fun (n,k)=>if (k == .free&&osc.kind == .function&&osc.names.lookup n==some .cell) then (n,.cell) else (n,k) }
theorem qp (sc:Scope) (env:Env):relabel sc env=j7 sc env.scope:=rfl
noncomputable def yz (sc osc:Scope) (oN N':List Str) (fr:List (Option Nat)):Bool :=
 decide (sc.kind = .function)&&decide ((sc.names.map (·.1)).Nodup)&&decide (N'.Nodup)
  && sc.names.all (fun x=>!(x.2 == .free) || osc.names.lookup x.1==some .cell || osc.names.lookup x.1==some .free)
  && decide (fr.length=N'.length)
  && (IV N'.length).all fun i=>match fr[i]?,N'[i]? with
   | some (some j),some x=>decide (oN[j]? = some x)&&sc.names.any (fun y=>decide (y=(x,Ib)))
   | _,_=>true
theorem pk {p:Prop} [d:Decidable p] {t:p->Bool} (h:dite p t (fun _=>false)=true):∃ c,t c=true:=by
 cases d with
 | isTrue c=>exact ⟨c,h⟩
 | isFalse c=>cases h
noncomputable def fK (e:Expr) (f:Str->Pos->Bool):Bool:=if h:e.ctorIdx=23 then @Ss.elim (fun _=>Bool) e h f else false
@[elab_as_elim]
theorem i9 {P:Expr->Prop} (e:Expr) {f:Str->Pos->Bool} (h:fK e f=true) (k:∀ a b,f a b=true->P (.Name a b)):P e :=
 (pk h).elim fun c=>@Ss.elim (fun e=>∀ c,@Ss.elim (fun _=>Bool) e c f=true->P e) e c (fun a b _ h=>k a b h) c
noncomputable def eO (e:Expr) (f:Const->Nat->Pos->Bool):Bool:=if h:e.ctorIdx=19 then @Qa.elim (fun _=>Bool) e h f else false
@[elab_as_elim]
theorem gA {P:Expr->Prop} (e:Expr) {f:Const->Nat->Pos->Bool} (h:eO e f=true) (k:∀ a b c,f a b c=true->P (.Constant a b c)):P e :=
 (pk h).elim fun c=>@Qa.elim (fun e=>∀ c,@Qa.elim (fun _=>Bool) e c f=true->P e) e c (fun a b c _ h=>k a b c h) c
noncomputable def vz (e:Expr) (f:Expr->Mc->Expr->Pos->Bool):Bool:=if h:e.ctorIdx=2 then @Sk.elim (fun _=>Bool) e h f else false
@[elab_as_elim]
theorem CP {P:Expr->Prop} (e:Expr) {f:Expr->Mc->Expr->Pos->Bool} (h:vz e f=true) (k:∀ a b c d,f a b c d=true->P (.BinOp a b c d)):P e :=
 (pk h).elim fun c=>@Sk.elim (fun e=>∀ c,@Sk.elim (fun _=>Bool) e c f=true->P e) e c (fun a b c d _ h=>k a b c d h) c
noncomputable def fL (e:Expr) (f:UnaryOp->Expr->Pos->Bool):Bool:=if h:e.ctorIdx=3 then @QZ.elim (fun _=>Bool) e h f else false
@[elab_as_elim]
theorem j8 {P:Expr->Prop} (e:Expr) {f:UnaryOp->Expr->Pos->Bool} (h:fL e f=true) (k:∀ a b c,f a b c=true->P (.UnaryOp a b c)):P e :=
 (pk h).elim fun c=>@QZ.elim (fun e=>∀ c,@QZ.elim (fun _=>Bool) e c f=true->P e) e c (fun a b c _ h=>k a b c h) c
noncomputable def j9 (e:Expr) (f:Expr->List CmpOp->List Expr->Pos->Bool):Bool:=if h:e.ctorIdx=15 then @R0.elim (fun _=>Bool) e h f else false
@[elab_as_elim]
theorem pB {P:Expr->Prop} (e:Expr) {f:Expr->List CmpOp->List Expr->Pos->Bool} (h:j9 e f=true) (k:∀ a b c d,f a b c d=true->P (.Compare a b c d)):P e :=
 (pk h).elim fun c=>@R0.elim (fun e=>∀ c,@R0.elim (fun _=>Bool) e c f=true->P e) e c (fun a b c d _ h=>k a b c d h) c
noncomputable def fh (e:Expr) (f:BoolOp->List Expr->Pos->Bool):Bool:=if h:e.ctorIdx=0 then @RJ.elim (fun _=>Bool) e h f else false
@[elab_as_elim]
theorem ic {P:Expr->Prop} (e:Expr) {f:BoolOp->List Expr->Pos->Bool} (h:fh e f=true) (k:∀ a b c,f a b c=true->P (.BoolOp a b c)):P e :=
 (pk h).elim fun c=>@RJ.elim (fun e=>∀ c,@RJ.elim (fun _=>Bool) e c f=true->P e) e c (fun a b c _ h=>k a b c h) c
noncomputable def vA (e:Expr) (f:Expr->Expr->Expr->Pos->Bool):Bool:=if h:e.ctorIdx=5 then @Sl.elim (fun _=>Bool) e h f else false
@[elab_as_elim]
theorem CQ {P:Expr->Prop} (e:Expr) {f:Expr->Expr->Expr->Pos->Bool} (h:vA e f=true) (k:∀ a b c d,f a b c d=true->P (.IfExp a b c d)):P e :=
 (pk h).elim fun c=>@Sl.elim (fun e=>∀ c,@Sl.elim (fun _=>Bool) e c f=true->P e) e c (fun a b c d _ h=>k a b c d h) c
noncomputable def cB (e:Expr) (f:List Expr->Nat->Pos->Bool):Bool:=if h:e.ctorIdx=25 then @Sm.elim (fun _=>Bool) e h f else false
@[elab_as_elim]
theorem cZ {P:Expr->Prop} (e:Expr) {f:List Expr->Nat->Pos->Bool} (h:cB e f=true) (k:∀ a b c,f a b c=true->P (.Tuple a b c)):P e :=
 (pk h).elim fun c=>@Sm.elim (fun e=>∀ c,@Sm.elim (fun _=>Bool) e c f=true->P e) e c (fun a b c _ h=>k a b c h) c
noncomputable def zA (e:Expr) (f:List Expr->Pos->Bool):Bool:=if h:e.ctorIdx=24 then @Sw.elim (fun _=>Bool) e h f else false
@[elab_as_elim]
theorem E7 {P:Expr->Prop} (e:Expr) {f:List Expr->Pos->Bool} (h:zA e f=true) (k:∀ a b,f a b=true->P (.List a b)):P e :=
 (pk h).elim fun c=>@Sw.elim (fun e=>∀ c,@Sw.elim (fun _=>Bool) e c f=true->P e) e c (fun a b _ h=>k a b h) c
noncomputable def bF (e:Expr) (f:Expr->Expr->Pos->Bool):Bool:=if h:e.ctorIdx=21 then @PF.elim (fun _=>Bool) e h f else false
@[elab_as_elim]
theorem bY {P:Expr->Prop} (e:Expr) {f:Expr->Expr->Pos->Bool} (h:bF e f=true) (k:∀ a b c,f a b c=true->P (.Subscript a b c)):P e :=
 (pk h).elim fun c=>@PF.elim (fun e=>∀ c,@PF.elim (fun _=>Bool) e c f=true->P e) e c (fun a b c _ h=>k a b c h) c
noncomputable def sW (e:Expr) (f:Expr->List Expr->List OK->Pos->Bool):Bool:=if h:e.ctorIdx=16 then @Sx.elim (fun _=>Bool) e h f else false
@[elab_as_elim]
theorem zB {P:Expr->Prop} (e:Expr) {f:Expr->List Expr->List OK->Pos->Bool} (h:sW e f=true) (k:∀ a b c d,f a b c d=true->P (.Call a b c d)):P e :=
 (pk h).elim fun c=>@Sx.elim (fun e=>∀ c,@Sx.elim (fun _=>Bool) e c f=true->P e) e c (fun a b c d _ h=>k a b c d h) c
noncomputable def kf (e:Expr) (f:Expr->Str->Pos->Bool):Bool:=if h:e.ctorIdx=20 then @PH.elim (fun _=>Bool) e h f else false
@[elab_as_elim]
theorem sX {P:Expr->Prop} (e:Expr) {f:Expr->Str->Pos->Bool} (h:kf e f=true) (k:∀ a b c,f a b c=true->P (.Attribute a b c)):P e :=
 (pk h).elim fun c=>@PH.elim (fun e=>∀ c,@PH.elim (fun _=>Bool) e c f=true->P e) e c (fun a b c _ h=>k a b c h) c
noncomputable def vB (e:Expr) (f:Option Expr->Option Expr->Option Expr->Pos->Bool):Bool:=if h:e.ctorIdx=26 then @Sn.elim (fun _=>Bool) e h f else false
@[elab_as_elim]
theorem CS {P:Expr->Prop} (e:Expr) {f:Option Expr->Option Expr->Option Expr->Pos->Bool} (h:vB e f=true) (k:∀ a b c d,f a b c d=true->P (.Slice a b c d)):P e :=
 (pk h).elim fun c=>@Sn.elim (fun e=>∀ c,@Sn.elim (fun _=>Bool) e c f=true->P e) e c (fun a b c d _ h=>k a b c d h) c
noncomputable def mz (e:Expr) (f:Expr->List ID->Scope->Pos->Bool):Bool:=if h:e.ctorIdx=8 then @Qb.elim (fun _=>Bool) e h f else false
@[elab_as_elim]
theorem vC {P:Expr->Prop} (e:Expr) {f:Expr->List ID->Scope->Pos->Bool} (h:mz e f=true) (k:∀ a b c d,f a b c d=true->P (.ListComp a b c d)):P e :=
 (pk h).elim fun c=>@Qb.elim (fun e=>∀ c,@Qb.elim (fun _=>Bool) e c f=true->P e) e c (fun a b c d _ h=>k a b c d h) c
noncomputable def zC (e:Expr) (f:List (Option Expr)->List Expr->Pos->Bool):Bool:=if h:e.ctorIdx=6 then @Sy.elim (fun _=>Bool) e h f else false
@[elab_as_elim]
theorem E8 {P:Expr->Prop} (e:Expr) {f:List (Option Expr)->List Expr->Pos->Bool} (h:zC e f=true) (k:∀ a b c,f a b c=true->P (.Dict a b c)):P e :=
 (pk h).elim fun c=>@Sy.elim (fun e=>∀ c,@Sy.elim (fun _=>Bool) e c f=true->P e) e c (fun a b c _ h=>k a b c h) c
noncomputable def ee (e:Stmt) (f:List Expr->Expr->Pos->Bool):Bool:=if h:e.ctorIdx=5 then @RL.elim (fun _=>Bool) e h f else false
@[elab_as_elim]
theorem fM {P:Stmt->Prop} (e:Stmt) {f:List Expr->Expr->Pos->Bool} (h:ee e f=true) (k:∀ a b c,f a b c=true->P (.Assign a b c)):P e :=
 (pk h).elim fun c=>@RL.elim (fun e=>∀ c,@RL.elim (fun _=>Bool) e c f=true->P e) e c (fun a b c _ h=>k a b c h) c
noncomputable def iH (e:Stmt) (f:Expr->Mc->Expr->Pos->Bool):Bool:=if h:e.ctorIdx=7 then @PJ.elim (fun _=>Bool) e h f else false
@[elab_as_elim]
theorem qq {P:Stmt->Prop} (e:Stmt) {f:Expr->Mc->Expr->Pos->Bool} (h:iH e f=true) (k:∀ a b c d,f a b c d=true->P (.AugAssign a b c d)):P e :=
 (pk h).elim fun c=>@PJ.elim (fun e=>∀ c,@PJ.elim (fun _=>Bool) e c f=true->P e) e c (fun a b c d _ h=>k a b c d h) c
noncomputable def vD (e:Stmt) (f:Expr->Pos->Bool):Bool:=if h:e.ctorIdx=24 then @Sz.elim (fun _=>Bool) e h f else false
@[elab_as_elim]
theorem CT {P:Stmt->Prop} (e:Stmt) {f:Expr->Pos->Bool} (h:vD e f=true) (k:∀ a b,f a b=true->P (.Expr a b)):P e :=
 (pk h).elim fun c=>@Sz.elim (fun e=>∀ c,@Sz.elim (fun _=>Bool) e c f=true->P e) e c (fun a b _ h=>k a b h) c
noncomputable def pC (e:Stmt) (f:Option Expr->Pos->Bool):Bool:=if h:e.ctorIdx=3 then @RN.elim (fun _=>Bool) e h f else false
@[elab_as_elim]
theorem yA {P:Stmt->Prop} (e:Stmt) {f:Option Expr->Pos->Bool} (h:pC e f=true) (k:∀ a b,f a b=true->P (.Return a b)):P e :=
 (pk h).elim fun c=>@RN.elim (fun e=>∀ c,@RN.elim (fun _=>Bool) e c f=true->P e) e c (fun a b _ h=>k a b h) c
noncomputable def CU (e:Stmt) (f:Expr->List Stmt->List Stmt->Pos->Bool):Bool:=if h:e.ctorIdx=12 then @Stmt.If.elim (fun _=>Bool) e h f else false
@[elab_as_elim]
theorem EK {P:Stmt->Prop} (e:Stmt) {f:Expr->List Stmt->List Stmt->Pos->Bool} (h:CU e f=true) (k:∀ a b c d,f a b c d=true->P (.If a b c d)):P e :=
 (pk h).elim fun c=>@Stmt.If.elim (fun e=>∀ c,@Stmt.If.elim (fun _=>Bool) e c f=true->P e) e c (fun a b c d _ h=>k a b c d h) c
noncomputable def zD (e:Stmt) (f:Expr->Expr->List Stmt->List Stmt->Pos->Bool):Bool:=if h:e.ctorIdx=9 then @Stmt.For.elim (fun _=>Bool) e h f else false
@[elab_as_elim]
theorem E9 {P:Stmt->Prop} (e:Stmt) {f:Expr->Expr->List Stmt->List Stmt->Pos->Bool} (h:zD e f=true) (k:∀ a b c d e,f a b c d e=true->P (.For a b c d e)):P e :=
 (pk h).elim fun c=>@Stmt.For.elim (fun e=>∀ c,@Stmt.For.elim (fun _=>Bool) e c f=true->P e) e c (fun a b c d e _ h=>k a b c d e h) c
noncomputable def qQ (e:Stmt) (f:Expr->List Stmt->List Stmt->Pos->Bool):Bool:=if h:e.ctorIdx=11 then @So.elim (fun _=>Bool) e h f else false
@[elab_as_elim]
theorem AZ {P:Stmt->Prop} (e:Stmt) {f:Expr->List Stmt->List Stmt->Pos->Bool} (h:qQ e f=true) (k:∀ a b c d,f a b c d=true->P (.While a b c d)):P e :=
 (pk h).elim fun c=>@So.elim (fun e=>∀ c,@So.elim (fun _=>Bool) e c f=true->P e) e c (fun a b c d _ h=>k a b c d h) c
noncomputable def vE (e:Stmt) (f:Pos->Bool):Bool:=if h:e.ctorIdx=25 then @SA.elim (fun _=>Bool) e h f else false
@[elab_as_elim]
theorem CV {P:Stmt->Prop} (e:Stmt) {f:Pos->Bool} (h:vE e f=true) (k:∀ a,f a=true->P (.Pass a)):P e :=
 (pk h).elim fun c=>@SA.elim (fun e=>∀ c,@SA.elim (fun _=>Bool) e c f=true->P e) e c (fun a _ h=>k a h) c
noncomputable def qR (e:Stmt) (f:Pos->Bool):Bool:=if h:e.ctorIdx=26 then @Sr.elim (fun _=>Bool) e h f else false
@[elab_as_elim]
theorem B0 {P:Stmt->Prop} (e:Stmt) {f:Pos->Bool} (h:qR e f=true) (k:∀ a,f a=true->P (.Break a)):P e :=
 (pk h).elim fun c=>@Sr.elim (fun e=>∀ c,@Sr.elim (fun _=>Bool) e c f=true->P e) e c (fun a _ h=>k a h) c
noncomputable def kg (e:Stmt) (f:Pos->Bool):Bool:=if h:e.ctorIdx=27 then @Qc.elim (fun _=>Bool) e h f else false
@[elab_as_elim]
theorem sY {P:Stmt->Prop} (e:Stmt) {f:Pos->Bool} (h:kg e f=true) (k:∀ a,f a=true->P (.Continue a)):P e :=
 (pk h).elim fun c=>@Qc.elim (fun e=>∀ c,@Qc.elim (fun _=>Bool) e c f=true->P e) e c (fun a _ h=>k a h) c
noncomputable def lv0 {α:Type} (xs:List α) (b:Bool):Bool:=xs.isEmpty&&b
noncomputable def lvc {α:Type} (xs:List α) (f : α -> List α -> Bool):Bool:=match xs with
 | y::r=>f y r
 | []=>false
noncomputable def lv1 {α:Type} (xs:List α) (f : α -> Bool):Bool:=lvc xs fun y r=>lv0 r (f y)
noncomputable def lv2 {α:Type} (xs:List α) (f : α -> α -> Bool):Bool:=lvc xs fun y r=>lv1 r (f y)
noncomputable def os {α:Type} (o:Option α) (f : α -> Bool):Bool:=match o with
 | some x=>f x
 | none=>false
noncomputable def on {α:Type} (o:Option α) (b:Bool):Bool:=o.isNone&&b
@[elab_as_elim]
theorem fN {α:Type} {P:List α -> Prop} (xs:List α) {b:Bool} (h:lv0 xs b=true) (k:b=true->P []):P xs:=by
 cases xs with
 | nil=>exact k h
 | cons _ _=>cases h
@[elab_as_elim]
theorem CW {α:Type} {P:List α -> Prop} (xs:List α) {f : α -> List α -> Bool} (h:lvc xs f=true) (k:∀ y r,f y r=true->P (y::r)):P xs:=by
 cases xs with
 | nil=>cases h
 | cons y r=>exact k y r h
@[elab_as_elim]
theorem cL {α:Type} {P:List α -> Prop} (xs:List α) {f : α -> Bool} (h:lv1 xs f=true) (k:∀ y,f y=true->P [y]):P xs :=
 CW xs h fun y r h=>fN r h fun h=>k y h
@[elab_as_elim]
theorem ja {α:Type} {P:List α -> Prop} (xs:List α) {f : α -> α -> Bool} (h:lv2 xs f=true) (k:∀ y z,f y z=true->P [y,z]):P xs :=
 CW xs h fun y r h=>cL r h fun z h=>k y z h
@[elab_as_elim]
theorem jos {α:Type} {P:Option α -> Prop} (o:Option α) {f : α -> Bool} (h:os o f=true) (k:∀ x,f x=true->P (some x)):P o:=by
 cases o with
 | none=>cases h
 | some x=>exact k x h
@[elab_as_elim]
theorem jon {α:Type} {P:Option α -> Prop} (o:Option α) {b:Bool} (h:on o b=true) (k:b=true->P none):P o:=by
 cases o with
 | none=>exact k h
 | some x=>cases h
theorem bP {a b:Bool} (h:(a&&b)=true):a=true/\b=true:=by rwa [z4] at h
noncomputable def de (e:Expr) (g:Str->List Expr->Bool):Bool:=sW e fun f xs ks _=>lv0 ks (fK f fun x _=>g x xs)
@[elab_as_elim]
theorem ef {P:Expr->Prop} (e:Expr) {g:Str->List Expr->Bool} (h:de e g=true) (k:∀ x xs p pos,g x xs=true->P (.Call (.Name x p) xs [] pos)):P e :=
 zB e h fun f xs ks pos h=>fN ks h fun h=>i9 f h fun x p h=>k x xs p pos h
noncomputable def ie (e:Expr) (g:Expr->Str->List Expr->Pos->Pos->Bool):Bool:=sW e fun f xs ks p=>lv0 ks (kf f fun o n q=>g o n xs q p)
@[elab_as_elim]
theorem kh {P:Expr->Prop} (e:Expr) {g:Expr->Str->List Expr->Pos->Pos->Bool} (h:ie e g=true) (k:∀ o n xs q p,g o n xs q p=true->P (.Call (.Attribute o n q) xs [] p)):P e :=
 zB e h fun f xs ks pos h=>fN ks h fun h=>sX f h fun o n q h=>k o n xs q pos h
noncomputable def iSl (e:Expr) (g:Expr->Option Expr->Option Expr->Option Expr->Bool):Bool:=bF e fun x y _=>vB y fun l u s _=>g x l u s
@[elab_as_elim]
theorem jSl {P:Expr->Prop} (e:Expr) {g:Expr->Option Expr->Option Expr->Option Expr->Bool} (h:iSl e g=true) (k:∀ x l u s p pos,g x l u s=true->P (.Subscript x (.Slice l u s p) pos)):P e :=
 bY e h fun x y pos h=>CS y h fun l u s p h=>k x l u s p pos h
mutual
noncomputable def okG:MG->Ctx->Expr->Bool
 | .name i,C,e=>fK e fun x _=>decide (C.N[i]? = some x)&&yv C.sc x&&(C.sc.names.lookup x==some .local || C.fn.contains x)
 | .tup gs,C,e=>cB e fun es _ _=>okGs gs C es
noncomputable def okGs:MGs->Ctx->List Expr->Bool
 | .nil,_,es=>es.isEmpty
 | .cons g r,C,es=>match es with
  | e::es=>aM e&&okG g C e&&okGs r C es
  | []=>false
end
mutual
noncomputable def okE:ME->Ctx->Expr->Bool
 | .var i,C,e=>fK e fun x _=>decide (C.N[i]? = some x)&&yu C.sc x && !(x==("__debug__":Str)) && !(x==("__classdict__":Str))
 | .int i,_,e=>eO e fun c _ _=>decide (c = .int i)
 | .bl i,_,e=>eO e fun c _ _=>decide (c = .bool i)
 | .non,_,e=>eO e fun c _ _=>decide (c = .none)
 | .bin op a b,C,e=>vz e fun l o r _=>decide (o=opO op)&&okE a C l&&okE b C r
 | .neg a,C,e=>fL e fun o x _=>decide (o = .USub)&&okE a C x
 | .cmp op a b,C,e=>j9 e fun l os rs _=>lv1 os fun o=>lv1 rs fun r=>decide (o=yw op)&&okE a C l&&okE b C r && !(Ly o r)
 | .and es,C,e=>fh e fun o xs _=>decide (o = .And) && !xs.isEmpty&&okEs es C xs
 | .or es,C,e=>fh e fun o xs _=>decide (o = .Or) && !xs.isEmpty&&okEs es C xs
 | .not a,C,e=>fL e fun o x _=>decide (o = .Not)&&okE a C x
 | .ite c a b,C,e=>vA e fun t x y _=>okT c C t&&okE a C x&&okE b C y
 | .tup es,C,e=>cB e fun xs _ _=>okEs es C xs
 | .lst es,C,e=>zA e fun xs _=>okEs es C xs
 | .ix a b,C,e=>bF e fun x y _=>bw y&&okE a C x&&okE b C y
 | .sl a lo hi,C,e=>iSl e fun x l u s=>on s (okE a C x&&okO lo C l&&okO hi C u)
 | .call f es,C,e=>de e fun x xs=>decide (C.Γ[f]? = some x)&&glB C.sc x && !(x==("__debug__":Str))&&okEs es C xs
 | .blt f es,C,e=>de e fun x xs=>decide (x=pA f)&&glB C.sc x && !xs.isEmpty&&okEs es C xs
 | .isin a T,C,e=>de e fun x xs=>lv2 xs fun y w=>fK w fun z _=>decide (x = "isinstance")&&glB C.sc x&&glB C.sc z&&decide (z=Iy T)&&decide (T∈["bool","int","str","tuple","list","dict"])&&aM y&&okE a C y
 | .dnew _,_,e=>zC e fun ks vs _=>lv0 ks (lv0 vs true)
 | .sortI a,C,e=>de e fun x xs=>lv1 xs fun w=>ie w fun y n ys ap cp=>lv0 ys (decide (x = "sorted")&&glB C.sc x&&decide (n = "items")&&cK y&&(ap.endLine==cp.line)&&okE a C y)
 | .dpop o k x,C,e=>ie e fun y n xs ap cp=>lv2 xs fun e1 e2=>decide (n = "pop")&&cK y&&(ap.endLine==cp.line)&&aM e1&&aM e2&&okE o C y&&okE k C e1&&okE x C e2
 | .dget o k x,C,e=>ie e fun y n xs ap cp=>lv2 xs fun e1 e2=>decide (n = "get")&&cK y&&(ap.endLine==cp.line)&&aM e1&&aM e2&&okE o C y&&okE k C e1&&okE x C e2
 | .meth m o a,C,e=>ie e fun x n xs ap cp=>lv1 xs fun y=>decide (n=CO m)&&cK x&&(ap.endLine==cp.line)&&aM y&&okE o C x&&okE a C y
 | .comp fr N' c,C,e=>mz e fun elt gens sc _=>yz sc C.sc C.N N' fr&&okC c C ⟨C.Γ,N',j7 sc C.sc,(sc.names.filter (·.2 == .cell)).map (·.1),C.cs⟩ gens elt
noncomputable def okEs:MEs->Ctx->List Expr->Bool
 | .nil,_,es=>es.isEmpty
 | .cons m r,C,es=>match es with
  | e::es=>aM e&&okE m C e&&okEs r C es
  | []=>false
noncomputable def okO:MO->Ctx->Option Expr->Bool
 | .none,_,e=>e.isNone
 | .some m,C,e=>match e with
  | some e=>okE m C e
  | none=>false
noncomputable def okT:MT->Ctx->Expr->Bool
 | .tru m,C,e=>pj e&&okE m C e
 | .cmp op a b,C,e=>j9 e fun l os rs _=>lv1 os fun o=>lv1 rs fun r=>decide (o=yw op)&&okE a C l&&okE b C r && !(Ly o r)
 | .and ts,C,e=>fh e fun o xs _=>decide (o = .And) && !xs.isEmpty&&okTs ts C xs
 | .or ts,C,e=>fh e fun o xs _=>decide (o = .Or) && !xs.isEmpty&&okTs ts C xs
 | .not t,C,e=>fL e fun o x _=>decide (o = .Not)&&okT t C x
noncomputable def okTs:MTs->Ctx->List Expr->Bool
 | .nil,_,es=>es.isEmpty
 | .cons m r,C,es=>match es with
  | e::es=>okT m C e&&okTs r C es
  | []=>false
noncomputable def okI:MI->Ctx->Expr->Expr->Bool
 | .seq m,C,_,e=>ke e&&okE m C e
 | .keys m,C,_,e=>ke e&&okE m C e
 | .items a,C,t,e=>ie e fun x n xs ap cp=>lv0 xs (cB t fun _ _ _=>decide (n = "items")&&cK x&&(ap.endLine==cp.line)&&okE a C x)
 | .rng1 a,C,_,e=>de e fun x xs=>lv1 xs fun y=>decide (x = "range")&&glB C.sc x&&aM y&&okE a C y
 | .enum a,C,t,e=>de e fun x xs=>lv1 xs fun y=>cB t fun _ _ _=>decide (x = "enumerate")&&glB C.sc x&&aM y&&okE a C y
 | .zip a b,C,t,e=>de e fun x xs=>lv2 xs fun y z=>cB t fun _ _ _=>decide (x = "zip")&&glB C.sc x&&aM y&&aM z&&okE a C y&&okE b C z
noncomputable def okC:MC->Ctx->Ctx->List ID->Expr->Bool
 | .last src g ifs m,Cs,C,gens,elt=>match gens with
  | [⟨t,it,fs,a⟩]=>decide (a=0)&&okI src Cs t it&&okG g C t&&okTs ifs C fs&&okE m C elt
  | _=>false
 | .more src g ifs rest,Cs,C,gens,elt=>match gens with
  | ⟨t,it,fs,a⟩::g2::gs=>decide (a=0)&&okI src Cs t it&&okG g C t&&okTs ifs C fs&&okC rest C C (g2::gs) elt
  | _=>false
end
noncomputable def aY (sc:Scope) (ts:List Expr):List Str:=ts.filterMap fun
 | .Name id pos=>if sc.names.lookup id==some .local&&pos.line==(ts.head?.map (·.pos.line)).getD 0 then some id else none
 | _=>none
noncomputable def sZ (sc:Scope) (ts vs:List Expr):Bool:=!(ts.length==2 || ts.length==3) || vs.length != ts.length || (aY sc ts).length != ts.length || (aY sc ts).eraseDups.length != (aY sc ts).length || vs.all (Qe 8)
noncomputable def t5 (C:Ctx) (i:Nat) (x:Str):Bool:=decide (C.N[i]? = some x)&&decide (C.sc.names.lookup x=some .local)
noncomputable def t6 (sc:Scope) (ts vs:List Expr) (ns:List Str):Bool:=!(!(ts.length==2 || ts.length==3) || vs.length != ts.length) && !(vs.any fun | .Starred ..=>true | _=>false)&&decide (aY sc ts=ns) && !((aY sc ts).length != ts.length || (aY sc ts).eraseDups.length != (aY sc ts).length) && !(vs.all (Qe 8)) && !(vs.all (constantsAlone 8))
noncomputable def ki (sc:Scope) (tg e:Expr):Bool:=match tg,e with
 | .Tuple ts _ _,.Tuple vs _ _=>sZ sc ts vs
 | .Tuple ..,_=>true
 | .Name ..,_=>true
 | _,_=>false
noncomputable def CY (sc:Scope) (x:Str) (px:Pos) (e:Expr):Bool:=match e with
 | .DictComp _ _ _ s _=>!(sc.names.lookup x==some .local&&px.line==e.pos.line && !(s.names.any fun (n,k)=>n==x&&(k == .local || k == .cell)))
 | _=>true
noncomputable def t7 (sc:Scope) (x:Str) (px:Pos) (e:Expr):Bool:=match e with
 | .ListComp _ _ s _=>sc.names.lookup x==some .local&&px.line==e.pos.line && !(s.names.any fun (n,k)=>n==x&&(k == .local || k == .cell))
 | _=>false
mutual
noncomputable def okS:MS->Ctx->Stmt->Bool
 | .asg g m,C,s=>ee s fun ts e _=>lv1 ts fun tg=>okG g C tg&&okE m C e&&ki C.sc tg e&&(match tg with | .Name x px=>CY C.sc x px e | _=>fg e)
 | .par i j a b,C,s=>ee s fun ts e _=>lv1 ts fun tg=>cB tg fun ts _ _=>cB e fun es _ _=>lv2 ts fun t u=>lv2 es fun e f=>fK t fun x px=>fK u fun y py=>t5 C i x&&t5 C j y&&decide (i≠j)&&aM e&&aM f&&okE a C e&&okE b C f&&t6 C.sc [.Name x px,.Name y py] [e,f] [x,y]
 | .put2 o i o' i' m,C,s=>ee s fun ts e _=>lv1 ts fun tg=>cB tg fun ts _ _=>lv2 ts fun t u=>bF t fun x y _=>bF u fun x' y' _=>bw y&&bw y'&&fg e&&okE o C x&&okE i C y&&okE o' C x'&&okE i' C y'&&okE m C e
 | .put o i m,C,s=>ee s fun ts e _=>lv1 ts fun tg=>bF tg fun x y _=>bw y&&fg e&&okE o C x&&okE i C y&&okE m C e
 | .augI o i op m,C,s=>iH s fun t o' e _=>bF t fun x y _=>decide (o'=opO op)&&(match op with | .add | .sub | .mul=>true | _=>false)&&bw y&&okE o C x&&okE i C y&&okE m C e
 | .drop m,C,s=>vD s fun e _=>fg e&&okE m C e
 | .ret m,C,s=>pC s fun o _=>os o fun e=>okE m C e
 | .ite c a b,C,s=>CU s fun t x y _=>okT c C t&&okSs a C x&&okSs b C y
 | .for g src b,C,s=>zD s fun tg it body els _=>lv0 els (ke it&&okG g C tg&&okI src C tg it&&okSs b C body)
 | .while c b,C,s=>qQ s fun t body els _=>lv0 els (okT c C t&&okSs b C body)
 | .frz _ m,C,s=>okS m C s
 | .pass,_,s=>vE s fun _=>true
 | .brk,_,s=>qR s fun _=>true
 | .cnt,_,s=>kg s fun _=>true
noncomputable def okSs:MSs->Ctx->List Stmt->Bool
 | .nil,_,ss=>ss.isEmpty
 | .cons m r,C,ss=>match ss with
  | s::ss=>okS m C s&&okSs r C ss
  | []=>false
end
theorem am {e:Expr} {es:List Expr} {env:Env} (h:aM e=true):HP (e::es) env=(false,eval e env)::HP es env:=by
 cases e <;> first | rfl | (simp [aM] at h;done)
theorem mC {e:Expr} {es:List Expr} {env:Env} (h:aM e=true):JH (e::es) env=(false,assign e env)::JH es env:=by
 cases e <;> first | rfl | (simp [aM] at h;done)
theorem t8 {e:Expr} {env:Env} (h:pj e=true):∀ whole,isTrue e env whole=(do let v <- whole;MR e.pos;holding [v] (truthy v)):=by
 intro w
 cases e <;> first | rfl | (simp [pj] at h;done)
theorem yB {e:Expr} (h:bw e=true):kD e:=by
 intro o i
 cases e <;> first | rfl | (simp [bw] at h;done)
theorem pE {e:Expr} {env:Env} (h:ke e=true):∀ x,JS e env x=pure x:=by
 intro x
 cases e <;> first | rfl | (simp [ke] at h;done)
theorem eh {e:Expr} {n:Str} {env:Env} (h:cK e=true):MU e n env (eval e env)=eval e env:=by
 cases e <;> first | rfl | (simp [cK] at h;done)
theorem ig {e:Expr} {t:Option Expr} {l:Nat} {env:Env} (h:fg e=true):LU e t l env=pure false:=by
 cases e <;> first | rfl | (simp [fg] at h;done)
end
section
noncomputable def lSp (K:Frag) (r:RAd):Sp:=fun vs H Q _=>lR K r vs H Q
structure Good (C:Ctx) (Φ:Phi) (k:Nat) (X:Cx):Prop where
 hx:∀ e s,X.xe e s->False
 calm:X.calm=true
 N:X.N=C.N
 sc:X.env.scope=C.sc
 nd:X.N.Nodup
 fn:∀ x∈C.fn,X.fn x=true
 room:Room k X.A
 mgB:∀ x∈bltNames,X.mg x=none
 fns:∀ (i:Nat) (x:Str),C.Γ[i]? = some x -> ∃ f fd ps,X.mg x=some (.ref f)/\Mk X.K J3 x=some (some (.ref f))/\Lj X.K (.ref f)=true/\Binds X.K fd ps []/\dP X.prog X.w X.K X.mg X.base CX0 k f fd ps (lSp X.K (Φ i))
 mono:∀ f,aQ (Φ f)
 cs:∀ x d,(x,d)∈C.cs -> ∃ u,X.mg x=some u/\GV X.K d u
section
variable {C:Ctx} {Φ:Phi} {k:Nat} {X:Cx}
theorem Good.units (G:Good C Φ k X):X.A.units+64 < Js:=G.room.units
theorem Good.gl (G:Good C Φ k X) {x:Str} (h:glB C.sc x=true):Gl X x:=by
 show X.env.scope.names.lookup x=_;rw [G.sc];simpa [glB] using h
theorem Good.vis (G:Good C Φ k X) {x:Str} (h:yu C.sc x=true):Vis X.env.scope x:=by
 unfold Vis;rw [G.sc];simp [yu] at h
 rcases h with (h | h) | h
 ·exact .inl h
 ·exact .inr (.inl h)
 ·exact .inr (.inr h)
theorem Good.loc (G:Good C Φ k X) {x:Str} (h:yv C.sc x=true):Loc X.env.scope x:=by
 unfold Loc;rw [G.sc];simpa [yv] using h
theorem Good.own (G:Good C Φ k X) {x:Str} (h:(C.sc.names.lookup x==some .local || C.fn.contains x)=true):X.fn x=true∨X.env.scope.names.lookup x=some .local:=by
 rw [G.sc];simp at h
 rcases h with h | h
 ·exact .inr h
 ·exact .inl (G.fn x h)
theorem CZ (G:Good C Φ k X):∀ o:BOp,OpR X (Jm (opO o)) (l2 X.K (opB o))
 | .add=>xv | .sub=>xw | .mul=>xx | .fdiv=>uf | .mod=>xB | .pow=>xC
theorem qS (G:Good C Φ k X):∀ o:COp,OpR X (IW (yw o)) (l2 X.K (opC o))
 | .eq=>Af (by have:=G.units;lia) | .ne=>Ag (by have:=G.units;lia) | .lt=>Ak| .gt=>Al | .ge=>Am | .is=>AH | .isn=>xZ| .eqD=>yg (by have:=G.units;lia)| .ninD=>vq (by have:=G.units;lia)
theorem D3 (G:Good C Φ k X) {f:BF} {e:Expr} {es:List Expr} {t:TAd} {p pos:Pos} (mt:bn t) (q:Gl X (pA f)) (z:PA X (e::es) (lA X.K t))
 (he:HP (e::es) X.env=(false,eval e X.env)::HP es X.env) (j:(LM pos (HP es X.env)).any (·.1)=false):PE X (.Call (.Name (pA f) p) (e::es) [] pos) (lE X.K (wAr (opF f) t)):=by
 cases f with
 | listD=>exact PE.imp (cV (oW G.calm) q (G.mgB _ (by decide)) (by decide +kernel) z (by decide) (by decide) he j) (bp kb mt)
 | len=>exact PE.imp (ci sd q (G.mgB _ (by decide)) PySem.boot_len z (by decide) (by decide) he j) (bp nO mt)
 | abs=>exact PE.imp (ci se q (G.mgB _ (by decide)) (by decide +kernel) z (by decide) (by decide) he j) (bp nR mt)
 | min2=>exact PE.imp (ci (qf G.calm) q (G.mgB _ (by decide)) (by decide +kernel) z (by decide) (by decide) he j) (bp lJ mt)
 | int=>exact PE.imp (cV sg q (G.mgB _ (by decide)) (by decide +kernel) z (by decide) (by decide) he j) (bp nS mt)
 | tuple=>exact PE.imp (cV nU q (G.mgB _ (by decide)) (by decide +kernel) z (by decide) (by decide) he j) (bp jB mt)
 | sum=>exact PE.imp (ci (sj G.calm) q (G.mgB _ (by decide)) (by decide +kernel) z (by decide) (by decide) he j) (bp nV mt)
 | dict=>exact PE.imp (cV (qm (by have:=G.units;lia) G.calm) q (G.mgB _ (by decide)) (by decide +kernel) z (by decide) (by decide) he j) (bp mn mt)
 | sortk=>exact PE.imp (ci (oT (by have:=G.units;lia) G.calm) q (G.mgB _ (by decide)) (by decide +kernel) z (by decide) (by decide) he j) (bp jZ mt)
 | minP=>exact PE.imp (ci (qo (by have:=G.units;lia) G.calm) q (G.mgB _ (by decide)) (by decide +kernel) z (by decide) (by decide) he j) (bp mq mt)
 | dcp=>exact PE.imp (cV sV q (G.mgB _ (by decide)) (by decide +kernel) z (by decide) (by decide) he j) (bp ph mt)
theorem B1 (G:Good C Φ k X) {f:Nat} {x:Str} {e:Expr} {es:List Expr} {t:TAd} {p pos:Pos} (mt:bn t) (hf:C.Γ[f]? = some x) (z:Gl X x) (j:(x==("__debug__":Str))=false) (B:PA X (e::es) (lA X.K t))
 (he:HP (e::es) X.env=(false,eval e X.env)::HP es X.env) (q:(LM pos (HP es X.env)).any (·.1)=false):PE X (.Call (.Name x p) (e::es) [] pos) (lE X.K (wAr (Φ f) t)):=by
 obtain ⟨a,fd,ps,hm,_,J,L,F⟩:=G.fns f x hf;refine PE.imp (A1 F G.room z hm J L .nil zn B j he q) fun σ H Q h=>?_;have h2:=bp (G.mono f) mt σ H Q h;have:(fun vs H1=>lSp X.K (Φ f) (vs++[]) H1 Q E0)=fun vs H1=>lR X.K (Φ f) vs H1 Q:=by
  funext vs H1;rw [IU];rfl
 show (lA X.K t) σ H _;rw [this];exact h2
theorem yC (G:Good C Φ k X) {f:Nat} {x:Str} {p pos:Pos} (hf:C.Γ[f]? = some x) (z:Gl X x) (j:(x==("__debug__":Str))=false):PE X (.Call (.Name x p) [] [] pos) (lE X.K (wAr (Φ f) cy)):=by
 obtain ⟨a,fd,ps,hm,_,B,J,F⟩:=G.fns f x hf;refine PE.imp (wM F G.room z hm B J .nil zn j) fun σ H Q h=>?_;obtain ⟨ρ,M,rs,rm,q⟩:=h;exact ⟨[],M,rm,RDs.nil,q⟩
theorem jb {env:Env} {pos:Pos}:∀ {es:List Expr},es.all aM=true->(LM pos (HP es env)).any (·.1)=false
 | [],_=>rfl
 | e::es,h=>by
   simp only [Kz,z4] at h;rw [am h.1];show (false || (LM pos (HP es env)).any (·.1))=false
   rw [jb h.2];rfl
theorem gC:∀ {ms:MEs} {es:List Expr},okEs ms C es=true->es.all aM=true
 | .nil,[],_=>rfl
 | .nil,_::_,h=>by simp [okEs] at h
 | .cons m r,[],h=>by simp [okEs] at h
 | .cons m r,e::es,h=>by
  simp only [okEs,z4] at h;simp only [Kz,z4];exact ⟨h.1.1,gC h.2⟩
theorem qT:∀ {gs:MGs} {es:List Expr},okGs gs C es=true -> ∀ ds ρ ρ',bGs gs ds ρ = some ρ'->ds.length=es.length
 | .nil,es,h,ds,ρ,ρ',e=>by
  simp [okGs] at h;subst h;rw [bGs] at e
  cases ds with
  | nil=>rfl
  | cons _ _=>cases e
 | .cons g r,[],h,_,_,_,_=>by simp [okGs] at h
 | .cons g r,x::es,h,ds,ρ,ρ',e=>by
  simp only [okGs,z4] at h;rw [bGs] at e
  cases ds with
  | nil=>cases e
  | cons d ds =>
    simp only [bV] at e
    cases e1:bG g d ρ with
    | none=>rw [e1] at e;cases e
    | some ρ1 =>
      rw [e1] at e;simp [qT h.2 ds ρ1 ρ' e]
theorem pF {env:Env}:∀ {gs:MGs} {es:List Expr},okGs gs C es=true->(JH es env).length=es.length/\(JH es env).findIdx? (·.1)=none
 | .nil,es,h=>by simp [okGs] at h;subst h;exact ⟨rfl,rfl⟩
 | .cons g r,[],h=>by simp [okGs] at h
 | .cons g r,x::es,h=>by
  simp only [okGs,z4] at h;obtain ⟨a,b⟩:=pF (env:=env) h.2;rw [mC h.1.1];refine ⟨by simp [a],?_⟩
  rw [List.findIdx?_cons];simp [b]
mutual
theorem sG (G:Good C Φ k X):∀ (m:MG) (e:Expr),okG m C e=true->PG X e (lG X.K (bG m))
 | .name i,e,h=>by
  refine i9 e h fun x _ h=>?_;simp only [z4] at h;exact AA G.nd (by rw [G.N];exact of_decide_eq_true h.1.1) (G.loc h.1.2) (G.own h.2)
 | .tup gs,e,h=>by
  refine cZ e h fun es _ _ h=>?_;rw [bG];obtain ⟨a,b⟩:=pF (env:=X.env) h;exact Cq G.calm (qT h) (sGs G gs _ h) a b
theorem sGs (G:Good C Φ k X):∀ (m:MGs) (es:List Expr),okGs m C es=true->PGs X es (lGs X.K (bGs m))
 | .nil,es,h=>by
  simp [okGs] at h;subst h;exact AB
 | .cons g r,[],h=>by simp [okGs] at h
 | .cons g r,e::es,h=>by
  simp only [okGs,z4] at h;exact xJ (sG G g e h.1.2) (sGs G r es h.2) (by rw [mC h.1.1];rfl)
end
theorem PB.imp {F:Sem Fin->Sem Fin} {t t':TC} (h:PB X F t) (i:∀ σ H N,t' σ H N->t σ H N):PB X F t':=fun pins s σ H N k Q E I q hk=>h pins s σ H N k Q E I (i _ _ _ q) hk
theorem kj {sc osc:Scope} {oN N':List Str} {fr:List (Option Nat)} (h:yz sc osc oN N' fr=true):b4 sc osc oN N' fr:=by
 simp only [yz,z4,decide_eq_true_eq] at h;obtain ⟨⟨⟨⟨⟨h1,h2⟩,F⟩,G⟩,J⟩,L⟩:=h;refine ⟨h1,h2,F,fun x hx e=>?_,J,fun i j x hi hf=>?_⟩
 ·have z:=KN.mp G x hx;rw [e] at z;simpa using z
 ·have B:i < N'.length:=(Hy.mp hi).1;have q:=KN.mp L i (Mb.mpr B);rw [hf,hi] at q;simp only [z4,decide_eq_true_eq,KO] at q;obtain ⟨a,y,O,e⟩:=q;exact ⟨a,by rw [<- e];exact O⟩
theorem Good.blk (G:Good C Φ k X) {sc:Scope} {N':List Str} {fr:List (Option Nat)} (B:b4 sc C.sc C.N N' fr) (s:tv) (H:Hp) (fp:List Addr) :
 Good ⟨C.Γ,N',j7 sc C.sc,(sc.names.filter (·.2 == .cell)).map (·.1),C.cs⟩ Φ k (aG X sc N' s H fp):=by
 refine ⟨fun _ _ h=>h,G.calm,rfl,?_,B.ndN,fun x hx=>?_,G.room,G.mgB,G.fns,G.mono,G.cs⟩
 ·show relabel sc X.env=_;rw [qp,G.sc]
 ·obtain ⟨y,q,e⟩:=Hk.mp hx;obtain ⟨h1,h2⟩:=Ic.mp q;obtain ⟨n,kd⟩:=y;have j:kd = .cell:=by simpa using h2
  subst j;have e':n=x:=e;subst e';show (sc.names.lookup n==some .cell)=true;rw [aS B.nd h1];rfl
end
end
section
section
variable {Φ:Phi} {k:Nat}
theorem dH {C:Ctx} {X:Cx} (G:Good C Φ k X) {F:Sem Fin->Sem Fin} {p:Addr} {tb:TCd} {ifs:List Expr} {ts:List TTd} (mb:bX tb) (mt:∀ t∈ts,aE t) (j:PB X F (lC X.K p tb)) (q:I8 (fun c t=>PT X c t) ifs (ts.map (lT X.K))) :
 PB X (fun k=>bh ifs X.env >>= fun ok=>if ok=true then F k else k) (lC X.K p (br ts tb)) :=
 PB.imp (xg G.hx j q) (jL mb mt)
theorem gD {m:MC} {Cs C:Ctx} {g2:ID} {gs:List ID} {elt:Expr} (h:okC m Cs C (g2::gs) elt=true):g2.is_async=0:=by
 obtain ⟨t,i,f,a⟩:=g2
 cases m with
 | last src g ifs m =>
   cases gs with
   | nil=>simp only [okC,z4,decide_eq_true_eq] at h;exact h.1.1.1.1
   | cons _ _=>simp [okC] at h
 | more src g ifs rest =>
   cases gs with
   | nil=>simp [okC] at h
   | cons _ _=>simp only [okC,z4,decide_eq_true_eq] at h;exact h.1.1.1.1
theorem yD {C:Ctx} {X:Cx} (G:Good C Φ k X):∀ T∈["bool","int","str","tuple","list","dict"],X.mg (Iy T)=none/\KQ (Iy T)=some (.type T)/\Iy T ≠ "__name__" /\ (Iy T==("__debug__":Str))=false:=by
 intro T j;simp only [He,I9,or_false] at j
 rcases j with rfl | rfl | rfl | rfl | rfl | rfl
 all_goals exact ⟨G.mgB _ (by decide),by decide +kernel,by decide,by decide⟩
mutual
theorem sE:∀ (m:ME) {C:Ctx} {X:Cx} (G:Good C Φ k X) (e:Expr),okE m C e=true->PE X e (lE X.K (wE Φ m))
 | .var i,C,X,G,e,h=>by
  refine i9 e h fun x _ h=>?_;simp only [z4,JA,decide_eq_true_eq] at h;exact C9 (by rw [G.N];exact h.1.1.1) (G.vis h.1.1.2) h.1.2 h.2
 | .int i,C,X,G,e,h=>by
  refine gA e h fun c _ _ h=>?_;rw [of_decide_eq_true h];exact Ca
 | .bl i,C,X,G,e,h=>by
  refine gA e h fun c _ _ h=>?_;rw [of_decide_eq_true h];exact DP
 | .non,C,X,G,e,h=>by
  refine gA e h fun c _ _ h=>?_;rw [of_decide_eq_true h];exact Cb
 | .bin op a b,C,X,G,e,h=>by
  refine CP e h fun l o r _ h=>?_;simp only [z4,decide_eq_true_eq] at h;rw [h.1.1];exact DQ (CZ G op) (pi op) (mE G.mono a) (mE G.mono b) (sE a G _ h.1.2) (sE b G _ h.2)
 | .neg a,C,X,G,e,h=>by
  refine j8 e h fun o x _ h=>?_;replace h:=bP h;obtain ⟨ho,h⟩:=h
  cases of_decide_eq_true ho
  exact DR xD nM (mE G.mono a) (sE a G _ h)
 | .cmp op a b,C,X,G,e,h=>by
  refine pB e h fun l os rs pos h=>?_;refine cL os h fun o h=>?_;refine cL rs h fun r h=>?_;simp only [z4,decide_eq_true_eq] at h;obtain ⟨⟨⟨ho,O⟩,hb⟩,hm⟩:=h;rw [JA] at hm;subst ho;exact Cc (qS G op) (fJ op) (mE G.mono a) (mE G.mono b) (sE a G _ O) (sE b G _ hb) hm
 | .and es,C,X,G,e,h=>by
  refine ic e h fun o xs _ h=>?_;replace h:=bP h;obtain ⟨ho,h⟩:=h;obtain ⟨ho,j⟩:=bP ho
  cases of_decide_eq_true ho
  exact sAnds es G _ _ h (by intro z;rw [z] at j;cases j)
 | .or es,C,X,G,e,h=>by
  refine ic e h fun o xs _ h=>?_;replace h:=bP h;obtain ⟨ho,h⟩:=h;obtain ⟨ho,j⟩:=bP ho
  cases of_decide_eq_true ho
  exact sOrs es G _ _ h (by intro z;rw [z] at j;cases j)
 | .not a,C,X,G,e,h=>by
  refine j8 e h fun o x _ h=>?_;replace h:=bP h;obtain ⟨ho,h⟩:=h
  cases of_decide_eq_true ho
  exact Co (mE G.mono a) (sE a G _ h)
 | .ite c a b,C,X,G,e,h=>by
  refine CQ e h fun t x y _ h=>?_;simp only [z4] at h;exact DX (mT G.mono c) (mE G.mono a) (mE G.mono b) (sT c G _ h.1.1) (sE a G _ h.1.2) (sE b G _ h.2)
 | .tup es,C,X,G,e,h=>by
  refine cZ e h fun xs _ _ h=>?_;exact Ce (mA G.mono es) (sA es G _ h)
 | .lst es,C,X,G,e,h=>by
  refine E7 e h fun xs _ h=>?_;exact Cf (mA G.mono es) (sA es G _ h)
 | .ix a b,C,X,G,e,h=>by
  refine bY e h fun x y _ h=>?_;simp only [z4] at h;exact DS (EG (by have:=G.units;lia)) qD (mE G.mono a) (mE G.mono b) (sE a G _ h.1.2) (sE b G _ h.2) (yB h.1.1)
 | .sl a lo hi,C,X,G,e,h=>by
  refine jSl e h fun x l u s p pos h=>?_;refine jon s h fun  h=>?_;simp only [z4] at h;exact DY (mE G.mono a) (mO G.mono lo) (mO G.mono hi) (sE a G _ h.1.1) (sO lo G _ h.1.2) (sO hi G _ h.2)
 | .call f es,C,X,G,e,h=>by
  refine ef e h fun x xs p pos h=>?_;simp only [z4,decide_eq_true_eq,JA] at h;have hA:=sA es G _ h.2;have q:=gC h.2
  cases xs with
  | nil =>
    cases es with
    | nil=>exact yC G h.1.1.1 (G.gl h.1.1.2) h.1.2
    | cons _ _=>simp [okEs] at h
  | cons y ys =>
    simp only [Kz,z4] at q;exact B1 G (mA G.mono es) h.1.1.1 (G.gl h.1.1.2) h.1.2 hA (am q.1) (jb q.2)
 | .blt f es,C,X,G,e,h=>by
  refine ef e h fun x xs p pos h=>?_;simp only [z4,decide_eq_true_eq,JA] at h;have hA:=sA es G _ h.2;have q:=gC h.2;obtain ⟨⟨⟨rfl,L⟩,j⟩,_⟩:=h
  cases xs with
  | nil=>simp at j
  | cons y ys =>
    simp only [Kz,z4] at q;exact D3 G (mA G.mono es) (G.gl L) hA (am q.1) (jb q.2)
 | .dnew t,C,X,G,e,h=>by
  refine E8 e h fun ks vs _ h=>?_;refine fN ks h fun  h=>?_;refine fN vs h fun  h=>?_;exact AI
 | .sortI a,C,X,G,e,h=>by
  refine ef e h fun x xs p pos h=>?_;refine cL xs h fun w h=>?_;refine kh w h fun y n ys ap cp h=>?_;refine fN ys h fun  h=>?_;simp only [z4,decide_eq_true_eq] at h;obtain ⟨⟨⟨⟨⟨rfl,L⟩,rfl⟩,J⟩,U⟩,O⟩:=h;exact yc (by have:=G.units;lia) (mE G.mono a) G.calm (sE a G _ O) (G.gl L) (G.mgB _ (by decide)) (eh J) U
 | .dpop o k' x,C,X,G,e,h=>by
  refine kh e h fun y n xs ap cp h=>?_;refine ja xs h fun e1 e2 h=>?_;simp only [z4,decide_eq_true_eq] at h;obtain ⟨⟨⟨⟨⟨⟨⟨rfl,J⟩,U⟩,Y⟩,Z⟩,ho⟩,hk⟩,hx⟩:=h;have st:HP [e1,e2] X.env=[(false,eval e1 X.env),(false,eval e2 X.env)]:=by
   rw [am Y,am Z];rfl
  refine AX (by have:=G.units;lia) (mE G.mono o) (mE G.mono k') (mE G.mono x) (sE o G _ ho) (sE k' G _ hk) (sE x G _ hx) ⟨eh J,?_,U,?_⟩
  ·rw [st];rfl
  ·rw [st];rfl
 | .dget o k' x,C,X,G,e,h=>by
  refine kh e h fun y n xs ap cp h=>?_;refine ja xs h fun e1 e2 h=>?_;simp only [z4,decide_eq_true_eq] at h;obtain ⟨⟨⟨⟨⟨⟨⟨rfl,J⟩,U⟩,Y⟩,Z⟩,ho⟩,hk⟩,hx⟩:=h;have st:HP [e1,e2] X.env=[(false,eval e1 X.env),(false,eval e2 X.env)]:=by
   rw [am Y,am Z];rfl
  refine AS (by have:=G.units;lia) (mE G.mono o) (mE G.mono k') (mE G.mono x) (sE o G _ ho) (sE k' G _ hk) (sE x G _ hx) ⟨eh J,?_,U,?_⟩
  ·rw [st];rfl
  ·rw [st];rfl
 | .isin a T,C,X,G,e,h=>by
  refine ef e h fun x xs p pos h=>?_;refine ja xs h fun y w h=>?_;refine i9 w h fun z p2 h=>?_;simp only [z4,decide_eq_true_eq] at h;obtain ⟨⟨⟨⟨⟨⟨rfl,L⟩,ES⟩,hz⟩,hT⟩,hs⟩,O⟩:=h;obtain ⟨n1,n2,n3,n4⟩:=yD G T hT;subst hz;exact Aw hT (mE G.mono a) (sE a G _ O) (G.gl L) (G.mgB _ (by decide)) (G.gl ES) n1 n2 n3 n4 (am hs) rfl
 | .meth m o a,C,X,G,e,h=>by
  refine kh e h fun x n xs ap cp h=>?_;refine cL xs h fun y h=>?_;simp only [z4,decide_eq_true_eq] at h;obtain ⟨⟨⟨⟨⟨hn,J⟩,U⟩,hs⟩,ho⟩,O⟩:=h;subst hn;have pa:PA X [y] (lA X.K (bq (wE Φ a) cy)):=cn (mE G.mono a) aI (sE a G _ O) eX (am hs);have few:((LM cp (HP [y] X.env)).all (fun x=>!x.1)&&(backToKw cp (RC [] X.env)).all (fun x=>x.1.isSome)&&decide (([y]:List Expr).length+([]:List OK).length+(if ([]:List OK).isEmpty then 0 else 1) < 30))=true:=by
   rw [am hs];rfl
  cases m with
  | append=>exact PE.imp (DL PySem.F.plainAttrs_list PySem.F.slot_list_append PySem.F.type_list_append lu (sE o G _ ho) pa (eh J) few U (am hs) rfl) (Ay iE (mE G.mono o) (aH (mE G.mono a) aI) xI)
 | .comp fr N' c,C,X,G,e,h=>by
  refine vC e h fun elt gens sc pos h=>?_;simp only [z4] at h;have B:b4 sc X.env.scope X.N N' fr:=by rw [G.sc,G.N];exact kj h.1
  have B':b4 sc C.sc C.N N' fr:=kj h.1
  cases c with
  | last src g ifs m =>
    have h2:=h.2;simp only [okC] at h2
    split at h2
    ·rename_i t it fs a;simp only [z4,decide_eq_true_eq] at h2;obtain ⟨⟨⟨⟨rfl,hi⟩,L⟩,ht⟩,he⟩:=h2;refine PE.imp (iD G.calm G.hx B (fun g' z=>by simp at z) (sI src G _ t hi).1 (fun s H fp=>sG (G.blk B' s H fp) g t L) (tb:=fun p=>lC X.K p (br (wTl Φ ifs) (eG (wE Φ m)))) (fun s H fp p=>?_) (sI src G _ t hi).2) (eI (mI G.mono src) (aJ (bA (mE G.mono m)) (mTl G.mono ifs)))
     have G':=G.blk B' s H fp;exact dH (p:=p) G' (bA (mE G.mono m)) (mTl G.mono ifs) (PB.imp (kE G'.hx (sE m G' elt he) rfl) (gc (mE G.mono m))) (sTl ifs G' fs ht)
    ·cases h2
  | more src g ifs rest =>
    have h2:=h.2;simp only [okC] at h2
    split at h2
    ·rename_i t it fs a g2 gs;simp only [z4,decide_eq_true_eq] at h2;obtain ⟨⟨⟨⟨rfl,hi⟩,L⟩,ht⟩,he⟩:=h2;have ET:∀ g',(g2::gs)[0]? = some g'->g'.is_async=0:=fun g' z=>by
      have z':g2=g':=by simpa using z
      subst z';exact gD he
     refine PE.imp (iD G.calm G.hx B ET (sI src G _ t hi).1 (fun s H fp=>sG (G.blk B' s H fp) g t L) (tb:=fun p=>lC X.K p (br (wTl Φ ifs) (wCl Φ rest))) (fun s H fp p=>?_) (sI src G _ t hi).2) (eI (mI G.mono src) (aJ (mCl G.mono rest) (mTl G.mono ifs)));have G':=G.blk B' s H fp;exact dH (p:=p) G' (mCl G.mono rest) (mTl G.mono ifs) (sCl rest G' elt (⟨t,it,fs,0⟩::g2::gs) sc pos 0 (.inl rfl) p he) (sTl ifs G' fs ht)
    ·cases h2
theorem sA:∀ (m:MEs) {C:Ctx} {X:Cx} (G:Good C Φ k X) (es:List Expr),okEs m C es=true->PA X es (lA X.K (wA Φ m))
 | .nil,C,X,G,es,h=>by
  simp [okEs] at h;subst h;exact eX
 | .cons m r,C,X,G,[],h=>by simp [okEs] at h
 | .cons m r,C,X,G,e::es,h=>by
  simp only [okEs,z4] at h;exact cn (mE G.mono m) (mA G.mono r) (sE m G e h.1.2) (sA r G es h.2) (am h.1.1)
theorem sAnds:∀ (m:MEs) {C:Ctx} {X:Cx} (G:Good C Φ k X) (es:List Expr) (pos:Pos),okEs m C es=true->es≠[]->PE X (.BoolOp .And es pos) (lE X.K (wAnds Φ m))
 | .nil,C,X,G,es,pos,h,j=>by simp [okEs] at h;exact absurd h j
 | .cons m r,C,X,G,[],pos,h,j=>absurd rfl j
 | .cons m .nil,C,X,G,e::es,pos,h,_=>by
  simp only [okEs,z4] at h;obtain ⟨h1,h2⟩:=h;simp at h2;subst h2;exact uk (sE m G e h1.2)
 | .cons m (.cons m2 r),C,X,G,e::es,pos,h,_=>by
  simp only [okEs,z4] at h;obtain ⟨h1,h2⟩:=h
  cases es with
  | nil=>simp at h2
  | cons f fs =>
    exact Cn (mE G.mono m) (mAnds G.mono _) (sE m G e h1.2) (sAnds (.cons m2 r) G (f::fs) pos (by simpa only [okEs,z4] using h2) (by simp))
theorem sOrs:∀ (m:MEs) {C:Ctx} {X:Cx} (G:Good C Φ k X) (es:List Expr) (pos:Pos),okEs m C es=true->es≠[]->PE X (.BoolOp .Or es pos) (lE X.K (wOrs Φ m))
 | .nil,C,X,G,es,pos,h,j=>by simp [okEs] at h;exact absurd h j
 | .cons m r,C,X,G,[],pos,h,j=>absurd rfl j
 | .cons m .nil,C,X,G,e::es,pos,h,_=>by
  simp only [okEs,z4] at h;obtain ⟨h1,h2⟩:=h;simp at h2;subst h2;exact uk (sE m G e h1.2)
 | .cons m (.cons m2 r),C,X,G,e::es,pos,h,_=>by
  simp only [okEs,z4] at h;obtain ⟨h1,h2⟩:=h
  cases es with
  | nil=>simp at h2
  | cons f fs =>
    exact DW (mE G.mono m) (mOrs G.mono _) (sE m G e h1.2) (sOrs (.cons m2 r) G (f::fs) pos (by simpa only [okEs,z4] using h2) (by simp))
theorem sO:∀ (m:MO) {C:Ctx} {X:Cx} (G:Good C Φ k X) (e:Option Expr),okO m C e=true->PO X e (lO X.K (wO Φ m))
 | .none,C,X,G,e,h=>by
  simp [okO] at h;subst h;exact Aq
 | .some m,C,X,G,none,h=>by simp [okO] at h
 | .some m,C,X,G,some e,h=>by
  simp only [okO] at h;exact Ar (mE G.mono m) (sE m G e h)
theorem sT:∀ (m:MT) {C:Ctx} {X:Cx} (G:Good C Φ k X) (e:Expr),okT m C e=true->PT X e (lT X.K (wT Φ m))
 | .tru m,C,X,G,e,h=>by
  simp only [okT,z4] at h;exact Ci (mE G.mono m) (sE m G e h.2) (t8 h.1)
 | .cmp op a b,C,X,G,e,h=>by
  refine pB e h fun l os rs pos h=>?_;refine cL os h fun o h=>?_;refine cL rs h fun r h=>?_;simp only [z4,decide_eq_true_eq] at h;obtain ⟨⟨⟨ho,q⟩,B⟩,hm⟩:=h;rw [JA] at hm;subst ho;exact Cd (qS G op) (fJ op) (mE G.mono a) (mE G.mono b) (sE a G _ q) (sE b G _ B) hm
 | .and ts,C,X,G,e,h=>by
  refine ic e h fun o xs _ h=>?_;replace h:=bP h;obtain ⟨ho,h⟩:=h;obtain ⟨ho,j⟩:=bP ho
  cases of_decide_eq_true ho
  exact (sAndTs ts G _ _ h (by intro z;rw [z] at j;cases j)).pt
 | .or ts,C,X,G,e,h=>by
  refine ic e h fun o xs _ h=>?_;replace h:=bP h;obtain ⟨ho,h⟩:=h;obtain ⟨ho,j⟩:=bP ho
  cases of_decide_eq_true ho
  exact (sOrTs ts G _ _ h (by intro z;rw [z] at j;cases j)).pt
 | .not t,C,X,G,e,h=>by
  refine j8 e h fun o x _ h=>?_;replace h:=bP h;obtain ⟨ho,h⟩:=h
  cases of_decide_eq_true ho
  exact Cj (mT G.mono t) (sT t G _ h)
theorem sAndTs:∀ (m:MTs) {C:Ctx} {X:Cx} (G:Good C Φ k X) (es:List Expr) (pos:Pos),okTs m C es=true->es≠[]->PW X (.BoolOp .And es pos) (lT X.K (wAndTs Φ m))
 | .nil,C,X,G,es,pos,h,j=>by simp [okTs] at h;exact absurd h j
 | .cons m r,C,X,G,[],pos,h,j=>absurd rfl j
 | .cons m .nil,C,X,G,e::es,pos,h,_=>by
  simp only [okTs,z4] at h;obtain ⟨h1,h2⟩:=h;simp at h2;subst h2;exact Ao (sT m G e h1)
 | .cons m (.cons m2 r),C,X,G,e::es,pos,h,_=>by
  simp only [okTs,z4] at h;obtain ⟨h1,h2⟩:=h
  cases es with
  | nil=>simp at h2
  | cons f fs =>
    exact Cl (mT G.mono m) (mAndTs G.mono _) (sT m G e h1) (sAndTs (.cons m2 r) G (f::fs) pos (by simpa only [okTs,z4] using h2) (by simp))
theorem sOrTs:∀ (m:MTs) {C:Ctx} {X:Cx} (G:Good C Φ k X) (es:List Expr) (pos:Pos),okTs m C es=true->es≠[]->PW X (.BoolOp .Or es pos) (lT X.K (wOrTs Φ m))
 | .nil,C,X,G,es,pos,h,j=>by simp [okTs] at h;exact absurd h j
 | .cons m r,C,X,G,[],pos,h,j=>absurd rfl j
 | .cons m .nil,C,X,G,e::es,pos,h,_=>by
  simp only [okTs,z4] at h;obtain ⟨h1,h2⟩:=h;simp at h2;subst h2;exact Ck (sT m G e h1)
 | .cons m (.cons m2 r),C,X,G,e::es,pos,h,_=>by
  simp only [okTs,z4] at h;obtain ⟨h1,h2⟩:=h
  cases es with
  | nil=>simp at h2
  | cons f fs =>
    exact DV (mT G.mono m) (mOrTs G.mono _) (sT m G e h1) (sOrTs (.cons m2 r) G (f::fs) pos (by simpa only [okTs,z4] using h2) (by simp))
theorem sTl:∀ (m:MTs) {C:Ctx} {X:Cx} (G:Good C Φ k X) (es:List Expr),okTs m C es=true->I8 (fun c t=>PT X c t) es ((wTl Φ m).map (lT X.K))
 | .nil,C,X,G,es,h=>by
  simp [okTs] at h;subst h;exact .nil
 | .cons m r,C,X,G,[],h=>by simp [okTs] at h
 | .cons m r,C,X,G,e::es,h=>by
  simp only [okTs,z4] at h;exact .cons (sT m G e h.1) (sTl r G es h.2)
theorem sI:∀ (m:MI) {C:Ctx} {X:Cx} (G:Good C Φ k X) (e tg:Expr),okI m C tg e=true->PI X tg e (lI X.K (wI Φ m)) /\ ∀ x,JS e X.env x=pure x
 | .seq m,C,X,G,e,tg,h=>by
  simp only [okI,z4] at h;exact ⟨Cu (mE G.mono m) (sE m G e h.2),pE h.1⟩
 | .keys m,C,X,G,e,tg,h=>by
  simp only [okI,z4] at h;exact ⟨AW (mE G.mono m) (sE m G e h.2),pE h.1⟩
 | .rng1 a,C,X,G,e,tg,h=>by
  refine ef e h fun x xs p pos h=>?_;refine cL xs h fun y h=>?_;simp only [z4,decide_eq_true_eq] at h;obtain ⟨⟨⟨rfl,B⟩,hs⟩,j⟩:=h;exact ⟨AC (aH (mE G.mono a) aI) (G.gl B) (G.mgB _ (by decide)) (cn (mE G.mono a) aI (sE a G _ j) eX (am hs)) (am hs),fun x=>rfl⟩
 | .enum a,C,X,G,e,tg,h=>by
  refine ef e h fun x xs p pos h=>?_;refine cL xs h fun y h=>?_;refine cZ tg h fun ts kt pt h=>?_;simp only [z4,decide_eq_true_eq] at h;obtain ⟨⟨⟨rfl,B⟩,hs⟩,j⟩:=h;exact ⟨AD (mE G.mono a) (G.gl B) (G.mgB _ (by decide)) (cn (mE G.mono a) aI (sE a G _ j) eX (am hs)) (am hs),fun x=>rfl⟩
 | .items a,C,X,G,e,tg,h=>by
  refine kh e h fun x n xs ap cp h=>?_;refine fN xs h fun  h=>?_;refine cZ tg h fun ts kt pt h=>?_;simp only [z4,decide_eq_true_eq] at h;obtain ⟨⟨⟨rfl,F⟩,J⟩,j⟩:=h;exact ⟨yp (mE G.mono a) (sE a G _ j) (eh F) J,fun x=>rfl⟩
 | .zip a b,C,X,G,e,tg,h=>by
  refine ef e h fun x xs p pos h=>?_;refine ja xs h fun y z h=>?_;refine cZ tg h fun ts kt pt h=>?_;simp only [z4,decide_eq_true_eq] at h;obtain ⟨⟨⟨⟨⟨rfl,B⟩,hs⟩,q⟩,j⟩,L⟩:=h;exact ⟨Cy (mE G.mono a) (mE G.mono b) (G.gl B) (G.mgB _ (by decide)) (cn (mE G.mono a) (aH (mE G.mono b) aI) (sE a G _ j) (cn (mE G.mono b) aI (sE b G _ L) eX (am q)) (am hs)) (by rw [am hs,am q];rfl) (am q),fun x=>rfl⟩
theorem sCl:∀ (m:MC) {C:Ctx} {X:Cx} (G:Good C Φ k X) (elt:Expr) (gens:List ID) (sc:Scope) (pos:Pos) (d:Nat) (_:d=0∨d=d) (p:Addr),okC m C C (gens.drop (d+1)) elt=true ->
 PB X (aZ elt gens sc pos d (.ref p) X.env) (lC X.K p (wCl Φ m))
 | .last src g ifs m,C,X,G,elt,gens,sc,pos,d,_,p,h=>by
  simp only [okC] at h
  split at h
  ·rename_i t it fs a hd;simp only [z4,decide_eq_true_eq] at h;obtain ⟨⟨⟨⟨rfl,hi⟩,q⟩,B⟩,he⟩:=h;have F:gens[d+1]? = some ⟨t,it,fs,0⟩:=by
    have z:(gens.drop (d+1))[0]? = some ⟨t,it,fs,0⟩:=by rw [hd];rfl
    rw [LP] at z;simpa using z
   have j:gens[d+1+1]? = none:=by
    have z:(gens.drop (d+1))[1]? = none:=by rw [hd];rfl
    rw [LP] at z;simpa using z
   refine PB.imp (lD G.hx G.calm F (fun g' z=>by rw [j] at z;cases z) (sI src G _ t hi).1 (sG G g t q) (dH (p:=p) G (bA (mE G.mono m)) (mTl G.mono ifs) (PB.imp (kE G.hx (sE m G elt he) j) (gc (mE G.mono m))) (sTl ifs G fs B)) (sI src G _ t hi).2) (iG (mI G.mono src) (aJ (bA (mE G.mono m)) (mTl G.mono ifs)))
  ·cases h
 | .more src g ifs rest,C,X,G,elt,gens,sc,pos,d,_,p,h=>by
  simp only [okC] at h
  split at h
  ·rename_i t it fs a g2 gs hd;simp only [z4,decide_eq_true_eq] at h;obtain ⟨⟨⟨⟨rfl,hi⟩,q⟩,B⟩,he⟩:=h;have F:gens[d+1]? = some ⟨t,it,fs,0⟩:=by
    have z:(gens.drop (d+1))[0]? = some ⟨t,it,fs,0⟩:=by rw [hd];rfl
    rw [LP] at z;simpa using z
   have j:gens[d+1+1]? = some g2:=by
    have z:(gens.drop (d+1))[1]? = some g2:=by rw [hd];rfl
    rw [LP] at z;simpa using z
   have L:gens.drop (d+1+1)=g2::gs:=by
    have z:(gens.drop (d+1)).drop 1=g2::gs:=by rw [hd];rfl
    rw [NP] at z;simpa using z
   have J:∀ g',gens[d+1+1]? = some g'->g'.is_async=0:=fun g' z=>by
    rw [j] at z;cases z;exact gD he
   refine PB.imp (lD G.hx G.calm F J (sI src G _ t hi).1 (sG G g t q) (dH (p:=p) G (mCl G.mono rest) (mTl G.mono ifs) (sCl rest G elt gens sc pos (d+1) (.inr rfl) p (by rw [L];exact he)) (sTl ifs G fs B)) (sI src G _ t hi).2) (iG (mI G.mono src) (aJ (mCl G.mono rest) (mTl G.mono ifs)))
  ·cases h
end
end
end
section
section
variable {Φ:Phi} {k:Nat} {C:Ctx} {X:Cx}
theorem yE {sc:Scope} {ts vs:List Expr} {kk j:Nat} {pp p2:Pos} {env:Env} (hs:env.scope=sc) (q:sc.kind = .function) (h:sZ sc ts vs=true):Jv [.Tuple ts kk pp] (.Tuple vs j p2) env=pure none:=by
 have z:env.blockKind = .function:=by unfold Of;rw [hs,q];rfl
 have h':sZ sc ts vs=true:=h;unfold Jv;dsimp only;rw [z]
 by_cases c1:(!(ts.length==2 || ts.length==3) || vs.length != ts.length)=true
 ·simp only [c1,Bool.true_or,if_true]
 ·simp only [MD] at c1;rw [c1];simp only [O9,bne_self_eq_false,Iw,if_false]
  split
  ·rfl
  ·
    generalize B:List.filterMap _ ts=L;obtain rfl:L=aY sc ts:=by
     rw [<- B];unfold aY;congr 1
     funext x
     cases x <;> first | rfl | (unfold Qv;rw [hs])
    unfold sZ at h';rw [c1] at h';simp only [O9,P0] at h'
    by_cases c3:((aY sc ts).length != ts.length || (aY sc ts).eraseDups.length != (aY sc ts).length)=true
    ·rw [if_pos c3]
    ·rw [if_neg c3];have F:vs.all (Qe 8)=true:=by
      rcases h' with h' | h'
      ·exact absurd (P0 _ _ |>.mpr h') c3
      ·exact h'
     rw [if_pos F]
theorem B2 {sc:Scope} {ts vs:List Expr} {ns:List Str} {kk j:Nat} {pp p2:Pos} {env:Env} (hs:env.scope=sc) (q:sc.kind = .function) (h:t6 sc ts vs ns=true):Jv [.Tuple ts kk pp] (.Tuple vs j p2) env=pure (some ns):=by
 have B:env.blockKind = .function:=by unfold Of;rw [hs,q];rfl
 simp only [t6,z4,JA,decide_eq_true_eq] at h;obtain ⟨⟨⟨⟨⟨F,G⟩,J⟩,O⟩,U⟩,Y⟩:=h;unfold Jv;dsimp only;rw [B,F];simp only [O9,bne_self_eq_false,Iw,if_false]
 split
 ·next z=>exact absurd z (by rw [MD];exact G)
 ·generalize Z:List.filterMap _ ts=L;obtain rfl:L=aY sc ts:=by
   rw [<- Z];unfold aY;congr 1
   funext x
   cases x <;> first | rfl | (unfold Qv;rw [hs])
  rw [O,U,Y,J];rfl
theorem qU {C:Ctx} {i:Nat} {x:Str} (h:t5 C i x=true):C.N[i]? = some x/\C.sc.names.lookup x=some .local:=by
 simpa [t5] using h
theorem cM {tg e:Expr} {l:Nat} {env:Env} {b:Bool} (h:LU e (some tg) l env=pure b):L9 [tg] e l env=pure b:=by
 unfold L9;exact h
theorem D4 {j q z B e:Expr} {F p2 pt:Pos} {kt:Nat} {env:Env}:Jv [.Tuple [.Subscript j q F,.Subscript z B p2] kt pt] e env=pure none:=by
 cases e with
 | Tuple vs G p2 =>
   unfold Jv;dsimp only
   split
   ·rfl
   ·split
    ·rfl
    ·rfl
 | _=>rfl
theorem B3 {sc:Scope} {tg e:Expr} {env:Env} (hs:env.scope=sc) (j:sc.kind = .function) (h:ki sc tg e=true):Jv [tg] e env=pure none:=by
 cases tg with
 | Tuple ts kk pp =>
   cases e with
   | Tuple vs q p2=>exact yE hs j h
   | _=>rfl
 | _=>first | rfl | (simp [ki] at h;done)
theorem pG {elt:Expr} {gens:List ID} {s sc:Scope} {pos px:Pos} {x:Str} {l:Nat} {env:Env} (hs:env.scope=sc) (j:sc.kind = .function) :
 LU (.ListComp elt gens s pos) (some (.Name x px)) l env=pure (t7 sc x px (.ListComp elt gens s pos)):=by
 have q:env.blockKind = .function:=by unfold Of;rw [hs,j];rfl
 unfold LU;dsimp only;rw [q];unfold t7 Qv;rw [hs];rfl
theorem vF {ek ev:Expr} {gens:List ID} {s sc:Scope} {pos px:Pos} {x:Str} {l:Nat} {env:Env} (hs:env.scope=sc) (j:sc.kind = .function) :
 LU (.DictComp ek ev gens s pos) (some (.Name x px)) l env=pure (sc.names.lookup x==some .local&&px.line==(Expr.DictComp ek ev gens s pos).pos.line && !(s.names.any fun (n,k)=>n==x&&(k == .local || k == .cell))):=by
 have q:env.blockKind = .function:=by unfold Of;rw [hs,j];rfl
 unfold LU;dsimp only;rw [q];unfold Qv;rw [hs];rfl
mutual
theorem sS:∀ (m:MS) (G:Good C Φ k X) (q:C.sc.kind = .function) (s:Stmt),okS m C s=true->PS X s (lS X.K (wS Φ m))
 | .asg g m,G,q,s,h=>by
  refine fM s h fun ts e pos h1=>?_;clear h;refine cL ts h1 fun tg h=>?_;clear h1;simp only [z4] at h;obtain ⟨⟨⟨F,he⟩,L⟩,U⟩:=h;have hw:=B3 G.sc q L;have pg:=sG G g tg F;have plain:L9 [tg] e pos.line X.env=pure false->PS X (.Assign [tg] e pos) (lS X.K (iW (wE Φ m) (bG g))):=fun hs =>
   PS.imp (nA (sE m G e he) pg hs hw (by cases tg <;> first | rfl | (simp [ki] at L;done))) (xT (mE G.mono m))
  cases tg with
  | Tuple ts a b=>exact plain (cM (ig U))
  | Name x px =>
    cases e with
    | ListComp elt gens sc cpos =>
      by_cases sw:t7 C.sc x px (.ListComp elt gens sc cpos)=true
      ·cases g with
       | tup gs=>exact absurd F Hi
       | name i =>
         cases m with
         | comp fr N' c =>
           replace he:=bP he;have B:b4 sc X.env.scope X.N N' fr:=by rw [G.sc,G.N];exact kj he.1
           have B':b4 sc C.sc C.N N' fr:=kj he.1;have Z:PG X (.Name x px) (jl i):=by
            have F:=bP F;have F:=MB (bP F.1) F.2;exact qu G.nd (by rw [G.N];exact of_decide_eq_true F.1.1) (G.loc F.1.2) (G.own F.2)
           have ES:∀ l,LU (.ListComp elt gens sc cpos) (some (.Name x px)) l X.env=pure true:=fun l=>by rw [pG G.sc q,sw]
           have mc:=mCmp G.mono fr c
           cases c with
           | last src g ifs m =>
             have h2:=he.2;simp only [okC] at h2
             split at h2
             ·rename_i t it fs a;simp only [z4,decide_eq_true_eq] at h2;obtain ⟨⟨⟨⟨rfl,hi⟩,Y⟩,ht⟩,O⟩:=h2;refine PS.imp (jz (i:=i) (g:=lG X.K (bG g)) (wi:=lI X.K (wI Φ src)) G.calm G.hx B (fun g' z=>by simp at z) (sI src G _ t hi).1 (fun s H fp=>sG (G.blk B' s H fp) g t Y) (tb:=fun p=>lC X.K p (br (wTl Φ ifs) (eG (wE Φ m)))) (fun s H fp p=>?_) (sI src G _ t hi).2 Z (ES _)) fun D σ H h=>?_
              ·have G':=G.blk B' s H fp;exact dH (p:=p) G' (bA (mE G.mono m)) (mTl G.mono ifs) (PB.imp (kE G'.hx (sE m G' elt O) rfl) (gc (mE G.mono m))) (sTl ifs G' fs ht)
              ·exact eI (mI G.mono src) (aJ (bA (mE G.mono m)) (mTl G.mono ifs)) σ H _ (lP mc D σ H h)
             ·cases h2
           | more src g ifs rest =>
             have h2:=he.2;simp only [okC] at h2
             split at h2
             ·rename_i t it fs a g2 gs;simp only [z4,decide_eq_true_eq] at h2;obtain ⟨⟨⟨⟨rfl,hi⟩,Y⟩,ht⟩,O⟩:=h2;have EU:∀ g',(g2::gs)[0]? = some g'->g'.is_async=0:=fun g' z=>by
               have z':g2=g':=by simpa using z
               subst z';exact gD O
              refine PS.imp (jz (i:=i) (g:=lG X.K (bG g)) (wi:=lI X.K (wI Φ src)) G.calm G.hx B EU (sI src G _ t hi).1 (fun s H fp=>sG (G.blk B' s H fp) g t Y) (tb:=fun p=>lC X.K p (br (wTl Φ ifs) (wCl Φ rest))) (fun s H fp p=>?_) (sI src G _ t hi).2 Z (ES _)) fun D σ H h=>?_
              ·have G':=G.blk B' s H fp;exact dH (p:=p) G' (mCl G.mono rest) (mTl G.mono ifs) (sCl rest G' elt (⟨t,it,fs,0⟩::g2::gs) sc cpos 0 (.inl rfl) p O) (sTl ifs G' fs ht)
              ·exact eI (mI G.mono src) (aJ (mCl G.mono rest) (mTl G.mono ifs)) σ H _ (lP mc D σ H h)
             ·cases h2
         | _=>exact absurd he Hi
      ·refine plain ?_;simp only [MD] at sw;refine cM ?_;rw [pG G.sc q,sw]
    | SetComp _ _ _ _=>cases m <;> exact absurd he Hi
    | DictComp _ _ _ _ _ =>
      refine plain (cM ?_);rw [vF G.sc q];unfold CY at U;simp only [JA] at U;rw [U]
    | _=>exact plain (cM rfl)
  | _=>simp [ki] at L
 | .par i j a b,G,q,s,h=>by
  refine fM s h fun ts e pos h=>?_;refine cL ts h fun tg h=>?_;refine cZ tg h fun ts k p h=>?_;refine cZ e h fun es k' p' h=>?_;refine ja ts h fun t u h=>?_;refine ja es h fun e f h=>?_;refine i9 t h fun x px h=>?_;refine i9 u h fun y py h=>?_;simp only [z4,decide_eq_true_eq] at h;obtain ⟨⟨⟨⟨⟨⟨⟨hi,hj⟩,EV⟩,n1⟩,n2⟩,L⟩,hb⟩,hw⟩:=h;obtain ⟨i1,i2⟩:=qU hi;obtain ⟨j1,j2⟩:=qU hj;exact PS.imp (BM G.calm G.nd (by rw [G.N];exact i1) (by rw [G.N];exact j1) EV (by rw [G.sc];exact i2) (by rw [G.sc];exact j2) (cn (mE G.mono a) (aH (mE G.mono b) aI) (sE a G _ L) (cn (mE G.mono b) aI (sE b G _ hb) eX (am n2)) (am n1)) (B2 G.sc q hw) (cM rfl)) (uI (aH (mE G.mono a) (aH (mE G.mono b) aI)))
 | .put2 o i o' i' m,G,q,s,h=>by
  refine fM s h fun ts e pos h=>?_;refine cL ts h fun tg h=>?_;refine cZ tg h fun ts k p h=>?_;refine ja ts h fun t u h=>?_;refine bY t h fun x y tp h=>?_;refine bY u h fun x' y' tp' h=>?_;simp only [z4] at h;obtain ⟨⟨⟨⟨⟨⟨⟨J,ET⟩,U⟩,ho⟩,hi⟩,EW⟩,EX⟩,he⟩:=h;exact AY G.calm (by have:=G.units;lia) (mE G.mono m) (mE G.mono o) (mE G.mono i) (mE G.mono o') (mE G.mono i') (sE m G e he) (sE o G x ho) (sE i G y hi) (sE o' G x' EW) (sE i' G y' EX) (cM (ig U)) D4 (fun v=>by cases y <;> first | rfl | (simp [bw] at J;done)) (fun v=>by cases y' <;> first | rfl | (simp [bw] at ET;done))
 | .put o i m,G,q,s,h=>by
  refine fM s h fun ts e pos h=>?_;refine cL ts h fun tg h=>?_;refine bY tg h fun x y tp h=>?_;simp only [z4] at h;obtain ⟨⟨⟨⟨J,U⟩,ho⟩,hi⟩,he⟩:=h;exact CA (by have:=G.units;lia) (mE G.mono m) (mE G.mono o) (mE G.mono i) (sE m G e he) (sE o G x ho) (sE i G y hi) (cM (ig U)) rfl (fun v=>by cases y <;> first | rfl | (simp [bw] at J;done))
 | .augI o i op m,G,q,s,h=>by
  refine qq s h fun t o' e pos h=>?_;refine bY t h fun x y tp h=>?_;simp only [z4,decide_eq_true_eq] at h;obtain ⟨⟨⟨⟨⟨rfl,EY⟩,J⟩,ho⟩,hi⟩,he⟩:=h;have hu:X.A.units+1 < Js:=by have:=G.units;lia
  have L:∀ ov iv new,augStore y ov iv new=(do holding [new,ov,iv] (NY ov iv new);release [new,ov,iv] [];pure .next):=fun ov iv new=>by cases y <;> first | rfl | (simp [bw] at J;done)
  cases op with
  | add=>exact kL hu (mE G.mono o) (mE G.mono i) (mE G.mono m) lQ (sE o G x ho) (sE i G y hi) (sE m G e he) uE L
  | sub=>exact kL hu (mE G.mono o) (mE G.mono i) (mE G.mono m) lU (sE o G x ho) (sE i G y hi) (sE m G e he) uF L
  | mul=>exact kL hu (mE G.mono o) (mE G.mono i) (mE G.mono m) lV (sE o G x ho) (sE i G y hi) (sE m G e he) uH L
  | _=>simp at EY
 | .drop m,G,q,s,h=>by
  refine CT s h fun e _ h=>?_;simp only [z4] at h;exact PS.imp (zU (sE m G _ h.2) (ig h.1)) (uD (mE G.mono m))
 | .ret m,G,q,s,h=>by
  refine yA s h fun o _ h=>?_;refine jos o h fun e h=>?_;rw [wS];exact PS.imp (BJ (sE m G _ h)) (xS (mE G.mono m))
 | .ite c a b,G,q,s,h=>by
  refine EK s h fun t x y _ h=>?_;simp only [z4] at h;exact PS.imp (Dy (sT c G _ h.1.1) (sSs a G q _ h.1.2) (sSs b G q _ h.2)) (AE (mT G.mono c))
 | .for g src b,G,q,s,h=>by
  refine E9 s h fun tg it body els _ h=>?_;refine fN els h fun  h=>?_;simp only [z4] at h;obtain ⟨⟨⟨hs,F⟩,hi⟩,hb⟩:=h;exact PS.imp (BP (fun e s z=>(G.hx e s z).elim) G.calm (sI src G _ _ hi).1 (sG G g _ F) (sSs b G q _ hb) (pE hs)) (xU (mI G.mono src) (mSs G.mono b))
 | .while c b,G,q,s,h=>by
  refine AZ s h fun t body els _ h=>?_;refine fN els h fun  h=>?_;simp only [z4] at h;exact PS.imp (wB (fun e s z=>(G.hx e s z).elim) (sT c G _ h.1) (sSs b G q _ h.2)) (sy (mT G.mono c) (mSs G.mono b))
 | .frz i m,G,q,s,h=>by
  simp only [okS] at h;exact CF (sS m G q s h)
 | .pass,G,q,s,h=>by
  refine CV s h fun _ h=>?_;exact PS.imp zT lN
 | .brk,G,q,s,h=>by
  refine B0 s h fun _ h=>?_;exact PS.imp wz sx
 | .cnt,G,q,s,h=>by
  refine sY s h fun _ h=>?_;exact PS.imp qe uC
theorem sSs:∀ (m:MSs) (G:Good C Φ k X) (j:C.sc.kind = .function) (s:List Stmt),okSs m C s=true->PSs X s (lS X.K (wSs Φ m))
 | .nil,G,j,s,h=>by
  simp [okSs] at h;subst h;exact PSs.imp zS lN
 | .cons m r,G,j,[],h=>by simp [okSs] at h
 | .cons m r,G,j,s::ss,h=>by
  simp only [okSs,z4] at h;exact PSs.imp (wy (sS m G j s h.1) (sSs r G j ss h.2)) (xR (mS G.mono m) (mSs G.mono r))
end
end
end
section
structure FD where
 name:Str
 st:Stmt
 N:List Str
 np:Nat
 body:MSs
noncomputable def fi (N:List Str) (ds:List D):al:=ds.map some++Ha (N.length - ds.length) none
noncomputable def phi (T:List FD):Nat->Phi
 | 0=>fun _ _ _ _=>False
 | k+1=>fun f ds M Q=>∃ d,T[f]? = some d/\ds.length=d.np/\wSs (phi T k) d.body { nx:=fun _ M'=>Q .non M',rt:=Q } (fi d.N ds) M
theorem jc (T:List FD):∀ k f,aQ (phi T k f)
 | 0,f=>fun _ _ _ _ _ q=>q.elim
 | k+1,f=>fun ds M Q Q' h ⟨d,e,l,q⟩=>⟨d,e,l,mSs (jc T k) d.body { nx:=fun _ M'=>Q .non M',rt:=Q } { nx:=fun _ M'=>Q' .non M',rt:=Q' } _ _ ⟨fun _ M' q'=>h _ _ q',h,fun _ _ z=>z,fun _ _ z=>z⟩ q⟩
noncomputable def t9 (Γ:List Str) (cs:List (Str×D)) (d:FD):Bool :=
 decide ((aw d.st).kind = .function) && !(aw d.st).isCoroutine && !(aw d.st).isGenerator&&decide (d.N.Nodup)&&decide (d.np<=d.N.length)
  && (d.N.take d.np).all (fun x=>(aw d.st).names.lookup x==some .local || (aw d.st).names.lookup x==some .cell)
  && (aw d.st).names.all (fun y=>!(y.2 == .free))&&okSs d.body ⟨Γ,d.N,aw d.st,d.N,cs⟩ (bU d.st)
theorem yF {Γ:List Str} {cs:List (Str×D)} {d:FD} (h:t9 Γ cs d=true):gK d.N (d.N.take d.np) (aw d.st)/\(d.N.take d.np).length=d.np/\okSs d.body ⟨Γ,d.N,aw d.st,d.N,cs⟩ (bU d.st)=true:=by
 simp only [t9,z4,decide_eq_true_eq,JA] at h;obtain ⟨⟨⟨⟨⟨⟨⟨h1,h2⟩,q⟩,B⟩,O⟩,F⟩,G⟩,J⟩:=h;have j:(d.N.take d.np).length=d.np:=by rw [HR];lia
 refine ⟨⟨h1,h2,q,B,by rw [j],fun x hx=>?_,fun y L e=>?_⟩,j,J⟩
 ·have z:=KN.mp F x hx;simpa using z
 ·have z:=KN.mp G y L;rw [e] at z;simp at z
section
variable {P:HB} {w:HX} {K:Frag} {mg:Str->Option hH} {base:Heap}
structure zE (K:Frag) (mg:Str->Option hH) (T:List FD) (cs:List (Str×D)):Prop where
 blt:∀ x∈bltNames,mg x=none
 fns:∀ (i:Nat) (d:FD),T[i]? = some d -> ∃ f fd,Fun K d.name d.name d.st f fd/\mg d.name=some (.ref f)/\Mk K J3 d.name=some (some (.ref f))/\Binds K fd (d.N.take d.np) []
 ok:∀ d∈T,t9 (T.map (·.name)) cs d=true
 cst:∀ x d,(x,d)∈cs -> ∃ u,mg x=some u/\GV K d u
theorem vG {T:List FD} {cs:List (Str×D)} (O:zE K mg T cs):∀ (k i:Nat) (d:FD) (f:Addr) (fd:Li),T[i]? = some d->Fun K d.name d.name d.st f fd->dP P w K mg base CX0 k f fd (d.N.take d.np) (lSp K (phi T k i))
 | 0,i,d,f,fd,e,F=>⟨fun vs H Q E h=>by obtain ⟨ds,M,_,_,q⟩:=h;exact q.elim,fun A outer s H args us vs Q E _ _ _ _ h=>by obtain ⟨ds,M,_,_,q⟩:=h;exact q.elim⟩
 | k+1,i,d,f,fd,e,F=>by
   obtain ⟨S,hl,hb⟩:=yF (O.ok d (HH e));refine F.ok S (fun vs H Q E h=>?_) fun cdv A outer s H vs Q E hr h=>?_
   ·obtain ⟨ds,M,rm,rs,d',e',l,q⟩:=h;rw [e] at e';cases e';rw [rs.length,l,hl]
   ·obtain ⟨ds,M,rm,rs,d',e',l,q⟩:=h;rw [e] at e';cases e';have G:Good ⟨T.map (·.name),d.N,aw d.st,d.N,cs⟩ (phi T k) k ((iM CX0 P w K mg base d.N d.name (aw d.st) f cdv A outer s H E).nox):=by
     refine ⟨fun _ _ z=>z,rfl,rfl,rfl,S.nd,fun _ _=>rfl,hr,O.blt,fun j x hx=>?_,jc T k,O.cst⟩;have B:(T.map (·.name))[j]? = some x:=hx;rw [HG] at B
     cases Y:T[j]? with
     | none=>rw [Y] at B;cases B
     | some d2 =>
       rw [Y] at B;cases B;obtain ⟨f2,U,Z,m2,n2,b2⟩:=O.fns j d2 Y;exact ⟨f2,U,_,m2,n2,Z.kp,b2,vG O k j d2 f2 U Y Z⟩
    refine ⟨_,sSs d.body G S.kind _ hb,fi d.N ds,M,{ nx:=fun _ M'=>KE' K M H Q .non M',rt:=KE' K M H Q },?_,rm,⟨fun ρ M' σ H' x rs' rm' q'=>?_,fun d M' v H' x rm' rd' q'=>q' v H' x rm' rd',fun _ _ _ _ _ _ _ z=>z,fun _ _ _ _ _ _ _ z=>z⟩,q⟩
    ·refine ⟨by simp [cQ,fi,rs.length],fun j dd J=>?_⟩
     unfold fi at J;unfold cQ
     by_cases L:j < ds.length
     ·rw [Hq (by simpa using L),HG] at J
      cases e3:ds[j]? with
      | none=>rw [e3] at J;cases J
      | some z =>
        rw [e3] at J;cases J;obtain ⟨v,hv,rv⟩:=rs.get e3;refine ⟨v,?_,rv⟩;rw [Hq (by rw [H8,rs.length];exact L),HG,hv];rfl
     ·rw [D1 (by simpa using L),LW] at J
      split at J <;> cases J
    ·exact q' .non H' x rm' (SM.mpr rfl)
theorem D5 {T:List FD} {k i:Nat} {H:Hp} {a:Addr} {ns:List Int} (B:rS H) (F:SqL K H a (ns.map V.int)) (h:phi T k i [.con (ns.map D.int)] (fun _=>none) fun d _=>d = .bl true) :
 lSp K (phi T k i) [.ref a] H (fun v _=>v = .bl true) fun _ _ _=>False:=by
 have j:RM K (fun _=>none) H:=fun _ _ z=>by cases z
 refine ⟨[.con (ns.map D.int)],fun _=>none,j,RDs.cons (SJ.mpr ⟨a,ns.map V.int,rfl,?_,T1 ns⟩) RDs.nil,jc T k i [.con (ns.map D.int)] (fun _=>none) (fun d _=>d = .bl true) (KE' K (fun _=>none) H fun v _=>v = .bl true) (fun d M' e=>fun v H' x rm rd=>?_) h⟩
 ·rcases F with (z | ⟨o,z⟩) | z
  ·rcases B a with q | ⟨o,xs,q⟩
   ·rw [z] at q;cases q
   ·rw [z] at q;cases q
  ·exact .inl ⟨o,z⟩
  ·exact .inr z
 ·subst e;exact SF.mp rd
end
theorem eP (us:List hH) (h:us.length=1):∃ a,us=[a]:=List.length_eq_one_iff.mp h
theorem cT (us:List hH) (h:us.length=2):∃ a b,us=[a,b]:=by
 cases us with
 | nil=>cases h
 | cons a us=>obtain ⟨b,rfl⟩:=eP us (Nat.succ.inj h);exact ⟨a,b,rfl⟩
theorem ii (us:List hH) (h:us.length=3):∃ a b c,us=[a,b,c]:=by
 cases us with
 | nil=>cases h
 | cons a us=>obtain ⟨b,c,rfl⟩:=cT us (Nat.succ.inj h);exact ⟨a,b,c,rfl⟩
theorem zF (us:List hH) (h:us.length=4):∃ a b c d,us=[a,b,c,d]:=by
 cases us with
 | nil=>cases h
 | cons a us=>obtain ⟨b,c,d,rfl⟩:=ii us (Nat.succ.inj h);exact ⟨a,b,c,d,rfl⟩
end
section
theorem D6 {T:List FD} {k f:Nat} {d:FD} {ds:List D} {M:Mem} {Q:QD} (e:T[f]? = some d) (l:ds.length=d.np) {ρ:al} (r:fi d.N ds = ρ)
 (h:wSs (phi T k) d.body { nx:=fun _ M'=>Q .non M',rt:=Q } ρ M):phi T (k+1) f ds M Q:=⟨d,e,l,by rw [r];exact h⟩
theorem aA {T:List FD} {n f:Nat} {d:FD} {ds:List D} {M:Mem} {Q:QD} (j : 1<=n) (e:T[f]? = some d) (l:ds.length=d.np) {ρ:al} (r:fi d.N ds = ρ)
 (h:wSs (phi T (n - 1)) d.body { nx:=fun _ M'=>Q .non M',rt:=Q } ρ M):phi T n f ds M Q:=by
 obtain ⟨k,rfl⟩:∃ k,n=k+1:=⟨n - 1,by lia⟩
 exact D6 e l r h
theorem B4 {Φ:Phi} {D:aX} {ρ:al} {M:Mem}:wSs Φ .nil D ρ M=D.nx ρ M:=by rw [wSs];rfl
theorem bH {Φ:Phi} {s:MS} {r:MSs} {D:aX} {ρ:al} {M:Mem}:wSs Φ (.cons s r) D ρ M=wS Φ s { D with nx:=wSs Φ r D } ρ M:=by rw [wSs];rfl
theorem qV {ds:List D} {y:D} {M:Mem} {Q:QD}:wIx (.tup ds) y M Q = ∃ i d,y = .int i/\atI ds i=some d/\Q d M:=rfl
theorem qW {ds:List D} {y:D} {M:Mem} {Q:QD}:wIx (.con ds) y M Q = ∃ i d,y = .int i/\atI ds i=some d/\Q d M:=rfl
theorem aN {a:Addr} {i:Int} {ds:List D} {d:D} {M:Mem} {Q:QD} (h:M a=some (.lst ds)) (e:atI ds i=some d) (q:Q d M):wIx (.ref a) (.int i) M Q:=.inl ⟨ds,i,d,h,rfl,e,q⟩
theorem aU {a:Addr} {i:Int} {ds:List D} {v:D} {j:Nat} {M:Mem} {Q:Mem->Prop} (h:M a=some (.lst ds)) (e:ixN ds.length i=some j) (q:Q (af M a (.lst (ds.set j v)))):dy (.ref a) (.int i) v M Q:=⟨a,rfl,.inl ⟨ds,i,j,rfl,h,e,q⟩⟩
theorem B5 {a:Addr} {ds:List D} {M:Mem} {Q:QD} (h:M a=some (.lst ds)) (q:Q (.int ds.length) M):fY [.ref a] M Q:=⟨_,_,rfl,by simp only [iU,h],q⟩
theorem ag {a:Addr} {ds:List D} {M:Mem} (h:M a=some (.lst ds)):au M (.ref a)=some ds:=by simp only [au,h]
theorem D7 {i:Int} {M:Mem} {Q:QD}:nQ [.int i] M Q=Q (.int i) M:=by
 apply propext;constructor
 ·rintro (⟨j,e,q⟩ | ⟨k,e,q⟩)
  ·cases e;exact q
  ·cases e
 ·exact fun q=>.inl ⟨i,rfl,q⟩
theorem D8 {b:Bool} {M:Mem} {Q:QD}:nQ [.bl b] M Q=Q (.int (if b then 1 else 0)) M:=by
 apply propext;constructor
 ·rintro (⟨j,e,q⟩ | ⟨k,e,q⟩)
  ·cases e
  ·cases e;exact q
 ·exact fun q=>.inr ⟨b,rfl,q⟩
theorem Ea {i j:Int} {M:Mem} {Q:QD}:wEq (.int i) (.int j) M Q=Q (.bl (i==j)) M:=by
 simp [wEq,rb,Ik]
theorem Eb {i j:Int} {M:Mem} {Q:QD}:wNe (.int i) (.int j) M Q=Q (.bl (!(i==j))) M:=by
 simp [wNe,rb,Ik]
theorem vH {i j:Int} {M:Mem} {Q:QD}:iT (.int i) (.int j) M Q=Q (.int (i+j)) M:=rfl
theorem vI {a b:List D} {M:Mem} {Q:QD}:iT (.tup a) (.tup b) M Q=((a≠[]∨True)/\a.length+b.length<=Hd/\Q (.tup (a++b)) M):=rfl
theorem vJ {i j:Int} {M:Mem} {Q:QD}:rX (.int i) (.int j) M Q=Q (.int (i - j)) M:=rfl
theorem vK {i j:Int} {M:Mem} {Q:QD}:kH (.int i) (.int j) M Q=(MulOk i j/\Q (.int (i*j)) M):=rfl
theorem vL {ds:List D} {k:Int} {M:Mem} {Q:QD}:kH (.tup ds) (.int k) M Q=(-(2 ^ 63)<=k/\k < 2 ^ 63/\ds.length*k.toNat<=Hd/\Q (.tup (Ha k.toNat ds).flatten) M):=rfl
theorem qX {i j:Int} {M:Mem} {Q:QD}:mW (.int i) (.int j) M Q=(0 < j/\j < 2 ^ 256/\Q (.int (i / j)) M):=rfl
theorem vM {i j:Int} {M:Mem} {Q:QD}:rY (.int i) (.int j) M Q=(0 < j/\Q (.int (i % j)) M):=rfl
theorem vN {i j:Int} {M:Mem} {Q:QD}:rZ (.int i) (.int j) M Q=(0<=j/\j<=1000000/\i.natAbs < 2 ^ 64/\Q (.int (i ^ j.toNat)) M):=rfl
theorem zG {i j:Int} {M:Mem} {Q:QD}:wLt (.int i) (.int j) M Q=Q (.bl (decide (i < j))) M:=rfl
theorem zH {i j:Int} {M:Mem} {Q:QD}:wLe (.int i) (.int j) M Q=Q (.bl (decide (i<=j))) M:=rfl
theorem tf {i j:Int} {M:Mem} {Q:QD}:wGt (.int i) (.int j) M Q=Q (.bl (decide (j < i))) M:=rfl
theorem zI {i j:Int} {M:Mem} {Q:QD}:wGe (.int i) (.int j) M Q=Q (.bl (decide (j<=i))) M:=rfl
theorem qY {i j:Int} {M:Mem} {Q:QD}:mZ (.int i) (.int j) M Q=Q (.int (i+j)) M:=rfl
theorem qZ {i j:Int} {M:Mem} {Q:QD}:n6 (.int i) (.int j) M Q=Q (.int (i - j)) M:=rfl
theorem r6 {i j:Int} {M:Mem} {Q:QD}:nc (.int i) (.int j) M Q=(MulOk i j/\Q (.int (i*j)) M):=rfl
theorem vO {i:Int} {M:Mem} {Q:QD}:s9 (.int i) M Q=Q (.int (-i)) M:=rfl
theorem D9 {i:Int} {M:Mem} {Q:QD}:nP [.int i] M Q=Q (.int (if i < 0 then -i else i)) M:=by simp [nP]
theorem B6 {i j:Int} {M:Mem} {Q:QD}:mX [.int i,.int j] M Q=Q (.int (if j < i then j else i)) M:=by
 apply propext;constructor
 ·rintro ⟨a,b,e,q⟩;cases e;exact q
 ·exact fun q=>⟨i,j,rfl,q⟩
theorem Da {ds:List D} {M:Mem} {Q:QD}:fY [.con ds] M Q=Q (.int ds.length) M:=by simp [fY,iU]
theorem Db {ds:List D} {M:Mem} {Q:QD}:fY [.tup ds] M Q=Q (.int ds.length) M:=by simp [fY,iU]
theorem kl {ds:List D} {M:Mem}:au M (.tup ds)=some ds:=rfl
theorem vP {ds:List D} {M:Mem}:au M (.con ds)=some ds:=rfl
theorem zJ {α:Sort _} {a b : α}:(if true=true then a else b)=a:=rfl
theorem zK {α:Sort _} {a b : α}:(if false=true then a else b)=b:=rfl
theorem B7 {ta tb:TEd} {ρ:al} {M:Mem} {R:List D->(Mem->Prop)->Mem->Prop}:oj ta tb ρ M R=ta ρ M fun x j=>tb ρ j fun y M2=>∃ xs ys,au M2 x=some xs/\au M2 y=some ys/\R (JN jJ xs ys) (fun M=>au M x=some xs/\au M y=some ys) M2:=by
 unfold oj bq;congr 1;funext x j;unfold cy;congr 1;funext y M2;apply propext;constructor
 ·rintro ⟨x',y',xs,ys,e,q⟩
  cases e;exact ⟨xs,ys,q⟩
 ·rintro ⟨xs,ys,q⟩;exact ⟨x,y,xs,ys,rfl,q⟩
theorem vQ {x y:Str} {M:Mem} {Q:QD}:iT (.str x) (.str y) M Q=(x.length+y.length<=Hd/\Q (.str (x++y)) M):=rfl
local macro_rules | `(tactic| walk_at "wp")=>`(tactic| ((try dsimp only [wS,wE,wA,wAnds,wOrs,wO,wT,wAndTs,wOrTs,wTl,wI,wCl,wCmp,bG,bGs,opB,opC,opF,opM,CN,opI,iQ,nh,ni,wC,wOp,wUn,cy,bq,wAr,iR,nJ,nK,nX,jC,jD,nY,jE,nZ,jF,wIf,eY,jG,wSl,jH,jP,gu,jW,wBM,ce,fZ,bV,oh,oi,jK,ka,gy,jI,eG,br,dF,gW,kF,gX,ow,gd,jM,jN,ox,sIf,iW,oz,oA,gf,oB,jO,vH,vI,vQ,vJ,vK,vL,qX,vM,vN,zG,zH,tf,zI,qY,qZ,r6,vO,kl,vP,qV,qW,zJ,zK,OA,KL,Qw,Qx,Ov,L3,Rt,Ru,Rx,Hj,Mg,Io,Jd]);(try simp only [wS,wE,wA,wAnds,wOrs,wO,wT,wAndTs,wOrTs,wTl,wI,wCl,wCmp,bG,bGs,opB,opC,opF,opM,CN,opI,iQ,wC,wOp,wUn,cy,bq,wAr,iR,nJ,nK,nX,jC,jD,nY,jE,nZ,jF,wIf,eY,jG,wSl,jH,jP,gu,jW,wBM,ce,fZ,bV,oh,oi,B7,jK,ka,gy,jI,eG,br,dF,gW,kF,gX,ow,gd,jM,jN,ox,sIf,iW,oz,oA,gf,oB,jO,B4,
 vH,vI,vQ,vJ,vK,vL,qX,vM,vN,zG,zH,tf,zI,qY,qZ,r6,vO,D7,D8,Ea,Eb,D9,B6,Da,Db,kl,vP,qV,qW,zJ,zK,Iw,if_false,if_true,
 OA,KL,Qw,Qx,QO,exists_eq_left',exists_eq_left,exists_eq_right,exists_and_left,exists_and_right,D.bl.injEq,D.int.injEq,D.ref.injEq,D.tup.injEq,Ov,L3,Rt,Ru,Rx,Hj,Mg,decide_eq_true_eq,L5,and_true,true_and,Io,Jd])))
local macro_rules | `(tactic| walk_at "st")=>`(tactic| ((first | rw [bH] | (dsimp only;rw [bH]));walk_at "wp"))
theorem Dc {a:Addr} {t:Bool} {kvs:List (D×D)} {k d:D} {M:Mem} {Q:QD} (h:M a=some (.dct t kvs)) (ok:eF t k=true) (e:dget kvs k=some d) (q:Q d M):wIx (.ref a) k M Q:=.inr (.inl ⟨t,kvs,d,h,ok,e,q⟩)
theorem km {a:Addr} {kvs:List (D×D)} {k d:D} {M:Mem} {Q:QD} (h:M a=some (.fdc kvs)) (ok:bJ k=true) (e:dget kvs k=some d) (q:Q d M):wIx (.ref a) k M Q:=.inr (.inr ⟨kvs,d,h,ok,e,q⟩)
theorem kR {i:Nat} {t:TSd} {A:aX} {ρ:al} {M:Mem} {a:Addr} {kvs:List (D×D)} (e : ρ[i]? = some (some (.ref a))) (m:M a=some (.dct true kvs)) (h:t A ρ (af M a (.fdc kvs))):sK i t A ρ M:=⟨a,kvs,e,.inl ⟨m,h⟩⟩
theorem fO {a:Addr} {t:Bool} {kvs:List (D×D)} {k v:D} {M:Mem} {Q:Mem->Prop} (h:M a=some (.dct t kvs)) (ok:eF t k=true) (j:kvs.length < Hd) (q:Q (af M a (.dct t (bQ kvs k v)))):dy (.ref a) k v M Q:=⟨a,rfl,.inr ⟨t,kvs,h,ok,j,q⟩⟩
theorem vR {M:Mem} {a:Addr} {o o':O}:af (af M a o) a o'=af M a o':=by
 funext b;unfold af;split <;> rfl
theorem vS {M:Mem} {a:Addr} {o:O} (h:M a=some o):af M a o=M:=by
 funext b;unfold af;split
 ·next e=>rw [e,h]
 ·rfl
def Ge (M M':Mem):Prop:=∀ a o,M a=some o->M' a=some o
theorem Ge.refl {M:Mem}:Ge M M:=fun _ _ h=>h
theorem Ge.trans {M M' M'':Mem} (h:Ge M M') (g:Ge M' M''):Ge M M'':=fun _ _ e=>g _ _ (h _ _ e)
theorem Ge.new {M:Mem} {p:Addr} {o:O} (h:M p=none):Ge M (af M p o):=fun a o' e=>by
 rw [ak (fun z=>by rw [z,h] at e;cases e)];exact e
def Box (b:Addr) (M:Mem):Prop:=∃ x y z:Int,M b=some (.lst [.int x,.int y,.int z])
structure Bx (b:Addr) (M M':Mem):Prop where
 box:Box b M'
 keep:∀ a o,a≠b->M a=some o->M' a=some o
theorem Bx.refl {b:Addr} {M:Mem} (h:Box b M):Bx b M M:=⟨h,fun _ _ _ e=>e⟩
theorem Bx.trans {b:Addr} {M M' M'':Mem} (h:Bx b M M') (g:Bx b M' M''):Bx b M M'':=⟨g.box,fun a o n e=>g.keep a o n (h.keep a o n e)⟩
theorem Bx.ge {b:Addr} {M M' M'':Mem} (h:Bx b M M') (g:Ge M' M''):Bx b M M'':=⟨by obtain ⟨x,y,z,e⟩:=h.box;exact ⟨x,y,z,g _ _ e⟩,fun a o n e=>g _ _ (h.keep a o n e)⟩
theorem Bx.put {b:Addr} {M:Mem} {x y z:Int}:Bx b M (af M b (.lst [.int x,.int y,.int z])):=⟨⟨x,y,z,aa⟩,fun a o n e=>by rw [ak n];exact e⟩
theorem Bx.of {b:Addr} {M M':Mem} (h:Box b M) (g:Ge M M'):Bx b M M':=(Bx.refl h).ge g
theorem vT {b:BT} {tb:TCd} {chk:Mem->Prop} {N:NC} (I:List D->al->Mem->List D->Prop) {xs:List D} {ρ:al} {M:Mem} {acc:List D}
 (h0:I [] ρ M acc)
 (q:∀ l ρ M acc,I l ρ M acc->chk M)
 (hs:∀ l x r ρ M acc,xs=l++x::r->I l ρ M acc -> ∃ ρ',b x ρ = some ρ' /\ ∀ N':NC,(∀ ρ2 M2 j,I (l++[x]) ρ2 M2 j->N' ρ2 M2 j)->tb ρ' M acc N')
 (z:∀ ρ M acc,I xs ρ M acc->N ρ M acc):bO b tb chk N xs ρ M acc:=by
 have g:∀ (r l:List D) (ρ:al) (M:Mem) (acc:List D),xs=l++r->I l ρ M acc->bO b tb chk N r ρ M acc:=by
  intro r
  induction r with
  | nil=>intro l ρ M acc e i;rw [IU] at e;subst e;exact ⟨q _ _ _ _ i,z _ _ _ i⟩
  | cons x r ih =>
    intro l ρ M acc e i;obtain ⟨ρ',B,h⟩:=hs l x r ρ M acc e i;exact ⟨q _ _ _ _ i,ρ',B,h _ fun ρ2 M2 j F=>ih (l++[x]) ρ2 M2 j (by rw [e];simp) F⟩
 exact g xs [] ρ M acc rfl h0
theorem yG {b:BT} {tb:TSd} {chk:Mem->Prop} {E:aX} (I:List D->al->Mem->Prop) {xs:List D} {ρ:al} {M:Mem}
 (h0:I [] ρ M)
 (j:∀ l ρ M,I l ρ M->chk M)
 (hs:∀ l x r ρ M,xs=l++x::r->I l ρ M -> ∃ ρ',b x ρ = some ρ' /\ ∀ F:al->Mem->Prop,(∀ ρ2 M2,I (l++[x]) ρ2 M2->F ρ2 M2)->tb { E with nx:=F,ct:=F,bk:=E.nx } ρ' M)
 (q:∀ ρ M,I xs ρ M->E.nx ρ M):bv b tb chk E xs ρ M:=by
 have g:∀ (r l:List D) (ρ:al) (M:Mem),xs=l++r->I l ρ M->bv b tb chk E r ρ M:=by
  intro r
  induction r with
  | nil=>intro l ρ M e i;rw [IU] at e;subst e;exact ⟨j _ _ _ i,q _ _ i⟩
  | cons x r ih =>
    intro l ρ M e i;obtain ⟨ρ',z,h⟩:=hs l x r ρ M e i;exact ⟨j _ _ _ i,ρ',z,h _ fun ρ2 M2 B=>ih (l++[x]) ρ2 M2 (by rw [e];simp) B⟩
 exact g xs [] ρ M rfl h0
section
variable {T:List FD}
noncomputable def ko (s:Stmt):FD:=⟨"_law_cell_at",s,["_law_script","_law_k"],2,
 (.cons (.ite (.cmp .lt (.var 1) (.blt .len (.cons (.var 0) .nil))) (.cons (.ret (.ix (.var 0) (.var 1)))
 .nil) .nil)
 (.cons (.ret (.int 0))
 .nil))⟩
theorem pH {α:Type} {xs:List α} {i:Int} (h0 : 0<=i) (h1:i < xs.length):∃ x,atI xs i=some x/\xs[i.toNat]? = some x:=by
 have:i.toNat < xs.length:=by lia
 refine ⟨xs[i.toNat],?_,D0 this⟩;unfold atI ixN;simp [h0,h1,D0 this]
theorem B8 {f:Nat} {s:Stmt} (hf:T[f]? = some (ko s)) {n:Nat} (z : 1<=n) {ns:List Int} {k:Int} {M:Mem} {Q:QD} (h0 : 0<=k) (q:∀ i,Q (.int i) M):phi T n f [.con (ns.map D.int),.int k] M Q:=by
 refine aA z hf rfl (ρ:=[some _,some _]) rfl ?_;unfold ko;walk_at "st"
 split
 ·next h =>
  walk_at "st";obtain ⟨x,e,j⟩:=pH (xs:=ns.map D.int) h0 h;rw [HG] at j
  cases e3:ns[k.toNat]? with
  | none=>rw [e3] at j;cases j
  | some y=>rw [e3] at j;cases j;exact ⟨_,e,q y⟩
 ·walk_at "st";exact q 0
theorem fP {i j:Int} (h : -(2 ^ 64) < i/\i < 2 ^ 64):MulOk i j:=.inl h
theorem jd {i j:Int} (h : -(2 ^ 64) < j/\j < 2 ^ 64):MulOk i j:=.inr (.inl h)
noncomputable def kS (s:Stmt):FD:=⟨"_law_mixed",s,["_law_number_here","_law_k","_law_once","_law_twice"],2,
 (.cons (.asg (.name 2) (.bin .mod (.bin .mul (.bin .add (.bin .add (.bin .mod (.var 0) (.int 1000000007)) (.bin .mul (.int 7) (.var 1))) (.int 1)) (.int 48271)) (.int 2147483647)))
 (.cons (.asg (.name 3) (.bin .mod (.bin .mul (.var 2) (.bin .add (.bin .add (.bin .mod (.var 2) (.int 1009)) (.var 1)) (.int 3))) (.int 998244353)))
 (.cons (.ret (.bin .fdiv (.bin .mod (.bin .add (.bin .mul (.var 3) (.int 39373)) (.var 2)) (.int 2147483629)) (.int 64)))
 .nil)))⟩
noncomputable def tj (s:Stmt) (fc fm:Nat):FD:=⟨"_law_box",s,["_law_script","_law_k","_law_cell"],2,
 (.cons (.asg (.name 2) (.call fc (.cons (.var 0) (.cons (.var 1) .nil))))
 (.cons (.ret (.lst (.cons (.bin .mul (.blt .abs (.cons (.var 2) .nil)) (.blt .int (.cons (.cmp .ge (.blt .abs (.cons (.var 2) .nil)) (.bin .pow (.int 10) (.int 18))) .nil))) (.cons (.call fm (.cons (.var 2) (.cons (.bin .add (.int 900) (.var 1)) .nil))) (.cons (.int 0) .nil)))))
 .nil))⟩
theorem Dd {f fc fm:Nat} {s sc:Stmt} (hf:T[f]? = some (tj s fc fm)) (z:T[fc]? = some (ko sc)) {n:Nat} (B:∀ {x k:Int} {M:Mem} {Q:QD},(∀ i,Q (.int i) M)->phi T (n - 1) fm [.int x,.int k] M Q) (G : 2<=n) {ns:List Int} {k:Int} {M:Mem} {Q:QD} (h0 : 0<=k)
 (q:∀ p x y,M p=none->Q (.ref p) (af M p (.lst [.int x,.int y,.int 0]))):phi T n f [.con (ns.map D.int),.int k] M Q:=by
 refine aA (by lia) hf rfl (ρ:=[some _,some _,none]) rfl ?_
 unfold tj;walk_at "st";refine B8 z (by lia) h0 fun i=>?_
 walk_at "st";refine ⟨by decide,by decide,by decide,jd ?_,?_⟩
 ·split <;> lia
 refine B fun j=>?_;exact ⟨by rw [D2];lia,fun p F=>q p _ _ F⟩
noncomputable def pI (s:Stmt) (fm:Nat):FD:=⟨"_law_take",s,["_law_box_here","_law_many","_law_found","_law_reach"],2,
 (.cons (.ite (.cmp .gt (.ix (.var 0) (.int 0)) (.int 0)) (.cons (.asg (.name 2) (.bin .mod (.ix (.var 0) (.int 0)) (.var 1)))
 (.cons (.put (.var 0) (.int 0) (.bin .fdiv (.ix (.var 0) (.int 0)) (.var 1)))
 (.cons (.ret (.var 2))
 .nil))) .nil)
 (.cons (.asg (.tup (.cons (.name 2) (.cons (.name 3) .nil))) (.tup (.cons (.int 0) (.cons (.int 1) .nil))))
 (.cons (.while (.cmp .lt (.var 3) (.var 1)) (.cons (.put (.var 0) (.int 2) (.bin .add (.ix (.var 0) (.int 2)) (.int 1)))
 (.cons (.asg (.name 2) (.bin .add (.bin .mul (.var 2) (.int 33554432)) (.call fm (.cons (.ix (.var 0) (.int 1)) (.cons (.ix (.var 0) (.int 2)) .nil)))))
 (.cons (.asg (.name 3) (.bin .mul (.var 3) (.int 33554432)))
 .nil))))
 (.cons (.ret (.bin .mod (.var 2) (.var 1)))
 .nil))))⟩
def tm (T:List FD) (n fm:Nat):Prop:=∀ {x k:Int} {M:Mem} {Q:QD},(∀ i,Q (.int i) M)->phi T n fm [.int x,.int k] M Q
theorem B9 {f fm:Nat} {s:Stmt} (hf:T[f]? = some (pI s fm)) {n:Nat} (J:tm T (n - 1) fm) (O : 2<=n) {b:Addr} {m:Int} {M:Mem} {Q:QD} (L:Box b M) (h1 : 0 < m) (h2:m<=2 ^ 100)
 (q:∀ r M',0<=r->r < m->Bx b M M'->Q (.int r) M'):phi T n f [.ref b,.int m] M Q:=by
 refine aA (by lia) hf rfl (ρ:=[some _,some _,none,none]) rfl ?_
 unfold pI;obtain ⟨x,y,z,G⟩:=L;walk_at "st";refine aN G (d:=.int x) rfl ?_;simp only [tf];walk_at "wp"
 split
 ·next hx =>
  walk_at "st";refine aN G (d:=.int x) rfl ?_;walk_at "wp";refine ⟨h1,?_⟩;walk_at "st";refine aN G (d:=.int x) rfl ?_;walk_at "wp";refine ⟨h1,by lia,?_⟩
  refine aU G (j:=0) rfl ?_;walk_at "st";exact q _ _ (Nm _ (by lia)) (LQ _ h1) Bx.put
 ·next hx =>
  walk_at "st";refine ⟨by rw [D2];lia,?_⟩
  walk_at "st";refine ⟨5,?_⟩;have go:∀ (f:Nat) (found reach z:Int) (M':Mem),m<=reach*33554432 ^ f->M' b=some (.lst [.int x,.int y,.int z])->Bx b M M' ->
   ba (iR (wOp wLt (iQ 3) (iQ 1))) (wSs (phi T (n - 1)) (MSs.cons (MS.put (ME.var 0) (ME.int 2) (ME.bin BOp.add ((ME.var 0).ix (ME.int 2)) (ME.int 1)))
    (MSs.cons (MS.asg (MG.name 2) (ME.bin BOp.add (ME.bin BOp.mul (ME.var 2) (ME.int 33554432)) (ME.call fm (MEs.cons ((ME.var 0).ix (ME.int 1)) (MEs.cons ((ME.var 0).ix (ME.int 2)) MEs.nil)))))
      (MSs.cons (MS.asg (MG.name 3) (ME.bin BOp.mul (ME.var 3) (ME.int 33554432))) MSs.nil))))
    { nx:=wSs (phi T (n - 1)) (MSs.cons (MS.ret (ME.bin BOp.mod (ME.var 2) (ME.var 1))) MSs.nil) { nx:=fun x M'=>Q D.non M',rt:=Q },rt:=Q } (f+1) [some (.ref b),some (.int m),some (.int found),some (.int reach)] M':=by
   intro f
   induction f with
   | zero =>
     intro found reach z M' hm F B;simp only [ba];walk_at "wp";rw [if_neg (by lia)]
     walk_at "st";exact ⟨h1,q _ _ (Nm _ (by lia)) (LQ _ h1) B⟩
   | succ f ih =>
     intro found reach z M' hm F B;rw [ba];walk_at "wp"
     split
     ·next U =>
      walk_at "st";refine aN F (d:=.int z) rfl ?_;walk_at "wp";refine aU F (j:=2) rfl ?_;walk_at "st";refine ⟨jd (by decide),?_⟩
      refine aN aa (d:=.int y) rfl ?_;refine aN aa (d:=.int (z+1)) rfl ?_;refine J fun i=>?_;walk_at "wp";walk_at "st";refine ⟨jd (by decide),?_⟩
      exact ih _ _ (z+1) _ (by rw [Qf,<- Int.pow_succ'];exact hm) aa (B.trans Bx.put)
     ·walk_at "st";exact ⟨h1,q _ _ (Nm _ (by lia)) (LQ _ h1) B⟩
  exact go 4 0 1 z M (by lia) G (Bx.refl ⟨x,y,z,G⟩)
def pJ (T:List FD) (n f:Nat):Prop:=∀ {b:Addr} {m:Int} {M:Mem} {Q:QD},Box b M->0 < m->m<=2 ^ 100->(∀ r M',0<=r->r < m->Bx b M M'->Q (.int r) M')->phi T n f [.ref b,.int m] M Q
noncomputable def je (s:Stmt) (ft:Nat):FD:=⟨"_law_number",s,["_law_box_here","_law_way"],1,
 (.cons (.asg (.name 1) (.call ft (.cons (.var 0) (.cons (.int 9) .nil))))
 (.cons (.ite (.cmp .eq (.var 1) (.int 0)) (.cons (.ret (.bin .sub (.call ft (.cons (.var 0) (.cons (.int 2001) .nil))) (.int 1000)))
 .nil) .nil)
 (.cons (.ret (.ix (.lst (.cons (.int 0) (.cons (.int 0) (.cons (.int 0) (.cons (.int 1) (.cons (.int 1) (.cons (.int 1) (.cons (.neg (.int 1)) (.cons (.neg (.int 1)) (.cons (.int 2) .nil)))))))))) (.var 1)))
 .nil)))⟩
theorem vU {f ft:Nat} {s:Stmt} (hf:T[f]? = some (je s ft)) {n:Nat} (j:pJ T (n - 1) ft) (U : 1<=n) {b:Addr} {M:Mem} {Q:QD} (G:Box b M)
 (q:∀ r M',-1000<=r->r<=1000->Bx b M M'->Q (.int r) M'):phi T n f [.ref b] M Q:=by
 refine aA (by lia) hf rfl (ρ:=[some _,none]) rfl ?_
 unfold je;walk_at "st";refine j G (by decide) (by decide) fun r Y h0 h1 B=>?_
 walk_at "st"
 split
 ·walk_at "st";refine j B.box (by decide) (by decide) fun Z M2 h0 h1 J=>?_
  walk_at "wp";exact q _ _ (by lia) (by lia) (B.trans J)
 ·next F =>
  walk_at "st";refine ⟨by rw [D2];lia,fun p L=>?_⟩
  have F:r=1∨r=2∨r=3∨r=4∨r=5∨r=6∨r=7∨r=8:=by
   have:r≠0:=fun z=>F (by rw [z];rfl)
   lia
  have O:=B.ge (Ge.new (o:=.lst [.int 0,.int 0,.int 0,.int 1,.int 1,.int 1,.int (-1),.int (-1),.int 2]) L)
  rcases F with rfl | rfl | rfl | rfl | rfl | rfl | rfl | rfl <;> exact aN aa rfl (q _ _ (by decide) (by decide) O)
end
section
variable {T:List FD}
def pK (T:List FD) (n f:Nat):Prop:=∀ {b:Addr} {M:Mem} {Q:QD},Box b M->(∀ r M',-1000<=r->r<=1000->Bx b M M'->Q (.int r) M')->phi T n f [.ref b] M Q
def cC (ns:List Int):Prop:=∀ x∈ns,-1000<=x/\x<=1000
theorem dB {lo:Int} {n:Nat}:(cz lo n).length=n:=by simp [cz]
theorem aq {α:Type} {xs l r:List α} {x : α} (e:xs=l++x::r):l.length < xs.length:=by rw [e];simp
noncomputable def pL (s:Stmt) (fn:Nat):FD:=⟨"_law_part",s,["_law_box_here","_law_length"],2,
 (.cons (.ret (.blt .tuple (.cons (.comp [none,(some 0)] ["_law_k","_law_box_here"] (.last (.rng1 (.var 1)) (.name 0) .nil (.call fn (.cons (.var 1) .nil)))) .nil)))
 .nil)⟩
theorem Ba {f fn:Nat} {s:Stmt} (hf:T[f]? = some (pL s fn)) {n:Nat} (B:pK T (n - 1) fn) (Y : 1<=n) {b:Addr} {L:Nat} (Z:L<=1000) {M:Mem} {Q:QD} (F:Box b M)
 (q:∀ (ns:List Int) M',ns.length=L->cC ns->Bx b M M'->Q (.tup (ns.map .int)) M'):phi T n f [.ref b,.int L] M Q:=by
 refine aA (by lia) hf rfl (ρ:=[some _,some _]) rfl ?_
 unfold pL;walk_at "st";refine ⟨by lia,by lia,?_⟩
 refine vT (I:=fun l ρ M' acc=>∃ (ns:List Int) (x:Option D),acc=ns.map .int/\ns.length=l.length/\cC ns/\Bx b M M' /\ ρ = [x,some (.ref b)]) ⟨[],none,rfl,rfl,fun _ h=>by simp at h,Bx.refl F,rfl⟩ (fun _ _ _ _ _=>trivial) ?_ ?_
 ·rintro l x r ρ M1 acc e ⟨ns,o,rfl,j,hs,z,rfl⟩;refine ⟨_,rfl,fun N' G=>?_⟩;walk_at "wp";refine B z.box fun v M2 h1 h2 J=>?_;have:=aq e;rw [dB] at this;refine ⟨by rw [H8,j,D2];lia,G _ _ _ ⟨ns++[v],_,by simp,by simp [j],?_,z.trans J,rfl⟩⟩
  intro y O
  rcases Hu.mp O with h | h
  ·exact hs y h
  ·simp at h;subst h;exact ⟨h1,h2⟩
 ·rintro ρ M1 acc ⟨ns,o,rfl,j,hs,z,rfl⟩ p U;rw [dB] at j;refine ⟨_,ns.map .int,rfl,ag aa,q ns _ (by lia) hs (z.ge (Ge.new U))⟩
noncomputable abbrev Pr:=List Int×List Int×List Int
noncomputable def prD (p:Pr):D:=.tup [.tup (p.1.map .int),.tup (p.2.1.map .int),.tup (p.2.2.map .int)]
noncomputable def yH (p:Pr):IY:=.tuple [.tuple (p.1.map .int),.tuple (p.2.1.map .int),.tuple (p.2.2.map .int)]
structure PrOk (L0 L1 L2:Nat) (p:Pr):Prop where
 l0:p.1.length=L0
 l1:p.2.1.length=L1
 l2:p.2.2.length=L2
 s0:cC p.1
 s1:cC p.2.1
 s2:cC p.2.2
theorem dJ {k:Nat} {M:Mem}:∀ ns:List Int,aF (rb k M) (ns.map D.int)=some (ns.map PyData.int)
 | []=>rfl
 | x::r=>by
   have e:rb k M (.int x)=some (.int x):=by cases k <;> rfl
   simp [aF,e,dJ r]
theorem Ec {k:Nat} {M:Mem} (p:Pr):rb (k+2) M (prD p)=some (yH p):=by
 simp [rb,prD,yH,aF,dJ]
theorem vW {k:Nat} {M:Mem}:∀ ps:List Pr,aF (rb (k+2) M) (ps.map prD)=some (ps.map yH)
 | []=>rfl
 | p::r=>by simp [aF,Ec,vW r]
theorem cb {k:Nat} {M:Mem} {a:Addr} {ds:List D} (h:M a=some (.lst ds)):rb (k+1) M (.ref a)=(aF (rb k M) ds).map RF:=by
 simp only [rb,h]
theorem eA {Φ:Phi} {s:MS} {r:MSs} {E:aX} {ρ:al} {M:Mem} (I:al->Mem->Prop) (h1:∀ R:al->Mem->Prop,(∀ ρ M,I ρ M->R ρ M)->wS Φ s { E with nx:=R } ρ M) (h2:∀ ρ M,I ρ M->wSs Φ r E ρ M):wSs Φ (.cons s r) E ρ M:=by
 rw [bH];exact h1 _ h2
theorem Bx.upd {b q:Addr} {M M':Mem} {o:O} (h:Bx b M M') (B:M q=none) (j:q≠b):Bx b M (af M' q o) :=
 ⟨by obtain ⟨x,y,z,e⟩:=h.box;exact ⟨x,y,z,by rw [ak j.symm];exact e⟩,fun u o' nu eu=>by
   rw [ak (fun z=>by rw [z,B] at eu;cases eu)];exact h.keep u o' nu eu⟩
theorem Bx.none {b q:Addr} {M M':Mem} (h:Bx b M M') (z:M' q=none) (j:q≠b):M q=none:=by
 cases e:M q with
 | none=>rfl
 | some o=>rw [h.keep q o j e] at z;cases z
noncomputable def prL (p:Pr):List D:=[.tup (p.1.map .int),.tup (p.2.1.map .int),.tup (p.2.2.map .int)]
theorem gE {k:Nat}:cC (Ha k 0):=fun x h=>by
 rw [(List.mem_replicate.mp h).2];decide
theorem fQ {k:Nat}:(Ha k [D.int 0]).flatten=(Ha k (0:Int)).map D.int:=by
 induction k with
 | zero=>rfl
 | succ k ih=>rw [J4,IG,ih];rfl
def vX (T:List FD) (n f:Nat):Prop:=∀ {b:Addr} {L:Nat} {M:Mem} {Q:QD},L<=1000->Box b M->(∀ (ns:List Int) M',ns.length=L->cC ns->Bx b M M'->Q (.tup (ns.map .int)) M')->phi T n f [.ref b,.int L] M Q
noncomputable def jf (s:Stmt) (ft fp:Nat):FD:=⟨"_law_scheme",s,["_law_box_here","_law_lengths","_law_count","_law_products","_law_k","_law_product","_law_way","_law_side"],3,
 (.cons (.asg (.name 3) (.lst .nil))
 (.cons (.for (.name 4) (.rng1 (.var 2)) (.cons (.asg (.name 5) (.comp [none,(some 0)] ["_law_length","_law_box_here"] (.last (.seq (.var 1)) (.name 0) .nil (.call fp (.cons (.var 1) (.cons (.var 0) .nil))))))
 (.cons (.asg (.name 6) (.call ft (.cons (.var 0) (.cons (.int 8) .nil))))
 (.cons (.ite (.and (.cons (.cmp .lt (.var 6) (.int 3)) (.cons (.cmp .ne (.var 3) (.lst .nil)) .nil))) (.cons (.put (.var 5) (.var 6) (.ix (.ix (.var 3) (.call ft (.cons (.var 0) (.cons (.blt .len (.cons (.var 3) .nil)) .nil)))) (.var 6)))
 .nil) .nil)
 (.cons (.ite (.cmp .eq (.var 6) (.int 3)) (.cons (.asg (.name 7) (.call ft (.cons (.var 0) (.cons (.int 3) .nil))))
 (.cons (.put (.var 5) (.var 7) (.bin .mul (.tup (.cons (.int 0) .nil)) (.ix (.var 1) (.var 7))))
 .nil)) .nil)
 (.cons (.drop (.meth .append (.var 3) (.blt .tuple (.cons (.var 5) .nil))))
 .nil))))))
 (.cons (.ret (.bin .add (.blt .tuple (.cons (.var 1) .nil)) (.tup (.cons (.var 3) .nil))))
 .nil)))⟩
theorem vY {f ft fp:Nat} {s:Stmt} (hf:T[f]? = some (jf s ft fp)) {n:Nat} (F4:pJ T (n - 1) ft) (F5:vX T (n - 1) fp) (hn : 1<=n) {b a:Addr} {L0 L1 L2 c:Nat} (h0:L0<=1000) (h1:L1<=1000) (h2:L2<=1000) (hc:c<=1000) {M:Mem} {Q:QD} (hb:Box b M) (ET:a≠b) (ha:M a=some (.lst [.int L0,.int L1,.int L2]))
 (q:∀ (ps:List Pr) pr M',ps.length=c->(∀ p∈ps,PrOk L0 L1 L2 p)->Bx b M M'->M pr=none->M' pr=some (.lst (ps.map prD))->Q (.tup [.int L0,.int L1,.int L2,.ref pr]) M'):phi T n f [.ref b,.ref a,.int c] M Q:=by
 refine aA (by lia) hf rfl (ρ:=[some _,some _,some _,none,none,none,none,none]) rfl ?_
 unfold jf;walk_at "st";refine ⟨by lia,fun pr EV=>?_⟩
 have U:pr≠b:=fun z=>by obtain ⟨x,y,w,e⟩:=hb;rw [<- z,EV] at e;cases e
 have Fl:pr≠a:=fun z=>by rw [<- z,EV] at ha;cases ha
 walk_at "st";refine ⟨by lia,by lia,?_⟩
 refine yG (I:=fun l ρ M'=>∃ (ps:List Pr) (o4 o5 o6 o7:Option D),ρ = [some (.ref b),some (.ref a),some (.int c),some (.ref pr),o4,o5,o6,o7]/\ps.length=l.length/\(∀ p∈ps,PrOk L0 L1 L2 p)/\Bx b M M'/\M' pr=some (.lst (ps.map prD)))
  ⟨[],none,none,none,none,rfl,rfl,fun _ h=>by simp at h,Bx.of hb (Ge.new EV),aa⟩ (fun _ _ _ _=>trivial) ?_ ?_
 ·rintro l x r ρ M1 e ⟨ps,o4,o5,o6,o7,rfl,hl,hp,x1,F6⟩;have Fd:=aq e;rw [dB] at Fd;refine ⟨_,rfl,fun F hF=>?_⟩;walk_at "wp";have EW:=x1.keep a _ ET ha;rw [bH];walk_at "wp";refine ⟨_,ag EW,?_⟩;simp only [bO];refine ⟨ag EW,_,rfl,?_⟩;walk_at "wp";refine F5 h0 x1.box fun n0 M2 l0 s0 x2=>?_;have F7:=x2.keep a _ ET EW;refine ⟨by simp [D2],ag F7,?_⟩
  refine F5 h1 x2.box fun n1 M3 l1 s1 x3=>?_;have F8:=x3.keep a _ ET F7;refine ⟨by simp [D2],ag F8,?_⟩
  refine F5 h2 x3.box fun n2 M4 l2 s2 x4=>?_;have EZ:=x4.keep a _ ET F8;refine ⟨by simp [D2],ag EZ,fun pq EU=>?_⟩
  have ES:=x4.keep pr _ U (x3.keep pr _ U (x2.keep pr _ U F6));have x5:=((x1.trans x2).trans (x3.trans x4)).ge (Ge.new (o:=.lst ([]++[D.tup (L7 D.int n0)]++[D.tup (L7 D.int n1)]++[D.tup (L7 D.int n2)])) EU);have J:pq≠b:=fun z=>by obtain ⟨x,y,w,e⟩:=x4.box;rw [<- z,EU] at e;cases e
  have L:M pq=none:=((x1.trans x2).trans (x3.trans x4)).none EU J;have Y:pr≠pq:=fun z=>by rw [z,EU] at ES;cases ES
  have Fm:a≠pq:=fun z=>by rw [z,EU] at EZ;cases EZ
  have F1:af M4 pq (.lst ([]++[D.tup (L7 D.int n0)]++[D.tup (L7 D.int n1)]++[D.tup (L7 D.int n2)])) pr=some (.lst (ps.map prD)):=by rw [ak Y];exact ES
  have F9:af M4 pq (.lst ([]++[D.tup (L7 D.int n0)]++[D.tup (L7 D.int n1)]++[D.tup (L7 D.int n2)])) pq=some (.lst (prL (n0,n1,n2))):=aa;have hok:PrOk L0 L1 L2 (n0,n1,n2):=⟨l0,l1,l2,s0,s1,s2⟩;generalize af M4 pq (.lst ([]++[D.tup (L7 D.int n0)]++[D.tup (L7 D.int n1)]++[D.tup (L7 D.int n2)]))=M5 at x5 F1 F9;generalize hP:(n0,n1,n2)=p0 at hok F9;clear EU ES x4 EZ x3 F8 x2 F7 hP;walk_at "st";refine F4 x5.box (by decide) (by decide) fun way M6 w0 w1 x6=>?_
  have EX:=x6.keep pr _ U F1;have Fb:=x6.keep pq _ J F9;have Fc:=x5.trans x6;refine eA (I:=fun ρ' M'=>ρ'=[some (.ref b),some (.ref a),some (.int c),some (.ref pr),some x,some (.ref pq),some (.int way),o7] /\ ∃ p:Pr,PrOk L0 L1 L2 p/\Bx b M M'/\M' pr=some (.lst (ps.map prD))/\M' pq=some (.lst (prL p))) (fun R hR=>?_) ?_
  ·walk_at "wp"
   split
   ·next hw =>
    refine ⟨by lia,fun pe Fe=>?_⟩
    have g:=Ge.new (o:=.lst []) Fe;refine ⟨_,_,cb (g _ _ EX) |>.trans (by rw [vW];rfl),cb aa,?_⟩
    walk_at "wp";have x7:=Fc.ge g;have O:=g _ _ EX;have EY:=g _ _ Fb
    split
    ·next Ff =>
     have Fk : 0 < ps.length:=by
      cases ps with
      | nil=>simp [Ik,Ih] at Ff
      | cons p r=>simp
     walk_at "st";refine B5 O ?_;refine F4 x7.box (by rw [H8];lia) (by rw [H8];lia) fun r M8 r0 r1 x8=>?_
     have G:=x8.keep pr _ U O;have Z:=x8.keep pq _ J EY;obtain ⟨d,e1,e2⟩:=pH r0 r1;refine aN G e1 ?_;rw [HG] at e2
     cases e3:ps[r.toNat]? with
     | none=>rw [e3] at e2;cases e2
     | some pp =>
       rw [e3] at e2;cases e2;have ho:=hp pp (HH e3);have Fg:way=0∨way=1∨way=2:=by lia
       have x9:=x7.trans x8
       rcases Fg with rfl | rfl | rfl
       ·refine ⟨_,_,rfl,rfl,aU Z (j:=0) rfl ?_⟩;exact hR _ _ ⟨rfl,(pp.1,p0.2.1,p0.2.2),⟨ho.l0,hok.l1,hok.l2,ho.s0,hok.s1,hok.s2⟩,x9.upd L J,by rw [ak Y];exact G,aa⟩
       ·refine ⟨_,_,rfl,rfl,aU Z (j:=1) rfl ?_⟩;exact hR _ _ ⟨rfl,(p0.1,pp.2.1,p0.2.2),⟨hok.l0,ho.l1,hok.l2,hok.s0,ho.s1,hok.s2⟩,x9.upd L J,by rw [ak Y];exact G,aa⟩
       ·refine ⟨_,_,rfl,rfl,aU Z (j:=2) rfl ?_⟩;exact hR _ _ ⟨rfl,(p0.1,p0.2.1,pp.2.2),⟨hok.l0,hok.l1,ho.l2,hok.s0,hok.s1,ho.s2⟩,x9.upd L J,by rw [ak Y];exact G,aa⟩
    ·exact hR _ _ ⟨rfl,p0,hok,x7,O,EY⟩
   ·exact hR _ _ ⟨rfl,p0,hok,Fc,EX,Fb⟩
  ·rintro ρ M7 ⟨rfl,p,B,x7,O,EY⟩;refine eA (I:=fun ρ' M'=>∃ (o7:Option D),ρ'=[some (.ref b),some (.ref a),some (.int c),some (.ref pr),some x,some (.ref pq),some (.int way),o7] /\ ∃ p:Pr,PrOk L0 L1 L2 p/\Bx b M M'/\M' pr=some (.lst (ps.map prD))/\M' pq=some (.lst (prL p))) (fun R hR=>?_) ?_
   ·walk_at "wp"
    split
    ·walk_at "st";refine F4 x7.box (by decide) (by decide) fun side M8 d0 d1 x8=>?_
     have G:=x8.keep pr _ U O;have Z:=x8.keep pq _ J EY;have x9:=x7.trans x8;have Fa:=x9.keep a _ ET ha;walk_at "st";refine ⟨by rw [D2];lia,?_⟩
     have Fh:side=0∨side=1∨side=2:=by lia
     rcases Fh with rfl | rfl | rfl
     ·refine aN Fa (d:=.int L0) rfl ?_;walk_at "wp";refine ⟨by lia,by lia,by rw [D2];lia,aU Z (j:=0) rfl ?_⟩
      rw [fQ];exact hR _ _ ⟨_,rfl,(Ha (L0:Int).toNat 0,p.2.1,p.2.2),⟨by simp,B.l1,B.l2,gE,B.s1,B.s2⟩,x9.upd L J,by rw [ak Y];exact G,aa⟩
     ·refine aN Fa (d:=.int L1) rfl ?_;walk_at "wp";refine ⟨by lia,by lia,by rw [D2];lia,aU Z (j:=1) rfl ?_⟩
      rw [fQ];exact hR _ _ ⟨_,rfl,(p.1,Ha (L1:Int).toNat 0,p.2.2),⟨B.l0,by simp,B.l2,B.s0,gE,B.s2⟩,x9.upd L J,by rw [ak Y];exact G,aa⟩
     ·refine aN Fa (d:=.int L2) rfl ?_;walk_at "wp";refine ⟨by lia,by lia,by rw [D2];lia,aU Z (j:=2) rfl ?_⟩
      rw [fQ];exact hR _ _ ⟨_,rfl,(p.1,p.2.1,Ha (L2:Int).toNat 0),⟨B.l0,B.l1,by simp,B.s0,B.s1,gE⟩,x9.upd L J,by rw [ak Y];exact G,aa⟩
    ·exact hR _ _ ⟨_,rfl,p,B,x7,O,EY⟩
   ·rintro ρ M9 ⟨Fn,rfl,p,B,x9,F3,Fi⟩;walk_at "st";refine ⟨⟨_,F3⟩,_,_,rfl,ag Fi,_,_,_,rfl,rfl,F3,by rw [H8,D2];lia,?_⟩
    walk_at "wp";exact hF _ _ ⟨ps++[p],_,_,_,_,rfl,by simp [hl],fun p' Fj=>(Hu.mp Fj).elim (hp p') fun z=>by simp at z;subst z;exact B,x9.upd EV U,by rw [aa];simp [prD,prL]⟩
 ·rintro ρ M1 ⟨ps,o4,o5,o6,o7,rfl,hl,hp,x1,F6⟩;have EW:=x1.keep a _ ET ha;dsimp only;walk_at "st";refine ⟨_,_,rfl,ag EW,by rw [D2];lia,?_⟩
  walk_at "wp";rw [dB] at hl;exact ⟨by simp,by rw [D2];lia,q ps pr M1 (by lia) hp x1 EV F6⟩
end
section
theorem aO {α:Type} {f : α -> D} {b:BT} {tb:TCd} {chk:Mem->Prop} {N:NC} (I:List α -> al->Mem->List D->Prop) {ys:List α} {xs:List D} (hx:xs=ys.map f) {ρ:al} {M:Mem} {acc:List D}
 (h0:I [] ρ M acc)
 (q:∀ l ρ M acc,I l ρ M acc->chk M)
 (hs:∀ l x r ρ M acc,ys=l++x::r->I l ρ M acc -> ∃ ρ',b (f x) ρ = some ρ' /\ ∀ N':NC,(∀ ρ2 M2 j,I (l++[x]) ρ2 M2 j->N' ρ2 M2 j)->tb ρ' M acc N')
 (z:∀ ρ M acc,I ys ρ M acc->N ρ M acc):bO b tb chk N xs ρ M acc:=by
 subst hx;have g:∀ (r l:List α) (ρ:al) (M:Mem) (acc:List D),ys=l++r->I l ρ M acc->bO b tb chk N (r.map f) ρ M acc:=by
  intro r
  induction r with
  | nil=>intro l ρ M acc e i;rw [IU] at e;subst e;exact ⟨q _ _ _ _ i,z _ _ _ i⟩
  | cons x r ih =>
    intro l ρ M acc e i;obtain ⟨ρ',B,h⟩:=hs l x r ρ M acc e i;exact ⟨q _ _ _ _ i,ρ',B,h _ fun ρ2 M2 j F=>ih (l++[x]) ρ2 M2 j (by rw [e];simp) F⟩
 exact g ys [] ρ M acc rfl h0
theorem aR {α:Type} {f : α -> D} {b:BT} {tb:TSd} {chk:Mem->Prop} {E:aX} (I:List α -> al->Mem->Prop) {ys:List α} {xs:List D} (hx:xs=ys.map f) {ρ:al} {M:Mem}
 (h0:I [] ρ M)
 (j:∀ l ρ M,I l ρ M->chk M)
 (hs:∀ l x r ρ M,ys=l++x::r->I l ρ M -> ∃ ρ',b (f x) ρ = some ρ' /\ ∀ F:al->Mem->Prop,(∀ ρ2 M2,I (l++[x]) ρ2 M2->F ρ2 M2)->tb { E with nx:=F,ct:=F,bk:=E.nx } ρ' M)
 (q:∀ ρ M,I ys ρ M->E.nx ρ M):bv b tb chk E xs ρ M:=by
 subst hx;have g:∀ (r l:List α) (ρ:al) (M:Mem),ys=l++r->I l ρ M->bv b tb chk E (r.map f) ρ M:=by
  intro r
  induction r with
  | nil=>intro l ρ M e i;rw [IU] at e;subst e;exact ⟨j _ _ _ i,q _ _ i⟩
  | cons x r ih =>
    intro l ρ M e i;obtain ⟨ρ',z,h⟩:=hs l x r ρ M e i;exact ⟨j _ _ _ i,ρ',z,h _ fun ρ2 M2 B=>ih (l++[x]) ρ2 M2 (by rw [e];simp) B⟩
 exact g ys [] ρ M rfl h0
theorem dL {M M':Mem} {x:D} {ds:List D} (h:au M x=some ds) (g:Ge M M'):au M' x=some ds:=by
 cases x with
 | ref a =>
   simp only [au] at h ⊢
   split at h
   ·next e=>rw [g _ _ e];exact h
   ·cases h
 | _=>exact h
theorem yI {M:Mem} {x:D} {ds:List D} (h:au M x=some ds):iU M x=some ds.length:=by
 cases x with
 | ref a =>
   simp only [au] at h
   split at h
   ·next e=>cases h;simp only [iU,e]
   ·cases h
 | tup es=>cases h;rfl
 | con es=>cases h;rfl
 | _=>cases h
theorem Bb {M:Mem} {x:D} {ns:List Int} {Q:QD} (h:au M x=some (ns.map .int)) (q:Q (.int ns.sum) M):si [x] M Q:=⟨_,_,rfl,h,q⟩
theorem fj {α:Type} {xs:List α} {k:Nat} {x : α} (h:xs[k]? = some x):atI xs (k:Int)=some x:=by
 have j:k < xs.length:=(Hy.mp h).1;unfold atI ixN;rw [if_pos (by lia),if_pos (by lia)]
 exact h
theorem bI {n:Nat}:cz 0 n=(IV n).map fun i=>D.int (i:Nat):=by simp [cz]
end
section
variable {T:List FD}
def Big (ns:List Int):Prop:=∀ x∈ns,-1000000000000<=x/\x<=1000000000000
noncomputable def dot (a b:List Int):Int:=(JN (· * ·) a b).sum
theorem mD {B:Int}:∀ {l:List Int},(∀ x∈l,-B<=x/\x<=B) -> -(l.length*B)<=l.sum/\l.sum<=l.length*B
 | [],_=>by simp
 | x::r,h=>by
   obtain ⟨h1,h2⟩:=h x (by simp)
   obtain ⟨q,z⟩:=mD (l:=r) fun y j=>h y (by simp [j])
   rw [Qg,Io,Int.natCast_add,Kt];lia
theorem vZ {x y:Int} (hx : -1000<=x/\x<=1000) (j : -1000000000000<=y/\y<=1000000000000) : -1000000000000000<=x*y/\x*y<=1000000000000000:=by
 have h:(x*y).natAbs<=1000*1000000000000:=by
  rw [PM];exact J1 (by lia) (by lia)
 lia
theorem w4 {a b:List Int} (j:cC a) (q:Big b) (z:a.length<=1000) : -(2 ^ 64) < dot a b/\dot a b < 2 ^ 64:=by
 have h:∀ x∈JN (· * ·) a b,-1000000000000000<=x/\x<=1000000000000000:=by
  intro x hx;obtain ⟨i,hi,e⟩:=Jb.mp hx;rw [List.getElem_zipWith] at e;rw [<- e];exact vZ (j _ (JK _)) (q _ (JK _))
 obtain ⟨h1,h2⟩:=mD h;have hlen:(JN (· * ·) a b).length<=1000:=by rw [PX];lia
 unfold dot;have:((JN (· * ·) a b).length:Int)*1000000000000000<=1000*1000000000000000:=Int.mul_le_mul_of_nonneg_right (by lia) (by lia)
 lia
theorem pM (a b:List Int):JN jJ (a.map .int) (b.map .int)=(a.zip b).map fun xy=>.tup [.int xy.1,.int xy.2]:=by
 rw [List.zipWith_map,Q4,Ry];rfl
theorem iI {α β γ:Type} (f : α -> β -> γ) (a:List α) (b:List β):JN f a b=(a.zip b).map fun xy=>f xy.1 xy.2:=by
 rw [Q4,Ry]
theorem w5 {a b:List Int} {L:Nat} (j:a.length=L) (q:b.length=L):((IV L).map fun i=>a.getD i 0*b.getD i 0).sum=dot a b:=by
 unfold dot;congr 1;apply MQ
 ·simp [j,q]
 ·intro i h1 h2;have:i < L:=by simpa using h1
  simp [Hs,D0 (show i < a.length by lia),D0 (show i < b.length by lia)]
end
section
variable {T:List FD}
noncomputable def pN (x:Str) (s:Stmt):FD:=⟨"_law_mixed",s,[x,"_law_k","_law_once","_law_twice"],2,(kS s).body⟩
theorem w6 {f:Nat} {x:Str} {s:Stmt} (hf:T[f]? = some (pN x s)) {n:Nat} (j : 1<=n):tm T n f:=by
 intro x k M Q q;refine aA j hf rfl (ρ:=[some _,some _,none,none]) rfl ?_;unfold pN kS;walk_at "st";refine ⟨by decide,fP (by decide),jd (by decide),by decide,?_⟩
 walk_at "st";refine ⟨by decide,fP ?_,by decide,?_⟩
 ·have h1:=Nm ((x % 1000000007+7*k+1)*48271) (b:=2147483647) (by decide)
  have h2:=LQ ((x % 1000000007+7*k+1)*48271) (b:=2147483647) (by decide)
  lia
 walk_at "st";refine ⟨jd (by decide),by decide,by decide,by decide,?_⟩
 exact q _
end
section
open PySem PySem.Spec PyProof.Rows L2.Srt
variable {T:List FD}
noncomputable abbrev K3:=Int×Int×Int
noncomputable abbrev Tm:=K3×Int
noncomputable def k3D (k:K3):D:=.tup [.int k.1,.int k.2.1,.int k.2.2]
noncomputable def tmD (t:Tm):D:=.tup [.int t.1.1,.int t.1.2.1,.int t.1.2.2,.int t.2]
noncomputable def kcD (t:Tm):D×D:=(k3D t.1,.int t.2)
noncomputable def k3K (k:K3):Ky:=.tup [.int k.1,.int k.2.1,.int k.2.2]
def klt (a b:K3):Prop:=ltK (k3K a) (k3K b)=true
theorem fo {a b:K3} (h:k3D a=k3D b):a=b:=by
 obtain ⟨a1,a2,j⟩:=a;obtain ⟨b1,b2,b3⟩:=b;simp [k3D] at h;simp [h]
theorem r8 {a b:K3} (h:k3K a=k3K b):a=b:=by
 obtain ⟨a1,a2,j⟩:=a;obtain ⟨b1,b2,b3⟩:=b;simp [k3K] at h;simp [h]
noncomputable def cf (ts:List Tm) (k:K3):Int:=((ts.filter fun t=>decide (t.1=k)).map (·.2)).sum
theorem cD {k:K3}:cf [] k=0:=rfl
theorem aD {t:Tm} {ts:List Tm} {k:K3}:cf (t::ts) k=(if t.1=k then t.2 else 0)+cf ts k:=by
 unfold cf
 by_cases h:t.1=k
 ·rw [HE (by simpa using h),if_pos h];simp
 ·rw [HA (by simpa using h),if_neg h];simp
theorem bB {a b:List Tm} {k:K3}:cf (a++b) k=cf a k+cf b k:=by
 induction a with
 | nil=>simp [cD]
 | cons t a ih=>rw [Ow,aD,aD,ih];lia
theorem ik {a b:List Tm} (h:a.Perm b) {k:K3}:cf a k=cf b k:=by
 induction h with
 | nil=>rfl
 | cons x h ih=>rw [aD,aD,ih]
 | swap x y l=>simp only [aD];lia
 | trans _ _ j q=>rw [j,q]
theorem im {ts:List Tm} {k:K3} (h:∀ t∈ts,t.1≠k):cf ts k=0:=by
 induction ts with
 | nil=>rfl
 | cons t ts ih=>rw [aD,if_neg (h t (by simp)),ih fun u j=>h u (by simp [j])];rfl
theorem eB {ts:List Tm} (j:(ts.map (·.1)).Nodup) {t:Tm} (q:t∈ts):cf ts t.1=t.2:=by
 induction ts with
 | nil=>simp at q
 | cons u ts ih =>
   simp only [Hj,Ip] at j;rw [aD]
   rcases He.mp q with z | z
   ·subst z;rw [if_pos rfl,im fun v B e=>j.1 (by rw [<- e];exact Hl B)]
    lia
   ·rw [if_neg fun e=>j.1 (by rw [e];exact Hl z),ih j.2 z];lia
noncomputable def ck (L:List Tm) (k:K3) (c:Int):List Tm:=if (L.any fun p=>decide (p.1=k))=true then L.map fun p=>if p.1=k then (p.1,p.2+c) else p else L++[(k,c)]
theorem dM {L:List Tm} {k:K3}:dget (L.map kcD) (k3D k)=(L.find? fun p=>decide (p.1=k)).map fun p=>.int p.2:=by
 unfold dget
 induction L with
 | nil=>rfl
 | cons t L ih =>
   by_cases h:t.1=k
   ·rw [Hj,Ms (by simp [kcD,h]),Ms (by simpa using h)];rfl
   ·rw [Hj,Ka (by simp only [decide_eq_true_eq];exact fun e=>h (fo e)),Ka (by simpa using h),ih]
theorem w8 {L:List Tm} {k:K3}:((L.map kcD).any fun p=>decide (p.1=k3D k))=L.any fun p=>decide (p.1=k):=by
 induction L with
 | nil=>rfl
 | cons t L ih =>
   rw [Hj,La,La,ih];congr 1
   by_cases h:t.1=k
   ·simp [kcD,h]
   ·rw [decide_eq_false h];exact decide_eq_false (fun e=>h (fo e))
theorem kT {L:List Tm} (j:(L.map (·.1)).Nodup) {k:K3} {c:Int}:bQ (L.map kcD) (k3D k) (.int ((((L.find? fun p=>decide (p.1=k)).map (·.2)).getD 0)+c))=(ck L k c).map kcD:=by
 unfold bQ ck;rw [w8]
 split
 ·next h =>
  rw [Im,Im];apply IT;intro t q;simp only [Og]
  by_cases e:t.1=k
  ·rw [if_pos (by rw [<- e];rfl),if_pos e]
   have:L.find? (fun p=>decide (p.1=k))=some t:=by
    clear h
    induction L with
    | nil=>simp at q
    | cons u L ih =>
      simp only [Hj,Ip] at j
      rcases He.mp q with z | z
      ·subst z;rw [Ms (by simpa using e)]
      ·rw [Ka (by simp;intro B;exact j.1 (by rw [B,<- e];exact Hl z))]
       exact ih j.2 z
   rw [this];rfl
  ·rw [if_neg (c:=(kcD t).1=k3D k) (fun z=>e (fo z)),if_neg e]
 ·next h =>
  have:L.find? (fun p=>decide (p.1=k))=none:=by
   rw [LR];intro x hx;simp only [decide_eq_true_eq];intro e;exact h (KO.mpr ⟨x,hx,by simpa using e⟩)
  rw [this];simp [kcD]
theorem mF {L:List Tm} {k:K3} {c:Int}:(ck L k c).map (·.1)=if (L.any fun p=>decide (p.1=k))=true then L.map (·.1) else L.map (·.1)++[k]:=by
 unfold ck
 split
 ·rw [Im];apply IT;intro t _;simp only [Og]
  split <;> rfl
 ·simp
theorem kr {L:List Tm} (j:(L.map (·.1)).Nodup) {k:K3} {c:Int}:((ck L k c).map (·.1)).Nodup:=by
 rw [mF]
 split
 ·exact j
 ·next h =>
  refine Lg.mpr ⟨j,by simp,fun a z b q e=>?_⟩
  simp at q;subst q;subst e;obtain ⟨t,B,e⟩:=Hk.mp z;exact h (KO.mpr ⟨t,B,by simpa using e⟩)
theorem pO {L:List Tm} {k:K3} {c:Int} {a:K3} (h:a∈(ck L k c).map (·.1)):a∈L.map (·.1)∨a=k:=by
 rw [mF] at h
 split at h
 ·exact .inl h
 ·rcases Hu.mp h with z | z
  ·exact .inl z
  ·exact .inr (by simpa using z)
theorem pP {L:List Tm} {k:K3} {c:Int}:(ck L k c).length<=L.length+1:=by
 unfold ck;split <;> simp
theorem Bc {L:List Tm} (j:(L.map (·.1)).Nodup) {k a:K3} {c:Int}:cf (ck L k c) a=cf L a+if k=a then c else 0:=by
 unfold ck
 split
 ·next h =>
  obtain ⟨t,q,e⟩:=KO.mp h;have e:t.1=k:=by simpa using e
  clear h
  induction L with
  | nil=>simp at q
  | cons u L ih =>
    simp only [Hj,Ip] at j;rw [Hj,aD,aD]
    by_cases eu:u.1=k
    ·have rest:(L.map fun p=>if p.1=k then (p.1,p.2+c) else p)=L:=by
      conv=>rhs;rw [<- List.map_id L]
      apply IT;intro p B;rw [if_neg fun z=>j.1 (by rw [eu,<- z];exact Hl B)];rfl
     rw [rest,if_pos eu];dsimp only
     by_cases ea:u.1=a
     ·rw [if_pos ea,if_pos ea,if_pos (by rw [<- eu];exact ea)];lia
     ·rw [if_neg ea,if_neg ea,if_neg (by rw [<- eu];exact ea)];lia
    ·rcases He.mp q with z | z
     ·exact absurd (by rw [<- z];exact e) eu
     ·rw [ih j.2 z,if_neg eu];lia
 ·rw [bB,aD,cD];simp
noncomputable def tset (ts:List Tm):List Tm:=ts.foldl (fun L t=>ck L t.1 t.2) []
theorem cq {ts:List Tm} {t:Tm}:tset (ts++[t])=ck (tset ts) t.1 t.2:=by simp [tset]
theorem eC {α:Type} {P:List α -> Prop} (h0:P []) (h1:∀ l x,P l->P (l++[x])) (l:List α):P l:=by
 have:∀ r:List α,P r.reverse:=by
  intro r
  induction r with
  | nil=>exact h0
  | cons x r ih=>rw [List.reverse_cons];exact h1 _ _ ih
 have:=this l.reverse;rw [Pp] at this;exact this
theorem cE (ts:List Tm):((tset ts).map (·.1)).Nodup:=eC (P:=fun ts=>((tset ts).map (·.1)).Nodup) (by simp [tset]) (fun l x ih=>by rw [cq];exact kr ih) ts
theorem r9 (ts:List Tm) (k:K3):cf (tset ts) k=cf ts k:=eC (P:=fun ts=>cf (tset ts) k=cf ts k) rfl (fun l x ih=>by
 rw [cq,Bc (cE l),ih,bB,aD,cD];lia) ts
theorem fR (ts:List Tm):(tset ts).length<=ts.length:=eC (P:=fun ts=>(tset ts).length<=ts.length) (by simp [tset]) (fun l x ih=>by
 rw [cq];have:=pP (L:=tset l) (k:=x.1) (c:=x.2);simp;lia) ts
theorem yJ (ts:List Tm):∀ a∈(tset ts).map (·.1),a∈ts.map (·.1):=eC (P:=fun ts=>∀ a∈(tset ts).map (·.1),a∈ts.map (·.1)) (by simp [tset]) (fun l x ih a j=>by
 rw [cq] at j;rw [J2]
 rcases pO j with z | z
 ·exact Iv _ (ih a z)
 ·exact HD _ (by simp [z])) ts
structure IsTask (ts rs:List Tm):Prop where
 srt:rs.Pairwise fun a b=>klt a.1 b.1
 nz:∀ r∈rs,r.2≠0
 cf:∀ k,cf rs k=cf ts k
 mem:∀ r∈rs,r.1∈ts.map (·.1)
 len:rs.length<=ts.length
theorem rf {a:K3} (h:klt a a):False:=by
 have:=j3 _ _ h;unfold klt at h;rw [h] at this;cases this
theorem IsTask.nodup {ts rs:List Tm} (h:IsTask ts rs):(rs.map (·.1)).Nodup:=by
 rw [JB,II];refine h.srt.imp ?_;intro a b j e;rw [e] at j;exact rf j
theorem IsTask.val {ts rs:List Tm} (h:IsTask ts rs) {r:Tm} (j:r∈rs):r.2=Mi.cf ts r.1:=by rw [<- h.cf,eB h.nodup j]
theorem tq {ts:List Tm} {k:K3}:Mi.cf (ts.filter fun t=>!(t.2==0)) k=Mi.cf ts k:=by
 induction ts with
 | nil=>rfl
 | cons t ts ih =>
   rw [aD]
   by_cases h:t.2=0
   ·rw [HA (by simp [h]),ih,h];split <;> lia
   ·rw [HE (by simp [h]),aD,ih]
theorem Ge.upd {M j:Mem} {d:Addr} {o:O} (g:Ge M j) (hd:M d=none):Ge M (af j d o):=fun a o' e=>by
 rw [ak (fun z=>by rw [z,hd] at e;cases e)];exact g _ _ e
noncomputable def gF (s:Stmt):FD:=⟨"task_of",s,["left","right","many","terms","sums","k","i","j","c"],4,
 (.cons (.asg (.name 4) (.dnew true))
 (.cons (.for (.tup (.cons (.name 5) (.cons (.name 6) (.cons (.name 7) (.cons (.name 8) .nil))))) (.seq (.var 3)) (.cons (.put (.var 4) (.tup (.cons (.var 5) (.cons (.var 6) (.cons (.var 7) .nil)))) (.bin .add (.dget (.var 4) (.tup (.cons (.var 5) (.cons (.var 6) (.cons (.var 7) .nil)))) (.int 0)) (.var 8)))
 .nil))
 (.cons (.ret (.tup (.cons (.var 0) (.cons (.var 1) (.cons (.var 2) (.cons (.comp [none,none,none,none] ["k","i","j","c"] (.last (.seq (.sortI (.var 4))) (.tup (.cons (.tup (.cons (.name 0) (.cons (.name 1) (.cons (.name 2) .nil)))) (.cons (.name 3) .nil))) (.cons (.cmp .ne (.var 3) (.int 0)) .nil) (.tup (.cons (.var 0) (.cons (.var 1) (.cons (.var 2) (.cons (.var 3) .nil))))))) .nil))))))
 .nil)))⟩
theorem rg {f:Nat} {s:Stmt} (hf:T[f]? = some (gF s)) {n:Nat} (hn : 1<=n) {L R N:D} {x:D} {ts:List Tm} {M:Mem} {Q:QD} (hx:au M x=some (ts.map tmD)) (hl:ts.length<=100000)
 (q:∀ (rs:List Tm) p M',IsTask ts rs->Ge M M'->M p=none->M' p=some (.lst (rs.map tmD))->Q (.tup [L,R,N,.ref p]) M'):phi T n f [L,R,N,x] M Q:=by
 refine aA (by lia) hf rfl (ρ:=[some _,some _,some _,some _,none,none,none,none,none]) rfl ?_
 unfold gF;walk_at "st";intro d hd;walk_at "st";have g0:=Ge.new (o:=.dct true []) hd;refine ⟨_,dL hx g0,?_⟩;refine aR (I:=fun l ρ M'=>∃ Y Z o7 o8,ρ = [some L,some R,some N,some x,some (.ref d),Y,Z,o7,o8]/\Ge M M'/\M' d=some (.dct true ((tset l).map kcD))) rfl ⟨_,_,_,_,rfl,g0,aa⟩ (fun l ρ M' ⟨_,_,_,_,_,g,_⟩=>dL hx g) ?_ ?_
 ·rintro l t r ρ M1 e ⟨Y,Z,o7,o8,rfl,g1,B⟩;refine ⟨_,rfl,fun F hF=>?_⟩;have ES:=aq e;have EV:=fR l;rw [bH];walk_at "wp";refine ⟨⟨_,_,B⟩,by rw [D2];lia,_,_,B,rfl,?_⟩
  have ek:D.tup [D.int t.1.1,D.int t.1.2.1,D.int t.1.2.2]=k3D t.1:=rfl;rw [ek,dM];have eg:((Qp (fun p:Tm=>D.int p.2) ((tset l).find? fun p=>decide (p.1=t.1))).getD (.int 0)) = .int (((((tset l).find? fun p=>decide (p.1=t.1)).map (·.2)).getD 0)):=by
   cases (tset l).find? fun p=>decide (p.1=t.1) <;> rfl
  rw [eg];walk_at "wp";refine ⟨by rw [D2];lia,fO B rfl (by rw [H8,D2];lia) ?_⟩
  rw [kT (cE l)];refine hF _ _ ⟨_,_,_,_,rfl,g1.upd hd,?_⟩;rw [aa,cq]
 ·rintro ρ M1 ⟨Y,Z,o7,o8,rfl,g1,B⟩;dsimp only;walk_at "st";refine ⟨_,_,B,.tup [.tup [.int,.int,.int],.int],rfl,fun kv ET=>?_,fun p ys hp z j=>?_⟩
  ·obtain ⟨t,_,rfl⟩:=Hk.mp ET;rfl
  rw [Im] at z;obtain ⟨L',U,p2⟩:=eM (fun t:Tm=>kvD (kcD t)) z rfl;have G:(L'.map (·.1)).Nodup:=(U.map (·.1)).nodup_iff.mpr (cE ts);have EU:L'.Pairwise fun a b=>klt a.1 b.1:=by
   rw [<- p2] at j;unfold fI at j;rw [II] at j;rw [JB,II] at G;refine (j.and G).imp ?_;rintro a b ⟨h1,h2⟩;unfold klt
   cases e1:ltK (k3K a.1) (k3K b.1) with
   | true=>rfl
   | false =>
     exfalso
     cases J:ltK (k3K b.1) (k3K a.1) with
     | false=>exact h2 (r8 (gk _ _ e1 J))
     | true =>
       have:ltK (kyD (kvD (kcD b))) (kyD (kvD (kcD a)))=true:=by
        show ltK (.tup [k3K b.1,.int b.2]) (.tup [k3K a.1,.int a.2])=true;unfold ltK at J ⊢;have J:av (k3K b.1) (k3K a.1) = .lt:=by simpa using J
        simp only [av,cmpKs];rw [J];rfl
       rw [this] at h1;cases h1
  have g2:=g1.trans (Ge.new (o:=.lst ys) hp);subst p2;refine ⟨_,ag aa,?_⟩;have EW:L'.length<=ts.length:=by rw [U.length_eq];exact fR ts
  refine aO (f:=fun t:Tm=>kvD (kcD t)) (I:=fun l ρ M' acc=>(∃ o0 o1 o2 o3,ρ = [o0,o1,o2,o3])/\M'=af M1 p (.lst (L'.map fun t=>kvD (kcD t)))/\acc=(l.filter fun t=>!(t.2==0)).map tmD) rfl ⟨⟨_,_,_,_,rfl⟩,rfl,rfl⟩ (fun _ _ _ _ hI=>by rw [hI.2.1];exact ag aa) ?_ ?_
  ·rintro l t r ρ M2 acc e ⟨⟨o0,o1,o2,o3,rfl⟩,rfl,rfl⟩;refine ⟨_,rfl,fun N' hN=>?_⟩;have ES:=aq e;have EX:(l.filter fun t=>!(t.2==0)).length<=l.length:=HU _ _;walk_at "wp";simp only [show (kcD t).2=D.int t.2 from rfl];walk_at "wp"
   by_cases hz:t.2=0
   ·rw [if_neg (by simp [hz])]
    exact hN _ _ _ ⟨⟨_,_,_,_,rfl⟩,rfl,by simp [IM,hz]⟩
   ·rw [if_pos (by simp [hz])]
    refine ⟨by rw [D2];lia,by rw [H8,D2];lia,hN _ _ _ ⟨⟨_,_,_,_,rfl⟩,rfl,?_⟩⟩
    simp [IM,hz,tmD]
  ·rintro ρ M2 acc ⟨_,rfl,rfl⟩ p2 hp2;refine ⟨by rw [D2];lia,?_⟩
   have O:M p2=none:=by
    cases hq:M p2 with
    | none=>rfl
    | some o=>rw [g2 _ _ hq] at hp2;cases hp2
   refine q (L'.filter fun t=>!(t.2==0)) p2 _ ⟨EU.sublist KG,fun r hr=>by simpa using (Ic.mp hr).2,fun k=>?_,fun r hr=>?_,?_⟩ (g2.trans (Ge.new hp2)) O aa
   ·rw [tq,ik U,r9]
   ·have:=(Ic.mp hr).1;exact yJ ts _ (Hl (U.mem_iff.mp this))
   ·have:=HU (fun t:Tm=>!(t.2==0)) L';lia
end
section
open PySem PySem.Spec PyProof.Rows L2.Srt
variable {T:List FD}
noncomputable def gi (l:List Int) (i:Int):Int:=l.getD i.toNat 0
noncomputable def vk (rs:List Tm) (a b:List Int) (k:Int):Int:=((rs.filter fun r=>decide (r.1.1=k)).map fun r=>r.2*gi a r.1.2.1*gi b r.1.2.2).sum
noncomputable def val (rs:List Tm) (a b:List Int) (N:Nat):List Int:=(IV N).map fun k=>vk rs a b (k:Nat)
theorem Bd {rs:List Tm} {r:Tm} {a b:List Int} {k:Int}:vk (rs++[r]) a b k=vk rs a b k+if r.1.1=k then r.2*gi a r.1.2.1*gi b r.1.2.2 else 0:=by
 unfold vk;rw [IM,J2,List.sum_append]
 by_cases h:r.1.1=k <;> simp [h]
theorem io {rs:List Tm} {a b:List Int} {N:Nat}:(val rs a b N).length=N:=by simp [val]
theorem Be {a b:List Int} {N:Nat}:val [] a b N=Ha N 0:=by
 unfold val;apply MQ
 ·simp
 ·intro i h1 h2;simp [vk]
theorem fq {rs:List Tm} {a b:List Int} {N k:Nat} (j:k < N):(val rs a b N)[k]? = some (vk rs a b k):=by
 unfold val;rw [HG,Nq j];rfl
theorem yK {rs:List Tm} {r:Tm} {a b:List Int} {N k:Nat} (q:r.1.1=k) (B:k < N):(val rs a b N).set k (vk rs a b k+r.2*gi a r.1.2.1*gi b r.1.2.2)=val (rs++[r]) a b N:=by
 apply Kr;intro j
 by_cases z:j < N
 ·rw [fq z,Bd]
  by_cases hjk:k=j
  ·subst hjk;rw [Jx (by rw [io];exact B),if_pos q]
  ·rw [Ko hjk,fq z,if_neg (by rw [q];lia)];simp
 ·rw [Kl (by rw [OX,io];lia),Kl (by rw [io];lia)]
theorem w9 {M:Mem} {x d:D} {ds:List D} {i:Int} {Q:QD} (h:au M x=some ds) (e:atI ds i=some d) (q:Q d M):wIx x (.int i) M Q:=by
 cases x with
 | ref a =>
   simp only [au] at h
   split at h
   ·next j=>cases h;exact aN j e q
   ·cases h
 | tup es=>cases h;exact ⟨i,d,rfl,e,q⟩
 | con es=>cases h;exact ⟨i,d,rfl,e,q⟩
 | _=>cases h
theorem eD {l:List Int} {i:Int} (h0 : 0<=i) (h1:i < l.length):atI (l.map D.int) i=some (.int (gi l i)):=by
 obtain ⟨k,rfl⟩:∃ k:Nat,i=k:=⟨i.toNat,by lia⟩
 refine fj ?_;unfold gi;rw [HG,HF,Hs,D0 (show k < l.length by lia)];rfl
noncomputable def kU (s:Stmt):FD:=⟨"value_of",s,["task","one","other","left","right","many","terms","row","k","i","j","c"],3,
 (.cons (.asg (.tup (.cons (.name 3) (.cons (.name 4) (.cons (.name 5) (.cons (.name 6) .nil))))) (.var 0))
 (.cons (.asg (.name 7) (.bin .mul (.lst (.cons (.int 0) .nil)) (.var 5)))
 (.cons (.for (.tup (.cons (.name 8) (.cons (.name 9) (.cons (.name 10) (.cons (.name 11) .nil))))) (.seq (.var 6)) (.cons (.augI (.var 7) (.var 8) .add (.bin .mul (.bin .mul (.var 11) (.ix (.var 1) (.var 9))) (.ix (.var 2) (.var 10))))
 .nil))
 (.cons (.ret (.var 7))
 .nil))))⟩
structure InB (rs:List Tm) (la lb N:Nat):Prop where
 k:∀ r∈rs,0<=r.1.1/\r.1.1 < N
 i:∀ r∈rs,0<=r.1.2.1/\r.1.2.1 < la
 j:∀ r∈rs,0<=r.1.2.2/\r.1.2.2 < lb
 c:∀ r∈rs,-(2 ^ 64) < r.2/\r.2 < 2 ^ 64
def Med (l:List Int):Prop:=∀ x∈l,-(2 ^ 64) < x/\x < 2 ^ 64
theorem De {l:List Int} (h:Med l) {i:Int} : -(2 ^ 64) < gi l i/\gi l i < 2 ^ 64:=by
 unfold gi;rw [Hs]
 cases e:l[i.toNat]? with
 | none=>simp
 | some x=>exact h x (HH e)
theorem yL {f:Nat} {s:Stmt} (hf:T[f]? = some (kU s)) {n:Nat} (hn : 1<=n) {L R:D} {N:Nat} {p:Addr} {x y:D} {rs:List Tm} {a b:List Int} {M:Mem} {Q:QD} (hp:M p=some (.lst (rs.map tmD))) (hx:au M x=some (a.map .int)) (hy:au M y=some (b.map .int)) (hN:N<=1000) (U:InB rs a.length b.length N) (hm:Med b)
 (q:∀ p' M',Ge M M'->M p'=none->M' p'=some (.lst ((val rs a b N).map .int))->Q (.ref p') M'):phi T n f [.tup [L,R,.int N,.ref p],x,y] M Q:=by
 refine aA (by lia) hf rfl (ρ:=[some _,some _,some _,none,none,none,none,none,none,none,none,none]) rfl ?_
 unfold kU;walk_at "st";walk_at "st";refine ⟨by rw [D2];lia,fun p1 ES=>?_⟩
 have g1:=Ge.new (o:=.lst [.int 0]) ES;refine ⟨_,aa,by lia,by lia,by rw [D2];simp;lia,fun p2 B=>?_⟩
 have g2:=g1.trans (Ge.new (o:=.lst (Ha (N:Int).toNat [D.int 0]).flatten) B);have z:M p2=none:=by
  cases hq:M p2 with
  | none=>rfl
  | some o=>rw [g1 _ _ hq] at B;cases B
 have e2:af (af M p1 (.lst [.int 0])) p2 (.lst (Ha (N:Int).toNat [D.int 0]).flatten) p2=some (.lst ((val [] a b N).map .int)):=by
  rw [aa,fQ,Be];simp
 generalize af (af M p1 (.lst [.int 0])) p2 (.lst (Ha (N:Int).toNat [D.int 0]).flatten)=M2 at g2 e2;walk_at "st";refine ⟨_,ag (g2 _ _ hp),?_⟩;refine aR (I:=fun l ρ M'=>∃ o8 o9 G J,ρ = [some (.tup [L,R,.int N,.ref p]),some x,some y,some L,some R,some (.int N),some (.ref p),some (.ref p2),o8,o9,G,J]/\Ge M M'/\M' p2=some (.lst ((val l a b N).map .int))) rfl ⟨_,_,_,_,rfl,g2,e2⟩ (fun l ρ M' ⟨_,_,_,_,_,g,_⟩=>ag (g _ _ hp)) ?_ ?_
 ·rintro l r t ρ M3 e ⟨o8,o9,G,J,rfl,g3,Y⟩;have Z:r∈rs:=by rw [e];simp
  refine ⟨_,rfl,fun F hF=>?_⟩;rw [bH];walk_at "wp";obtain ⟨k0,k1⟩:=U.k r Z;obtain ⟨i0,i1⟩:=U.i r Z;obtain ⟨j0,j1⟩:=U.j r Z;obtain ⟨kn,ek⟩:∃ k:Nat,r.1.1=k:=⟨r.1.1.toNat,by lia⟩
  have O:kn < N:=by lia
  refine ⟨p2,_,_,.int (vk l a b kn),rfl,rfl,Y,?_,?_⟩
  ·rw [ek];refine fj ?_;rw [HG,fq O];rfl
  refine w9 (dL hx g3) (eD i0 i1) ?_;walk_at "wp";refine ⟨fP (U.c r Z),?_⟩;refine w9 (dL hy g3) (eD j0 j1) ?_;walk_at "wp";refine ⟨jd (De hm),?_⟩;rw [ek];refine aU Y (j:=kn) ?_ ?_
  ·unfold ixN;rw [H8,io,if_pos (by lia),if_pos (by lia)];simp
  refine hF _ _ ⟨_,_,_,_,rfl,g3.upd z,?_⟩;rw [aa,<- yK ek O,NB]
 ·rintro ρ M3 ⟨o8,o9,G,J,rfl,g3,Y⟩;dsimp only;walk_at "st";exact q p2 M3 g3 z Y
end
section
open PySem PySem.Spec PyProof.Rows L2.Srt
noncomputable def bx (f:K3->Int) (ts:List Tm):Int:=(ts.map fun t=>t.2*f t.1).sum
theorem fS {f:K3->Int}:bx f []=0:=rfl
theorem bT {f:K3->Int} {t:Tm} {ts:List Tm}:bx f (t::ts)=t.2*f t.1+bx f ts:=by simp [bx]
theorem cU {f:K3->Int} {a b:List Tm}:bx f (a++b)=bx f a+bx f b:=by simp [bx]
noncomputable def cm (ts:List Tm):List Tm:=ts.map fun t=>(t.1,-t.2)
theorem yM {f:K3->Int} {ts:List Tm}:bx f (cm ts) = -bx f ts:=by
 unfold cm
 induction ts with
 | nil=>rfl
 | cons t ts ih=>rw [Hj,bT,bT,ih];dsimp only;rw [Int.neg_mul];lia
theorem wa {ts:List Tm} {k:K3}:cf (cm ts) k = -cf ts k:=by
 unfold cm
 induction ts with
 | nil=>rfl
 | cons t ts ih=>rw [Hj,aD,aD,ih];dsimp only;split <;> lia
theorem ku {f:K3->Int} {k:K3}:∀ ts:List Tm,bx f ts=cf ts k*f k+bx f (ts.filter fun t=>decide (t.1≠k))
 | []=>by simp [fS,cD]
 | t::ts=>by
   rw [bT,aD,ku (k:=k) ts]
   by_cases h:t.1=k
   ·rw [if_pos h,HA (by simp [h]),Kt,h];lia
   ·rw [if_neg h,HE (by simp [h]),bT,Int.zero_add];lia
theorem gG {k j:K3}:∀ ts:List Tm,cf (ts.filter fun t=>decide (t.1≠k)) j=if j=k then 0 else cf ts j
 | []=>by simp [cD]
 | t::ts=>by
   by_cases h:t.1=k
   ·rw [HA (by simp [h]),gG ts,aD]
    split
    ·rfl
    ·next e=>rw [if_neg (by rw [h];exact fun z=>e z.symm)];lia
   ·rw [HE (by simp [h]),aD,aD,gG ts]
    by_cases e:j=k
    ·rw [if_pos e,if_pos e,if_neg (by rw [e];exact h)];lia
    ·rw [if_neg e,if_neg e]
theorem mG {f:K3->Int}:∀ (n:Nat) (ts:List Tm),ts.length<=n->(∀ k,cf ts k=0)->bx f ts=0
 | _,[],_,_=>rfl
 | 0,_::_,h,_=>by simp at h
 | n+1,t::ts,h,z=>by
   rw [ku (k:=t.1),z,mG n]
   ·lia
   ·rw [HA (by simp)]
    have:=HU (fun u:Tm=>decide (u.1≠t.1)) ts;simp at h;lia
   ·intro k;rw [gG,z];split <;> rfl
theorem Bf {f:K3->Int} {a b:List Tm} (h:∀ k,cf a k=cf b k):bx f a=bx f b:=by
 have:=mG (f:=f) _ (a++cm b) (Hg _) fun k=>by rw [bB,wa,h];lia
 rw [cU,yM] at this;lia
noncomputable def fkk (a b:List Int) (k:Int):K3->Int:=fun q=>if q.1=k then gi a q.2.1*gi b q.2.2 else 0
theorem dN {a b:List Int} {k:Int}:∀ rs:List Tm,vk rs a b k=bx (fkk a b k) rs
 | []=>rfl
 | r::rs=>by
   rw [bT,<- dN rs];unfold vk fkk
   by_cases h:r.1.1=k
   ·rw [HE (by simpa using h),if_pos h,Hj,Qg,Qf]
   ·rw [HA (by simpa using h),if_neg h];lia
theorem Ed {rs ts:List Tm} (h:∀ k,cf rs k=cf ts k) {a b:List Int} {k:Int}:vk rs a b k=vk ts a b k:=by
 rw [dN,dN,Bf h]
theorem rh {α:Type} {lt : α -> α -> Prop} (as:∀ a b,lt a b->lt b a->False):∀ {l m:List α},l.Pairwise lt->m.Pairwise lt->(∀ x,x∈l↔x∈m)->l=m
 | [],[],_,_,_=>rfl
 | [],y::m,_,_,h=>by have:=(h y).mpr (by simp);simp at this
 | x::l,[],_,_,h=>by have:=(h x).mp (by simp);simp at this
 | x::l,y::m,j,hm,h=>by
   rw [LN] at j hm;have e:x=y:=by
    rcases He.mp ((h x).mp (by simp)) with z | z
    ·exact z
    ·rcases He.mp ((h y).mpr (by simp)) with w | w
     ·exact w.symm
     ·exact (as _ _ (hm.1 _ z) (j.1 _ w)).elim
   subst e;rw [rh as j.2 hm.2 fun z=>?_];constructor
   ·intro hz
    rcases He.mp ((h z).mp (by simp [hz])) with w | w
    ·subst w;exact (as _ _ (j.1 _ hz) (j.1 _ hz)).elim
    ·exact w
   ·intro hz
    rcases He.mp ((h z).mpr (by simp [hz])) with w | w
    ·subst w;exact (as _ _ (hm.1 _ hz) (hm.1 _ hz)).elim
    ·exact w
theorem IsTask.iff {ts rs:List Tm} (h:IsTask ts rs) {r:Tm}:r∈rs↔r.2≠0/\r.2=Mi.cf ts r.1:=by
 constructor
 ·exact fun j=>⟨h.nz r j,h.val j⟩
 ·rintro ⟨h1,h2⟩;apply Classical.byContradiction;intro z;apply h1;rw [h2,<- h.cf];refine im fun t q e=>z ?_;have:=h.val q;rw [e,<- h2] at this;have B:t=r:=LB e this;rw [<- B];exact q
theorem IsTask.uniq {ts ts' rs rs':List Tm} (h:IsTask ts rs) (h':IsTask ts' rs') (e:∀ k,Mi.cf ts k=Mi.cf ts' k):rs=rs':=by
 refine rh (fun a b h1 h2=>?_) h.srt h'.srt fun r=>by rw [h.iff,h'.iff,e]
 have j:=j3 _ _ h1;unfold klt at h2;rw [h2] at j;cases j
end
section
open PySem PySem.Spec PyProof.Rows L2.Srt
theorem cF {b p:Addr} {M:Mem} (j:Box b M) (q:M p=none):p≠b:=fun z=>by
 obtain ⟨x,y,w,e⟩:=j;rw [<- z,q] at e;cases e
noncomputable def eU (t:Tm):IY:=.tuple [.int t.1.1,.int t.1.2.1,.int t.1.2.2,.int t.2]
theorem Ee {k:Nat} {M:Mem} (t:Tm):rb (k+2) M (tmD t)=some (eU t):=by
 simp [tmD,rb,aF,eU]
theorem wb {k:Nat} {M:Mem}:∀ ts:List Tm,aF (rb (k+2) M) (ts.map tmD)=some (ts.map eU)
 | []=>rfl
 | t::r=>by simp [aF,Ee,wb r]
theorem rj {M:Mem} {p:Addr} {ts:List Tm} {a b c:Int} (h:M p=some (.lst (ts.map tmD))):rb 16 M (.tup [.int a,.int b,.int c,.ref p])=some (.tuple [.int a,.int b,.int c,.list (ts.map eU)]):=by
 have e:rb 15 M (.ref p)=some (.list (ts.map eU)):=by rw [cb h,wb];rfl
 have ei:∀ x:Int,rb 15 M (.int x)=some (.int x):=fun _=>rfl;show (aF (rb 15 M) [.int a,.int b,.int c,.ref p]).map OP=_;simp [aF,e,ei]
theorem Bg {l:List Int} (h:Big l):Med l:=fun x hx=>by have:=h x hx;lia
end
section
open PySem PySem.Spec PyProof.Rows L2.Srt
variable {T:List FD}
noncomputable def yN (L:List Tm) (k:K3) (c:Int):List Tm:=if (L.any fun p=>decide (p.1=k))=true then L.map (fun p=>if p.1=k then (p.1,c) else p) else L++[(k,c)]
theorem yO {L:List Tm} {k:K3} {c:Int}:bQ (L.map kcD) (k3D k) (.int c)=(yN L k c).map kcD:=by
 unfold bQ yN;rw [w8]
 split
 ·rw [Im,Im];refine IT fun p _=>?_;simp only [Og]
  by_cases h:p.1=k
  ·rw [if_pos h,if_pos (show (kcD p).1=k3D k by show k3D p.1=k3D k;rw [h])];rfl
  ·rw [if_neg h,if_neg (show ¬ (kcD p).1=k3D k from fun z=>h (fo z))]
 ·rw [J2];rfl
theorem iJ {L:List Tm} (B:(L.map (·.1)).Nodup) {ys:List D} (q:ys.Perm ((L.map kcD).map (·.1))) (hs:fI ys):∃ rs:List Tm,rs.Perm L/\ys=rs.map (fun t=>k3D t.1)/\rs.Pairwise fun a b=>klt a.1 b.1:=by
 have F:(L.map kcD).map (·.1)=L.map fun t=>k3D t.1:=by rw [Im];rfl
 rw [F] at q;obtain ⟨rs,z,p2⟩:=eM (fun t:Tm=>k3D t.1) q rfl;refine ⟨rs,z,p2.symm,?_⟩;have j:(rs.map (·.1)).Nodup:=(z.map (·.1)).nodup_iff.mpr B;unfold fI at hs;rw [<- p2,II] at hs;rw [JB,II] at j;refine (hs.and j).imp ?_;rintro a b ⟨h1,h2⟩;unfold klt
 cases G:ltK (k3K a.1) (k3K b.1) with
 | true=>rfl
 | false=>exact absurd (r8 (gk _ _ G h1)) h2
theorem cN {L:List Tm} (j:(L.map (·.1)).Nodup) {t:Tm} (q:t∈L):dget (L.map kcD) (k3D t.1)=some (.int t.2):=by
 rw [dM];have:L.find? (fun p=>decide (p.1=t.1))=some t:=by
  induction L with
  | nil=>simp at q
  | cons x L ih =>
    simp only [Hj,Ip] at j
    rcases He.mp q with z | z
    ·subst z;simp
    ·have:x.1≠t.1:=fun e=>j.1 (by rw [e];exact Hl z)
     rw [Ka (by simpa using this)]
     exact ih j.2 z
 rw [this];rfl
theorem pQ {L:List Tm} (j:(L.map (·.1)).Nodup):sH (L.map kcD)=L.map kcD:=by
 have g:∀ (r l:List Tm),(((l++r).map (·.1)).Nodup)->(r.map kcD).foldl (fun a kv=>bQ a kv.1 kv.2) (l.map kcD)=(l++r).map kcD:=by
  intro r
  induction r with
  | nil=>intro l _;simp
  | cons t r ih =>
    intro l h;rw [Hj,LJ];have e:bQ (l.map kcD) (kcD t).1 (kcD t).2=(l++[t]).map kcD:=by
     show bQ (l.map kcD) (k3D t.1) (.int t.2)=_;rw [yO];unfold yN;rw [if_neg];intro z;obtain ⟨p,q,e⟩:=KO.mp z;rw [J2,Lg] at h;exact h.2.2 _ (Hl q) _ (Hl (Ij ..)) (of_decide_eq_true e)
    rw [e,ih (l++[t]) (by rw [Ho];exact h)]
    rw [Ho];rfl
 have:=g L [] (by simpa using j)
 simpa [sH] using this
theorem iq (k:K3):bJ (k3D k)=true:=rfl
end
section
open PySem PySem.Spec PyProof.Rows L2.Srt
variable {T:List FD}
noncomputable def idx (l:List Int):List (Int×Int):=l.mapIdx fun i x=>((i:Nat),x)
noncomputable def nz (l:List Int):List (Int×Int):=(idx l).filter fun q=>!(q.2==0)
noncomputable def pD (q:Int×Int):D:=.tup [.int q.1,.int q.2]
theorem cr {l:List Int}:(idx l).length=l.length:=by simp [idx]
theorem pR {l:List Int}:(nz l).length<=l.length:=by
 unfold nz;exact Jp (HU _ _) (by rw [cr];exact Hg _)
theorem yP {l:List Int}:fE (l.map .int)=(idx l).map pD:=by
 unfold fE idx;apply Kr;intro j;simp only [N4,HG]
 cases l[j]? <;> rfl
noncomputable def bj (i a j b:Int) (zs:List (Int×Int)):List Tm:=zs.map fun z=>((z.1,i,j),a*b*z.2)
noncomputable def bo (i a:Int) (ys zs:List (Int×Int)):List Tm:=ys.flatMap fun y=>bj i a y.1 y.2 zs
noncomputable def bb (xs ys zs:List (Int×Int)):List Tm:=xs.flatMap fun x=>bo x.1 x.2 ys zs
noncomputable def pS (p:Pr):List Tm:=bb (nz p.1) (nz p.2.1) (nz p.2.2)
noncomputable def kW (ps:List Pr):List Tm:=ps.flatMap pS
theorem pT {i a j b:Int} {zs:List (Int×Int)}:(bj i a j b zs).length=zs.length:=by simp [bj]
theorem pU {i a:Int} {ys zs:List (Int×Int)}:(bo i a ys zs).length=ys.length*zs.length:=by
 unfold bo
 induction ys with
 | nil=>simp
 | cons y ys ih=>rw [Jk,H9,ih,pT,Io,Jq];lia
theorem pV {xs ys zs:List (Int×Int)}:(bb xs ys zs).length=xs.length*(ys.length*zs.length):=by
 unfold bb
 induction xs with
 | nil=>simp
 | cons y ys ih=>rw [Jk,H9,ih,pU,Io,Jq];lia
structure IsSum (ps:List Pr) (L:List Tm):Prop where
 nd:(L.map (·.1)).Nodup
 nz:∀ t∈L,t.2≠0
 cf:∀ k,cf L k=cf (kW ps) k
def Od (d:Addr) (M M':Mem):Prop:=∀ a,a≠d->M' a=M a
theorem Od.refl {d:Addr} {M:Mem}:Od d M M:=fun _ _=>rfl
theorem Od.trans {d:Addr} {M M' M'':Mem} (h:Od d M M') (g:Od d M' M''):Od d M M'':=fun a n=>(g a n).trans (h a n)
theorem Od.upd {d:Addr} {M M':Mem} {o:O} (h:Od d M M'):Od d M (af M' d o):=fun a n=>(ak n).trans (h a n)
noncomputable abbrev bd (x:Int):Prop:=-1000000000000<=x/\x<=1000000000000
theorem wc {l:List Int} (h:Big l):∀ z∈nz l,bd z.2:=fun z hz=>by
 unfold nz at hz;have hz:=(Ic.mp hz).1;unfold idx at hz;obtain ⟨i,hi,e⟩:=RV.mp hz;rw [<- e];exact h _ (JK hi)
end
section
open PySem PySem.Spec PyProof.Rows L2.Srt
noncomputable def S1 (zs:List (Int×Int)) (k:Int):Int:=(zs.map fun z=>if z.1=k then z.2 else 0).sum
theorem bN {z:Int×Int} {zs:List (Int×Int)} {k:Int}:S1 (z::zs) k=(if z.1=k then z.2 else 0)+S1 zs k:=by simp [S1]
theorem kX {α:Type} {F : α -> List Tm} {k:K3}:∀ l:List α,cf (l.flatMap F) k=(l.map fun x=>cf (F x) k).sum
 | []=>rfl
 | x::l=>by rw [Jk,bB,kX l];simp
theorem kY {i a j b k i' j':Int}:∀ {zs:List (Int×Int)},cf (bj i a j b zs) (k,i',j')=if i=i'/\j=j' then a*b*S1 zs k else 0
 | []=>by simp [bj,cD,S1]
 | z::zs=>by
   rw [show bj i a j b (z::zs)=((z.1,i,j),a*b*z.2)::bj i a j b zs from rfl,aD,kY,bN]
   by_cases h:i=i'/\j=j'
   ·obtain ⟨rfl,rfl⟩:=h
    by_cases q:z.1=k
    ·subst q;simp [N8]
    ·have : ¬ ((z.1,i,j)=(k,i,j)):=fun e=>q (congrArg (·.1) e);rw [if_neg this,if_pos ⟨rfl,rfl⟩,if_pos ⟨rfl,rfl⟩,if_neg q];simp
   ·have : ¬ ((z.1,i,j)=(k,i',j')):=fun e=>h ⟨congrArg (·.2.1) e,congrArg (·.2.2) e⟩;rw [if_neg this,if_neg h,if_neg h];rfl
theorem rl {i a k i' j':Int} {zs:List (Int×Int)}:∀ {ys:List (Int×Int)},cf (bo i a ys zs) (k,i',j')=if i=i' then a*S1 ys j'*S1 zs k else 0
 | []=>by simp [bo,cD,S1]
 | y::ys=>by
   rw [show bo i a (y::ys) zs=bj i a y.1 y.2 zs++bo i a ys zs from by simp [bo],bB,rl,kY,bN]
   by_cases h:i=i'
   ·subst h
    by_cases j:y.1=j'
    ·subst j;simp [N8,Kt]
    ·rw [if_neg (fun e=>j e.2),if_pos rfl,if_pos rfl,if_neg j];simp
   ·rw [if_neg (fun e=>h e.1),if_neg h,if_neg h];rfl
theorem kZ {k i' j':Int} {ys zs:List (Int×Int)}:∀ {xs:List (Int×Int)},cf (bb xs ys zs) (k,i',j')=S1 xs i'*S1 ys j'*S1 zs k
 | []=>by simp [bb,cD,S1]
 | x::xs=>by
   rw [show bb (x::xs) ys zs=bo x.1 x.2 ys zs++bb xs ys zs from by simp [bb],bB,kZ,rl,bN]
   by_cases h:x.1=i'
   ·subst h;simp [Kt]
   ·rw [if_neg h,if_neg h];simp
noncomputable def gz (l:List Int) (i:Int):Int:=if i < 0 then 0 else l.getD i.toNat 0
theorem wd {l:List Int} {i:Int} (h:i < 0):gz l i=0:=if_pos h
theorem we {i:Int}:gz [] i=0:=by unfold gz;split <;> simp
theorem lc {x:Int} {l:List Int} {i:Int}:gz (x::l) i=if i=0 then x else gz l (i - 1):=by
 unfold gz
 by_cases h:i < 0
 ·rw [if_pos h,if_neg (by lia),if_pos (by lia)]
 ·rw [if_neg h]
  by_cases h0:i=0
  ·subst h0;simp
  ·rw [if_neg h0,if_neg (by lia)]
   obtain ⟨n,rfl⟩:∃ n:Nat,i=((n+1:Nat):Int):=⟨(i - 1).toNat,by lia⟩
   rw [show (((n+1:Nat):Int) - 1).toNat=n by lia,HF]
   simp
theorem wf {a b:List Int}:∀ {i:Int},gz (a++b) i=if i < a.length then gz a i else gz b (i - a.length):=by
 induction a with
 | nil =>
   intro i
   by_cases h:i < 0
   ·rw [if_pos (by simpa using h),Na,wd h,wd h]
   ·rw [if_neg (by simpa using h)];simp
 | cons x a ih =>
   intro i;rw [Ow,lc,lc,ih,Io]
   by_cases h0:i=0
   ·subst h0;rw [if_pos rfl,if_pos rfl,if_pos (by lia)]
   ·rw [if_neg h0,if_neg h0]
    by_cases h:i < ((a.length+1:Nat):Int)
    ·rw [if_pos (by lia),if_pos h]
    ·rw [if_neg (by lia),if_neg h]
     congr 1;lia
theorem kw {l:List Int} {i:Int} (h:gz l i≠0) : 0<=i/\i < l.length:=by
 unfold gz at h
 by_cases hi:i < 0
 ·rw [if_pos hi] at h;exact absurd rfl h
 ·rw [if_neg hi] at h;refine ⟨by lia,?_⟩
  by_cases hl:i.toNat < l.length
  ·lia
  ·rw [Hs,Kl (by lia)] at h;exact absurd rfl h
theorem eQ {a b:List (Int×Int)} {k:Int}:S1 (a++b) k=S1 a k+S1 b k:=by simp [S1]
theorem fT {k:Int}:∀ zs:List (Int×Int),S1 (zs.filter fun q=>!(q.2==0)) k=S1 zs k
 | []=>rfl
 | z::zs=>by
   rw [bN]
   by_cases h:z.2=0
   ·rw [HA (by simp [h]),fT zs,h];simp
   ·rw [HE (by simp [h]),bN,fT zs]
theorem df (l:List Int) (k:Int):S1 (idx l) k=gz l k:=eC (P:=fun l=>S1 (idx l) k=gz l k) (by rw [we];rfl) (fun l x ih=>by
 have e:idx (l++[x])=idx l++[(((l.length:Nat):Int),x)]:=by simp [idx,List.mapIdx_append]
 rw [e,eQ,ih,wf,bN];simp only [S1,Mg,List.sum_nil]
 by_cases h:k < l.length
 ·rw [if_pos h,if_neg (by lia)];lia
 ·rw [if_neg h,lc,we];have z:gz l k=0:=by
   cases Decidable.em (gz l k=0) with
   | inl h=>exact h
   | inr h'=>exact absurd (kw h').2 h
  rw [z]
  by_cases e:(l.length:Int)=k
  ·rw [if_pos e,if_pos (by lia)];lia
  ·rw [if_neg e,if_neg (by lia)];rfl) l
theorem Bh {p:Pr} {k i j:Int}:cf (pS p) (k,i,j)=gz p.1 i*gz p.2.1 j*gz p.2.2 k:=by
 unfold pS;rw [kZ];unfold nz;rw [fT,fT,fT,df,df,df]
noncomputable def Tn (ps:List Pr) (k i j:Int):Int:=(ps.map fun p=>gz p.1 i*gz p.2.1 j*gz p.2.2 k).sum
theorem iu {ps:List Pr} {k i j:Int}:cf (kW ps) (k,i,j)=Tn ps k i j:=by
 unfold kW Tn;rw [kX];congr 1;exact IT fun p _=>Bh
theorem wg {a b:List Pr} {k i j:Int}:Tn (a++b) k i j=Tn a k i j+Tn b k i j:=by simp [Tn]
theorem rn {p:Pr} {a:List Pr} {k i j:Int}:Tn (p::a) k i j=gz p.1 i*gz p.2.1 j*gz p.2.2 k+Tn a k i j:=by simp [Tn]
theorem pW {L0 L1 L2:Nat} {k i j:Int}:∀ {us:List Pr},(∀ u∈us,u.1.length=L0/\u.2.1.length=L1/\u.2.2.length=L2)->Tn us k i j≠0->(0<=k/\k < L2)/\(0<=i/\i < L0)/\(0<=j/\j < L1)
 | [],_,h=>absurd (by simp [Tn]) h
 | u::us,q,h=>by
   obtain ⟨G,J,L⟩:=q u (by simp)
   rw [rn] at h
   by_cases z:gz u.1 i*gz u.2.1 j*gz u.2.2 k=0
   ·rw [z,Int.zero_add] at h;exact pW (fun v B=>q v (by simp [B])) h
   ·have a1:gz u.1 i≠0:=fun e=>z (by rw [e];simp)
    have a2:gz u.2.1 j≠0:=fun e=>z (by rw [e];simp)
    have F:gz u.2.2 k≠0:=fun e=>z (by rw [e];simp)
    have:=kw a1;have:=kw a2;have:=kw F;lia
theorem nj {l:List Tm} (g:(l.map (·.1)).Nodup):l.Nodup:=by
 rw [JB] at g ⊢;rw [II] at g;exact g.imp fun {a b} hab e=>hab (by rw [e])
theorem wj {a:List Tm} (q:(a.map (·.1)).Nodup) {k:K3} (h:cf a k≠0):(k,cf a k)∈a:=by
 by_cases e:∃ r∈a,r.1=k
 ·obtain ⟨r,j,rfl⟩:=e;rw [eB q j];exact j
 ·exact absurd (im fun r j z=>e ⟨r,j,z⟩) h
theorem Bi {a b:List Tm} (q:(a.map (·.1)).Nodup) (z:(b.map (·.1)).Nodup) (za:∀ t∈a,t.2≠0) (zb:∀ t∈b,t.2≠0) (h:∀ k,cf a k=cf b k):a.Perm b:=by
 refine (List.perm_ext_iff_of_nodup (nj q) (nj z)).mpr fun t=>⟨fun j=>?_,fun j=>?_⟩
 ·have e:=eB q j;have:=wj z (k:=t.1) (by rw [<- h,e];exact za t j)
  rwa [<- h,e] at this
 ·have e:=eB z j;have:=wj q (k:=t.1) (by rw [h,e];exact zb t j)
  rwa [h,e] at this
theorem yQ {a b:List Tm} (q:(b.map (·.1)).Nodup) (h:a.Perm b):eqD (a.map kcD) (b.map kcD)=true:=by
 unfold eqD;rw [z4];refine ⟨by simp [h.length_eq],?_⟩
 rw [KN];intro kv j;obtain ⟨t,z,rfl⟩:=Hk.mp j;exact decide_eq_true (cN q (h.mem_iff.mp z))
theorem IsSum.val {ps:List Pr} {L:List Tm} (h:IsSum ps L) {t:Tm} (j:t∈L):Tn ps t.1.1 t.1.2.1 t.1.2.2=t.2:=by
 rw [<- iu,<- h.cf,eB h.nd j]
end
section
noncomputable abbrev K2:=Int×Int
noncomputable def k2D (k:K2):D:=.tup [.int k.1,.int k.2]
noncomputable def raD (r:K2×Addr):D×D:=(k2D r.1,.ref r.2)
theorem rp {a b:K2} (h:k2D a=k2D b):a=b:=by
 obtain ⟨a1,a2⟩:=a;obtain ⟨b1,b2⟩:=b;simp only [k2D,D.tup.injEq,L5,D.int.injEq,and_true] at h;rw [h.1,h.2]
theorem cG {α β:Type} {f : α -> β}:∀ {l:List α},(l.map f).Nodup -> ∀ {x y : α},x∈l->y∈l->f x=f y->x=y
 | [],_,x,_,hx,_,_=>by cases hx
 | z::l,h,x,y,hx,B,e=>by
   rw [Hj,Ip] at h
   rcases He.mp hx with rfl | j <;> rcases He.mp B with rfl | q
   ·rfl
   ·exact absurd (Hk.mpr ⟨y,q,e.symm⟩) h.1
   ·exact absurd (Hk.mpr ⟨x,j,e⟩) h.1
   ·exact cG h.2 j q e
structure RI (d:Addr) (N:Nat) (M:Mem) (R:List (K2×Addr)) (g:K2->List Int):Prop where
 dct:M d=some (.dct true (R.map raD))
 keys:(R.map (·.1)).Nodup
 ads:(R.map (·.2)).Nodup
 nd:∀ r∈R,r.2≠d
 row:∀ r∈R,M r.2=some (.lst ((g r.1).map .int))
 ln:∀ k,(g k).length=N
 out:∀ k,k∉R.map (·.1)->g k=Ha N 0
structure Run (d:Addr) (R:List (K2×Addr)) (M:Mem) (R':List (K2×Addr)) (M':Mem):Prop where
 ex:∀ r∈R',r∈R∨M r.2=none
 kp:∀ b o,b≠d->b∉R.map (·.2)->M b=some o->M' b=some o
theorem Run.refl {d:Addr} {R:List (K2×Addr)} {M:Mem}:Run d R M R M:=⟨fun r h=>.inl h,fun _ _ _ _ e=>e⟩
theorem lf {k:K2}:∀ R:List (K2×Addr),dget (R.map raD) (k2D k)=(R.find? fun r=>decide (r.1=k)).map fun r=>.ref r.2
 | []=>rfl
 | r::R=>by
   have ih:=lf (k:=k) R;unfold dget at ih ⊢;rw [Hj,Je,Je]
   by_cases h:r.1=k
   ·have e:decide ((raD r).1=k2D k)=true:=decide_eq_true (by rw [<- h];rfl)
    rw [e,decide_eq_true h];rfl
   ·have e:decide ((raD r).1=k2D k)=false:=decide_eq_false (fun z=>h (rp z));rw [e,decide_eq_false h];exact ih
theorem Bj {k:K2} {R:List (K2×Addr)} (h:k∉R.map (·.1)):dget (R.map raD) (k2D k)=none:=by
 rw [lf,LR.mpr fun r j=>by
  intro z;exact h (Hk.mpr ⟨r,j,of_decide_eq_true z⟩)]
 rfl
theorem rq {k:K2} {R:List (K2×Addr)} (h:k∈R.map (·.1)):∃ a,(k,a)∈R/\dget (R.map raD) (k2D k)=some (.ref a):=by
 cases e:R.find? fun r=>decide (r.1=k) with
 | none =>
   obtain ⟨r,j,q⟩:=Hk.mp h;exact absurd (decide_eq_true q) (LR.mp e r j)
 | some r =>
   have h1:=Nj e;have h2:=JF e;have z:r.1=k:=of_decide_eq_true h1;obtain ⟨rk,ra⟩:=r
   cases z
   exact ⟨ra,h2,by rw [lf,e];rfl⟩
theorem Bk {k:K2} {R:List (K2×Addr)} {a:Addr} (h:k∉R.map (·.1)):bQ (R.map raD) (k2D k) (.ref a)=(R++[(k,a)]).map raD:=by
 unfold bQ;rw [if_neg,J2]
 ·rfl
 ·intro z;obtain ⟨x,hx,hz⟩:=KO.mp z;obtain ⟨r,j,rfl⟩:=Hk.mp hx;exact h (Hk.mpr ⟨r,j,rp (of_decide_eq_true hz)⟩)
theorem RI.ge {d:Addr} {N:Nat} {M M':Mem} {R:List (K2×Addr)} {g:K2->List Int} (h:RI d N M R g) (x:Ge M M'):RI d N M' R g:=⟨x _ _ h.dct,h.keys,h.ads,h.nd,fun r j=>x _ _ (h.row r j),h.ln,h.out⟩
theorem Run.trans {d:Addr} {N:Nat} {R R' R'':List (K2×Addr)} {M M' M'':Mem} {g g':K2->List Int} (h:Run d R M R' M') (h2:Run d R' M' R'' M'') (i:RI d N M' R' g') (sub:∀ r∈R,r∈R'):Run d R M R'' M'':=by
 refine ⟨fun r B=>?_,fun b o n m e=>?_⟩
 ·rcases h2.ex r B with j | j
  ·exact h.ex r j
  ·by_cases z:r.2∈R.map (·.2)
   ·obtain ⟨r',q,e⟩:=Hk.mp z;rw [<- e,i.row r' (sub r' q)] at j;cases j
   ·refine .inr ?_
    cases e:M r.2 with
    | none=>rfl
    | some o =>
      by_cases zd:r.2=d
      ·rw [zd,i.dct] at j;cases j
      ·rw [h.kp _ _ zd z e] at j;cases j
 ·refine h2.kp b o n (fun z=>?_) (h.kp b o n m e);obtain ⟨r',q,e'⟩:=Hk.mp z
  rcases h.ex r' q with j | j
  ·exact m (Hk.mpr ⟨r',j,e'⟩)
  ·rw [e',e] at j;cases j
theorem RI.new {d:Addr} {N:Nat} {M:Mem} {R:List (K2×Addr)} {g:K2->List Int} (h:RI d N M R g) {k:K2} (L:k∉R.map (·.1)) {G:Mem} {a:Addr} (ga:Ge M G) (q:M a=none) (h1:G a=some (.lst ((Ha N (0:Int)).map .int))) :
 RI d N (af G d (.dct true ((R++[(k,a)]).map raD))) (R++[(k,a)]) g/\Run d R M (R++[(k,a)]) (af G d (.dct true ((R++[(k,a)]).map raD))):=by
 have B:a≠d:=fun z=>by rw [z,h.dct] at q;cases q
 refine ⟨⟨aa,?_,?_,?_,?_,h.ln,?_⟩,⟨?_,?_⟩⟩
 ·rw [J2,Lg];exact ⟨h.keys,by simp,fun x hx y F=>by simp at F;subst F;exact fun z=>L (z ▸ hx)⟩
 ·rw [J2,Lg];refine ⟨h.ads,by simp,fun x hx y F=>?_⟩
  simp at F;subst F;intro z;obtain ⟨r,j,rfl⟩:=Hk.mp hx;rw [<- z,h.row r j] at q;cases q
 ·intro r j
  rcases Hu.mp j with j | j
  ·exact h.nd r j
  ·simp at j;subst j;exact B
 ·intro r j
  rcases Hu.mp j with j | j
  ·rw [ak (h.nd r j)];exact ga _ _ (h.row r j)
  ·simp at j;subst j;rw [ak B,h1,h.out k L]
 ·intro k' J;exact h.out k' fun z=>J (by rw [J2];exact Iv _ z)
 ·intro r j
  rcases Hu.mp j with j | j
  ·exact .inl j
  ·simp at j;subst j;exact .inr q
 ·intro b o n m e;rw [ak n];exact ga _ _ e
theorem RI.put {d:Addr} {N:Nat} {M:Mem} {R:List (K2×Addr)} {g:K2->List Int} (h:RI d N M R g) {k:K2} {a:Addr} (q:(k,a)∈R) {row:List Int} (F:row.length=N) :
 RI d N (af M a (.lst (row.map .int))) R (fun k'=>if k'=k then row else g k')/\Run d R M R (af M a (.lst (row.map .int))):=by
 refine ⟨⟨?_,h.keys,h.ads,h.nd,?_,?_,?_⟩,⟨fun r h=>.inl h,?_⟩⟩
 ·rw [ak (fun z=>h.nd _ q z.symm)];exact h.dct
 ·intro r j
  by_cases e:r=(k,a)
  ·subst e;rw [aa,if_pos rfl]
  ·have na:r.2≠a:=fun z=>e (cG h.ads j q z);have nk:r.1≠k:=fun z=>e (cG h.keys j q z);rw [ak na,if_neg nk];exact h.row r j
 ·intro k'
  split
  ·exact F
  ·exact h.ln k'
 ·intro k' B;rw [if_neg (fun z=>B (Hk.mpr ⟨_,q,z.symm⟩))];exact h.out k' B
 ·intro b o n m e;rw [ak (fun z=>m (Hk.mpr ⟨_,q,z.symm⟩))];exact e
end
section
open PySem PySem.Spec PyProof.Rows L2.Srt
variable {T:List FD}
noncomputable def cO (s:Stmt):FD:=⟨"filled",s,["part"],1,
 (.cons (.ret (.comp [none,none] ["at","x"] (.last (.enum (.var 0)) (.tup (.cons (.name 0) (.cons (.name 1) .nil))) (.cons (.cmp .ne (.var 1) (.int 0)) .nil) (.tup (.cons (.var 0) (.cons (.var 1) .nil))))))
 .nil)⟩
theorem eR {f:Nat} {s:Stmt} (hf:T[f]? = some (cO s)) {n:Nat} (G : 1<=n) {x:D} {l:List Int} (J:l.length<=1000000) {M:Mem} {Q:QD} (hx:au M x=some (l.map .int)) (q:∀ p,M p=none->Q (.ref p) (af M p (.lst ((nz l).map pD)))):phi T n f [x] M Q:=by
 refine aA (by lia) hf rfl (ρ:=[some _]) rfl ?_
 unfold cO;walk_at "st";refine ⟨_,hx,?_⟩;rw [yP];refine aO (f:=pD) (ys:=idx l) (I:=fun r ρ M' acc=>(∃ o0 z,ρ = [o0,z])/\M'=M/\acc=(r.filter fun q=>!(q.2==0)).map pD) rfl ⟨⟨_,_,rfl⟩,rfl,rfl⟩ (fun _ _ _ _ h=>by rw [h.2.1];exact hx) ?_ ?_
 ·rintro l' y r ρ M1 acc e ⟨⟨o0,z,rfl⟩,rfl,rfl⟩;refine ⟨_,rfl,fun N' j=>?_⟩;have B:=aq e;rw [cr] at B;have F:(l'.filter fun q=>!(q.2==0)).length<=l'.length:=HU _ _;walk_at "wp"
  by_cases hz:y.2=0
  ·rw [if_neg (by simp [hz])]
   refine j _ _ _ ⟨⟨_,_,rfl⟩,rfl,?_⟩;rw [IM,HA (by simp [hz])];simp
  ·rw [if_pos (by simp [hz])]
   refine ⟨by rw [D2];lia,by rw [H8,D2];lia,j _ _ _ ⟨⟨_,_,rfl⟩,rfl,?_⟩⟩
   rw [IM,HE (by simp [hz])];simp [pD]
 ·rintro ρ M1 acc ⟨⟨o0,z,rfl⟩,rfl,rfl⟩ p hp;exact q p hp
theorem Df {l:List Int} {v:Int} {k:Nat} (j:k < l.length) {i:Int}:gz (l.set k v) i=if i=k then v else gz l i:=by
 unfold gz
 by_cases h:i < 0
 ·rw [if_pos h,if_pos h,if_neg (by lia)]
 ·rw [if_neg h,if_neg h,Hs,Hs]
  by_cases e:i=k
  ·subst e;rw [HF,Jx j,if_pos rfl];rfl
  ·rw [Ko (by lia),if_neg e]
theorem Dg {l:List Int} {k:Nat} (j:k < l.length):l[k]? = some (gz l k):=by
 unfold gz;rw [if_neg (by lia),HF,Hs,D0 j];rfl
theorem wk {n:Nat} {i:Int}:gz (Ha n 0) i=0:=by
 unfold gz
 split
 ·rfl
 ·rw [Hs]
  cases e:(Ha n (0:Int))[i.toNat]? with
  | none=>rfl
  | some x=>exact Oh (HH e)
noncomputable def tu:MSs:=.cons (.augI (.var 15) (.var 17) .add (.bin .mul (.var 18) (.var 16))) .nil
theorem Ef {Φ:Phi} {v0 v1 v2 v3 v4 v5 v6 v7 v8 v10 v11 J L O B G:Option D} {a po:Addr} {pr:Int} {N:Nat} {row:List Int} {zs:List (Int×Int)} {M:Mem} {E:aX} (Y:M po=some (.lst (zs.map pD))) (ES:po≠a) (ha:M a=some (.lst (row.map .int))) (hl:row.length=N) (hz:∀ z∈zs,0<=z.1/\z.1 < N/\bd z.2)
 (q:∀ row' B G,row'.length=N->(∀ k,gz row' k=gz row k+pr*S1 zs k)->E.nx [v0,v1,v2,v3,v4,v5,v6,v7,v8,some (.ref po),v10,v11,J,L,O,some (.ref a),some (.int pr),B,G] (af M a (.lst (row'.map .int)))) :
 wSs Φ (.cons (.for (.tup (.cons (.name 17) (.cons (.name 18) .nil))) (.seq (.var 9)) tu) .nil) E [v0,v1,v2,v3,v4,v5,v6,v7,v8,some (.ref po),v10,v11,J,L,O,some (.ref a),some (.int pr),B,G] M:=by
 walk_at "st";refine ⟨_,ag Y,?_⟩;refine aR (f:=pD) (ys:=zs) (I:=fun l ρ M'=>∃ B G row',ρ = [v0,v1,v2,v3,v4,v5,v6,v7,v8,some (.ref po),v10,v11,J,L,O,some (.ref a),some (.int pr),B,G]/\M'=af M a (.lst (row'.map .int))/\row'.length=N /\ ∀ k,gz row' k=gz row k+pr*S1 l k) rfl ⟨_,_,row,rfl,(vS ha).symm,hl,fun k=>by simp [S1]⟩ (fun l ρ M' ⟨_,_,_,_,e,_⟩=>by rw [e];exact ag (by rw [ak ES];exact Y)) ?_ ?_
 ·rintro l z r ρ M1 e ⟨B,G,row',rfl,rfl,U,hg⟩;refine ⟨_,rfl,fun F hF=>?_⟩;obtain ⟨z0,z1,z2⟩:=hz z (by rw [e];simp)
  obtain ⟨kn,ek⟩:∃ k:Nat,z.1=k:=⟨z.1.toNat,by lia⟩
  have Z:kn < row'.length:=by lia
  unfold tu;rw [bH];walk_at "wp";refine ⟨a,_,_,.int (gz row' kn),rfl,rfl,aa,?_,?_⟩
  ·rw [ek];refine fj ?_;rw [HG,Dg Z];rfl
  walk_at "wp";refine ⟨fP (by unfold bd at z2;lia),?_⟩
  rw [ek];refine aU aa (j:=kn) ?_ ?_
  ·unfold ixN;rw [H8,if_pos (by lia),if_pos (by lia)];simp
  rw [vR];refine hF _ _ ⟨_,_,row'.set kn (gz row' kn+z.2*pr),rfl,by rw [NB],by rw [OX];exact U,fun k=>?_⟩
  rw [Df Z,eQ,bN,show S1 [] k=0 from rfl,OU,ek,N8,<- Qh,<- hg]
  by_cases ekk:k=kn
  ·rw [if_pos ekk,if_pos ekk.symm,ekk,R3]
  ·rw [if_neg ekk,if_neg (fun h=>ekk h.symm)];lia
 ·rintro ρ M1 ⟨B,G,row',rfl,rfl,U,hg⟩;dsimp only;walk_at "wp";exact q row' _ _ U hg
theorem Run.keep {d:Addr} {N:Nat} {M M':Mem} {R R':List (K2×Addr)} {g:K2->List Int} (h:Run d R M R' M') (i:RI d N M R g) {a:Addr} {ds:List D} (e:M a=some (.lst ds)) (j:a∉R.map (·.2)):M' a=some (.lst ds) :=
 h.kp a _ (fun z=>by rw [z,i.dct] at e;cases e) j e
noncomputable def tw:MSs:=(.cons (.ite (.cmp .ninD (.tup (.cons (.var 11) (.cons (.var 13) .nil))) (.var 5)) (.cons (.put (.var 5) (.tup (.cons (.var 11) (.cons (.var 13) .nil))) (.bin .mul (.lst (.cons (.int 0) .nil)) (.var 3)))
 .nil) .nil)
 (.cons (.par 15 16 (.ix (.var 5) (.tup (.cons (.var 11) (.cons (.var 13) .nil)))) (.bin .mul (.var 12) (.var 14)))
 (.cons (.for (.tup (.cons (.name 17) (.cons (.name 18) .nil))) (.seq (.var 9)) tu)
 .nil)))
theorem iw {d:Addr} {N:Nat} {M M':Mem} {R R':List (K2×Addr)} {g:K2->List Int} (h:Run d R M R' M') (i:RI d N M R g) {a:Addr} {o:O} (e:M a=some o) (j:a∉R.map (·.2)):a∉R'.map (·.2):=fun z=>by
 obtain ⟨r,q,rfl⟩:=Hk.mp z
 rcases h.ex r q with h1 | h1
 ·exact j (Hk.mpr ⟨r,h1,rfl⟩)
 ·rw [h1] at e;cases e
theorem EL {Φ:Phi} {v0 v1 v2 v4 v6 v7 v8 v10 G J B F:Option D} {d po:Addr} {i x j y:Int} {N:Nat} {R:List (K2×Addr)} {g:K2->List Int} {zs:List (Int×Int)} {M:Mem} {E:aX} (hN:N<=1000) (I:RI d N M R g) (U:M po=some (.lst (zs.map pD))) (Y:po∉R.map (·.2)) (hl:R.length<=1000000) (hx:bd x) (hz:∀ z∈zs,0<=z.1/\z.1 < N/\bd z.2)
 (q:∀ M' R' g' G J B F,RI d N M' R' g'->Run d R M R' M'->(∀ r∈R,r∈R')->R'.length<=R.length+1->(∀ k i' j',gz (g' (i',j')) k=gz (g (i',j')) k+if i'=i/\j'=j then x*y*S1 zs k else 0)->E.nx [v0,v1,v2,some (.int N),v4,some (.ref d),v6,v7,v8,some (.ref po),v10,some (.int i),some (.int x),some (.int j),some (.int y),G,J,B,F] M') :
 wSs Φ tw E [v0,v1,v2,some (.int N),v4,some (.ref d),v6,v7,v8,some (.ref po),v10,some (.int i),some (.int x),some (.int j),some (.int y),G,J,B,F] M:=by
 unfold tw;have ek:D.tup [D.int i,D.int j]=k2D (i,j):=rfl;refine eA (I:=fun ρ M'=>ρ = [v0,v1,v2,some (.int N),v4,some (.ref d),v6,v7,v8,some (.ref po),v10,some (.int i),some (.int x),some (.int j),some (.int y),G,J,B,F] /\ ∃ R',RI d N M' R' g/\Run d R M R' M'/\(∀ r∈R,r∈R')/\R'.length<=R.length+1/\(i,j)∈R'.map (·.1)) (fun RR hR=>?_) (fun ρ M1 h=>?_)
 ·walk_at "wp";refine ⟨by rw [D2];lia,d,true,_,rfl,.inl I.dct,rfl,?_⟩
  walk_at "wp";rw [ek]
  by_cases L:(i,j)∈R.map (·.1)
  ·obtain ⟨a,ha,e⟩:=rq L;rw [e];walk_at "wp";exact hR _ _ ⟨rfl,R,I,Run.refl,fun r h=>h,by lia,L⟩
  ·rw [Bj L];walk_at "wp";rw [bH];walk_at "wp";refine ⟨by rw [D2];lia,fun p1 EU=>?_⟩
   have g1:=Ge.new (o:=.lst [.int 0]) EU;refine ⟨_,aa,by lia,by lia,by rw [D2];simp;lia,fun p2 O=>?_⟩
   have g2:=g1.trans (Ge.new (o:=.lst (Ha (N:Int).toNat [D.int 0]).flatten) O);have Z:M p2=none:=by
    cases hq:M p2 with
    | none=>rfl
    | some o=>rw [g1 _ _ hq] at O;cases O
   have e2:af (af M p1 (.lst [.int 0])) p2 (.lst (Ha (N:Int).toNat [D.int 0]).flatten) p2=some (.lst ((Ha N (0:Int)).map .int)):=by
    rw [aa,fQ];simp
   generalize af (af M p1 (.lst [.int 0])) p2 (.lst (Ha (N:Int).toNat [D.int 0]).flatten)=M2 at g2 e2;refine ⟨by rw [D2];lia,fO (g2 _ _ I.dct) rfl (by rw [H8,D2];lia) ?_⟩
   rw [ek,Bk L];obtain ⟨I2,r2⟩:=I.new L g2 Z e2;exact hR _ _ ⟨rfl,_,I2,r2,fun r h=>Iv _ h,by simp,by simp⟩
 ·obtain ⟨rfl,R',I1,r1,sub,EV,L⟩:=h;obtain ⟨a,ha,e⟩:=rq L;walk_at "st";refine ⟨by rw [D2];lia,?_⟩
  rw [ek];refine Dc I1.dct rfl e ?_;walk_at "wp";refine ⟨fP (by unfold bd at hx;lia),?_⟩
  have ES:=r1.keep I U Y;have ET:=iw r1 I U Y;refine Ef (pr:=x*y) ES (fun z=>ET (Hk.mpr ⟨_,ha,z.symm⟩)) (I1.row _ ha) (I1.ln _) hz fun row' B F EW hg=>?_;obtain ⟨I2,r2⟩:=I1.put ha EW;refine q _ _ _ _ _ _ _ I2 (r1.trans (g:=g) r2 I1 sub) sub EV fun k i' j'=>?_
  by_cases h:i'=i/\j'=j
  ·obtain ⟨rfl,rfl⟩:=h;rw [if_pos rfl,if_pos ⟨rfl,rfl⟩];exact hg k
  ·rw [if_neg (fun z=>h ⟨congrArg (·.1) z,congrArg (·.2) z⟩),if_neg h,OU]
noncomputable def tz:MSs:=.cons (.for (.tup (.cons (.name 13) (.cons (.name 14) .nil))) (.seq (.var 10)) tw) .nil
theorem EM {Φ:Phi} {v0 v1 v2 v4 v6 v7 v8 O U B G J L:Option D} {d po pr:Addr} {i x:Int} {N:Nat} {R:List (K2×Addr)} {g:K2->List Int} {ys zs:List (Int×Int)} {M:Mem} {E:aX} (hN:N<=1000) (I:RI d N M R g) (Z:M po=some (.lst (zs.map pD))) (ES:po∉R.map (·.2)) (ET:M pr=some (.lst (ys.map pD))) (EW:pr∉R.map (·.2)) (hl:R.length+ys.length<=1000000) (hx:bd x) (hz:∀ z∈zs,0<=z.1/\z.1 < N/\bd z.2)
 (q:∀ M' R' g' O U B G J L,RI d N M' R' g'->Run d R M R' M'->(∀ r∈R,r∈R')->R'.length<=R.length+ys.length->(∀ k i' j',gz (g' (i',j')) k=gz (g (i',j')) k+if i=i' then x*S1 ys j'*S1 zs k else 0)->E.nx [v0,v1,v2,some (.int N),v4,some (.ref d),v6,v7,v8,some (.ref po),some (.ref pr),some (.int i),some (.int x),O,U,B,G,J,L] M') :
 wSs Φ tz E [v0,v1,v2,some (.int N),v4,some (.ref d),v6,v7,v8,some (.ref po),some (.ref pr),some (.int i),some (.int x),O,U,B,G,J,L] M:=by
 unfold tz;walk_at "st";refine ⟨_,ag ET,?_⟩;refine aR (f:=pD) (ys:=ys) (I:=fun l ρ M'=>∃ R' g' O U B G J L,ρ = [v0,v1,v2,some (.int N),v4,some (.ref d),v6,v7,v8,some (.ref po),some (.ref pr),some (.int i),some (.int x),O,U,B,G,J,L]/\RI d N M' R' g'/\Run d R M R' M'/\(∀ r∈R,r∈R')/\R'.length<=R.length+l.length /\ ∀ k i' j',gz (g' (i',j')) k=gz (g (i',j')) k+if i=i' then x*S1 l j'*S1 zs k else 0) rfl ⟨R,g,_,_,_,_,_,_,rfl,I,Run.refl,fun r h=>h,by simp,fun k i' j'=>by simp [S1]⟩ (fun l ρ M' ⟨_,_,_,_,_,_,_,_,_,_,Y,_⟩=>ag (Y.keep I ET EW)) ?_ ?_
 ·rintro l y r ρ M1 e ⟨R1,g1,O,U,B,G,J,L,rfl,I1,Y,sub,EU,hg⟩;refine ⟨_,rfl,fun F hF=>?_⟩;have EY:=aq e;refine EL (j:=y.1) (y:=y.2) hN I1 (Y.keep I Z ES) (iw Y I Z ES) (by lia) hx hz fun M2 R2 g2 B G J L I2 r2 EV EZ EX=>hF _ _ ⟨R2,g2,_,_,_,_,_,_,rfl,I2,Y.trans (g:=g) r2 I1 sub,fun r h=>EV r (sub r h),by simp;lia,fun k i' j'=>?_⟩
  rw [EX,hg,eQ,bN,show S1 [] j'=0 from rfl,OU,Qh];congr 1
  by_cases hi:i=i'
  ·subst hi
   by_cases hj:y.1=j'
   ·subst hj;simp [N8,Kt]
   ·rw [if_pos rfl,if_neg (fun z=>hj z.2.symm),if_pos rfl,if_neg hj];simp
  ·rw [if_neg hi,if_neg (fun z=>hi z.1.symm),if_neg hi];rfl
 ·rintro ρ M1 ⟨R1,g1,O,U,B,G,J,L,rfl,I1,Y,sub,EU,hg⟩;dsimp only;walk_at "wp";exact q _ _ _ _ _ _ _ _ _ I1 Y sub EU hg
theorem EN {Φ:Phi} {v0 v1 v2 v4 v6 v7 v8 U Y j B G J L O:Option D} {d po pr pl:Addr} {N:Nat} {R:List (K2×Addr)} {g:K2->List Int} {xs ys zs:List (Int×Int)} {M:Mem} {E:aX} (hN:N<=1000) (I:RI d N M R g) (ES:M po=some (.lst (zs.map pD))) (ET:po∉R.map (·.2)) (EU:M pr=some (.lst (ys.map pD))) (EV:pr∉R.map (·.2)) (EY:M pl=some (.lst (xs.map pD))) (EZ:pl∉R.map (·.2)) (hl:R.length+xs.length*ys.length<=1000000) (hx:∀ z∈xs,bd z.2) (hz:∀ z∈zs,0<=z.1/\z.1 < N/\bd z.2)
 (q:∀ M' R' g' U Y j B G J L O,RI d N M' R' g'->Run d R M R' M'->(∀ r∈R,r∈R')->R'.length<=R.length+xs.length*ys.length->(∀ k i' j',gz (g' (i',j')) k=gz (g (i',j')) k+S1 xs i'*S1 ys j'*S1 zs k)->E.nx [v0,v1,v2,some (.int N),v4,some (.ref d),v6,v7,v8,some (.ref po),some (.ref pr),U,Y,j,B,G,J,L,O] M') :
 bv (oh (bV (ce 11) (bV (ce 12) fZ))) (wSs Φ tz) (fun M=>au M (.ref pl)=some (xs.map pD)) E (xs.map pD) [v0,v1,v2,some (.int N),v4,some (.ref d),v6,v7,v8,some (.ref po),some (.ref pr),U,Y,j,B,G,J,L,O] M:=by
 refine aR (f:=pD) (ys:=xs) (I:=fun l ρ M'=>∃ R' g' U Y j B G J L O,ρ = [v0,v1,v2,some (.int N),v4,some (.ref d),v6,v7,v8,some (.ref po),some (.ref pr),U,Y,j,B,G,J,L,O]/\RI d N M' R' g'/\Run d R M R' M'/\(∀ r∈R,r∈R')/\R'.length<=R.length+l.length*ys.length /\ ∀ k i' j',gz (g' (i',j')) k=gz (g (i',j')) k+S1 l i'*S1 ys j'*S1 zs k) rfl ⟨R,g,_,_,_,_,_,_,_,_,rfl,I,Run.refl,fun r h=>h,by simp,fun k i' j'=>by simp [S1]⟩ (fun l ρ M' ⟨_,_,_,_,_,_,_,_,_,_,_,_,Z,_⟩=>ag (Z.keep I EY EZ)) ?_ ?_
 ·rintro l x r ρ M1 e ⟨R1,g1,U,Y,j,B,G,J,L,O,rfl,I1,Z,sub,EW,hg⟩;refine ⟨_,rfl,fun F hF=>?_⟩;have F1:=aq e;have hm:(l.length+1)*ys.length<=xs.length*ys.length:=JR _ F1;rw [Jq] at hm;refine EM (i:=x.1) (x:=x.2) hN I1 (Z.keep I ES ET) (iw Z I ES ET) (Z.keep I EU EV) (iw Z I EU EV) (by lia) (hx x (by rw [e];simp)) hz fun M2 R2 g2 j B G J L O I2 r2 EX F4 F3=>hF _ _ ⟨R2,g2,_,_,_,_,_,_,_,_,rfl,I2,Z.trans (g:=g) r2 I1 sub,fun r h=>EX r (sub r h),by rw [H9,J7,Jq];lia,fun k i' j'=>?_⟩
  rw [F3,hg,eQ,bN,show S1 [] i'=0 from rfl,OU,Qh,Kt,Kt];congr 2
  by_cases hi:x.1=i'
  ·rw [if_pos hi,if_pos hi]
  ·rw [if_neg hi,if_neg hi];simp
 ·rintro ρ M1 ⟨R1,g1,U,Y,j,B,G,J,L,O,rfl,I1,Z,sub,EW,hg⟩;exact q _ _ _ _ _ _ _ _ _ _ _ I1 Z sub EW hg
noncomputable def gH (s:Stmt) (ff:Nat):FD:=⟨"rows_by_pairs",s,["scheme","left","right","many","products","rows","l","r","o","outs","rights","i","x","j","y","row","product","k","c"],1,
 (.cons (.asg (.tup (.cons (.name 1) (.cons (.name 2) (.cons (.name 3) (.cons (.name 4) .nil))))) (.var 0))
 (.cons (.asg (.name 5) (.dnew true))
 (.cons (.for (.tup (.cons (.name 6) (.cons (.name 7) (.cons (.name 8) .nil)))) (.seq (.var 4)) (.cons (.par 9 10 (.call ff (.cons (.var 8) .nil)) (.call ff (.cons (.var 7) .nil)))
 (.cons (.for (.tup (.cons (.name 11) (.cons (.name 12) .nil))) (.seq (.call ff (.cons (.var 6) .nil))) (.cons (.for (.tup (.cons (.name 13) (.cons (.name 14) .nil))) (.seq (.var 10)) (.cons (.ite (.cmp .ninD (.tup (.cons (.var 11) (.cons (.var 13) .nil))) (.var 5)) (.cons (.put (.var 5) (.tup (.cons (.var 11) (.cons (.var 13) .nil))) (.bin .mul (.lst (.cons (.int 0) .nil)) (.var 3)))
 .nil) .nil)
 (.cons (.par 15 16 (.ix (.var 5) (.tup (.cons (.var 11) (.cons (.var 13) .nil)))) (.bin .mul (.var 12) (.var 14)))
 (.cons (.for (.tup (.cons (.name 17) (.cons (.name 18) .nil))) (.seq (.var 9)) (.cons (.augI (.var 15) (.var 17) .add (.bin .mul (.var 18) (.var 16)))
 .nil))
 .nil))))
 .nil))
 .nil)))
 (.cons (.ret (.var 5))
 .nil))))⟩
theorem Eg {l:List Int} {N:Nat} (h:Big l) (q:l.length=N):∀ z∈nz l,0<=z.1/\z.1 < N/\bd z.2:=fun z hz=>by
 have j:=wc h z hz;unfold nz at hz;have hz:=(Ic.mp hz).1;unfold idx at hz;obtain ⟨i,hi,e⟩:=RV.mp hz;refine ⟨?_,?_,j⟩ <;> rw [<- e] <;> dsimp only <;> lia
theorem kx {l:List Int} {k:Int}:S1 (nz l) k=gz l k:=by unfold nz;rw [fT,df]
structure Pf (L0 L1 L2:Nat) (p:Pr):Prop where
 b1:Big p.1
 b2:Big p.2.1
 b3:Big p.2.2
 l1:p.1.length=L0
 l2:p.2.1.length=L1
 l3:p.2.2.length=L2
theorem yR {f ff:Nat} {s sf:Stmt} (hf:T[f]? = some (gH s ff)) (ET:T[ff]? = some (cO sf)) {n:Nat} (hn : 2<=n) {x0 x1:D} {L0 L1 N B:Nat} {p:Addr} {ps:List Pr} {M:Mem} {Q:QD} (hp:M p=some (.lst (ps.map prD))) (hN:N<=1000) (h0:L0<=1000) (h1:L1<=1000) (hB:ps.length*B<=1000000) (hF:∀ p∈ps,Pf L0 L1 N p) (hZ:∀ p∈ps,(nz p.1).length*(nz p.2.1).length<=B)
 (q:∀ d M' R g,RI d N M' R g->Ge M M'->M d=none->(∀ r∈R,M r.2=none)->R.length<=ps.length*B->(∀ k i j,gz (g (i,j)) k=Tn ps k i j)->Q (.ref d) M'):phi T n f [.tup [x0,x1,.int N,.ref p]] M Q:=by
 refine aA (by lia) hf rfl (ρ:=[some _,none,none,none,none,none,none,none,none,none,none,none,none,none,none,none,none,none,none]) rfl ?_
 unfold gH;walk_at "st";walk_at "st";intro d hd;have g0:=Ge.new (o:=.dct true []) hd;have d0:=aa (M:=M) (a:=d) (o:=.dct true []);generalize af M d (.dct true [])=M0 at g0 d0 ⊢;walk_at "st";refine ⟨_,ag (g0 _ _ hp),?_⟩;have F8:p≠d:=fun z=>by rw [z,hd] at hp;cases hp
 refine aR (f:=prD) (ys:=ps) (I:=fun l ρ M'=>∃ R g o6 o7 o8 o9 EU G J L O U Y Z ES,ρ = [some (.tup [x0,x1,.int N,.ref p]),some x0,some x1,some (.int N),some (.ref p),some (.ref d),o6,o7,o8,o9,EU,G,J,L,O,U,Y,Z,ES]/\Ge M M'/\RI d N M' R g/\(∀ r∈R,M r.2=none)/\R.length<=l.length*B /\ ∀ k i j,gz (g (i,j)) k=Tn l k i j) rfl ⟨[],fun _=>Ha N 0,_,_,_,_,_,_,_,_,_,_,_,_,_,rfl,g0,⟨d0,by simp,by simp,by simp,by simp,by simp,fun _ _=>rfl⟩,by simp,by simp,fun k i j=>by rw [wk];simp [Tn]⟩ (fun l ρ M' ⟨_,_,_,_,_,_,_,_,_,_,_,_,_,_,_,_,g,_⟩=>ag (g _ _ hp)) ?_ ?_
 ·rintro l x r ρ M1 e ⟨R,g,o6,o7,o8,o9,EU,G,J,L,O,U,Y,Z,ES,rfl,g1,I1,fr,EY,hg⟩;refine ⟨_,rfl,fun F EZ=>?_⟩;have hx:=hF x (by rw [e];simp)
  have F1:=aq e;have hm:(l.length+1)*B<=ps.length*B:=JR _ F1;rw [Jq] at hm;have F9:=hZ x (by rw [e];simp)
  have nr:∀ {M2:Mem} {a:Addr},Ge M1 M2->M2 a=none->a∉R.map (·.2):=fun {M2 a} g2 ha z=>by
   obtain ⟨r,hr,rfl⟩:=Hk.mp z;rw [g2 _ _ (I1.row r hr)] at ha;cases ha
  walk_at "st";refine eR ET (by lia) (l:=x.2.2) (by have:=hx.l3;lia) rfl fun po EV=>?_
  have F3:=nr Ge.refl EV;have g2:Ge M1 _:=Ge.new (o:=.lst ((nz x.2.2).map pD)) EV;have eo:=aa (M:=M1) (a:=po) (o:=.lst ((nz x.2.2).map pD));generalize af M1 po (.lst ((nz x.2.2).map pD))=M2 at eo g2 ⊢;walk_at "wp";refine eR ET (by lia) (l:=x.2.1) (by have:=hx.l2;lia) rfl fun pr EW=>?_
  have F4:=nr g2 EW;have gr:=Ge.new (o:=.lst ((nz x.2.1).map pD)) EW;have er:=aa (M:=M2) (a:=pr) (o:=.lst ((nz x.2.1).map pD));have eo:=gr _ _ eo;have g3:=g2.trans gr;generalize af M2 pr (.lst ((nz x.2.1).map pD))=M3 at eo er g3 ⊢;clear g2 gr EV EW;walk_at "wp";walk_at "st";refine eR ET (by lia) (l:=x.1) (by have:=hx.l1;lia) rfl fun pl EX=>?_
  have F5:=nr g3 EX;have gl:=Ge.new (o:=.lst ((nz x.1).map pD)) EX;have el:=aa (M:=M3) (a:=pl) (o:=.lst ((nz x.1).map pD));have eo:=gl _ _ eo;have er:=gl _ _ er;have g4:=g3.trans gl;generalize af M3 pl (.lst ((nz x.1).map pD))=M4 at eo er el g4 ⊢;clear g3 gl EX;refine ⟨_,ag el,?_⟩;refine EN hN (I1.ge g4) eo F3 er F4 el F5 (by lia) (wc hx.b1) (Eg hx.b3 hx.l3) fun M5 R5 g5 G J L O U Y Z ES I5 r5 sub Fa F6=>?_
  walk_at "wp";refine EZ _ _ ⟨R5,g5,_,_,_,_,_,_,_,_,_,_,_,_,_,rfl,fun a o ea=>?_,I5,fun r hr=>?_,?_,fun k i j=>?_⟩
  ·refine r5.kp a o (fun z=>by rw [z,hd] at ea;cases ea) (fun z=>?_) (g4 _ _ (g1 _ _ ea))
   obtain ⟨r',F7,rfl⟩:=Hk.mp z;rw [fr r' F7] at ea;cases ea
  ·rcases r5.ex r hr with h | h
   ·exact fr r h
   ·cases ea:M r.2 with
    | none=>rfl
    | some o=>rw [g4 _ _ (g1 _ _ ea)] at h;cases h
  ·rw [H9,J7,Jq];lia
  ·rw [F6,hg,kx,kx,kx,wg];simp [Tn]
 ·rintro ρ M1 ⟨R,g,o6,o7,o8,o9,EU,G,J,L,O,U,Y,Z,ES,rfl,g1,I1,fr,EY,hg⟩;dsimp only;walk_at "st";exact q d M1 R g I1 g1 hd fr EY hg
theorem Dh {L0 L1 N:Nat} {p:Pr} (h:Pf L0 L1 N p):(nz p.1).length*(nz p.2.1).length<=L0*L1:=by
 have a1:=pR (l:=p.1);have a2:=pR (l:=p.2.1);rw [h.l1] at a1;rw [h.l2] at a2;exact J1 a1 a2
end
section
open PySem PySem.Spec PyProof.Rows L2.Srt
variable {T:List FD}
noncomputable def tr1 (k:K2) (zs:List (Int×Int)):List Tm:=zs.map fun z=>((z.1,k.1,k.2),z.2)
noncomputable def tr (g:K2->List Int) (r:K2×Addr):List Tm:=tr1 r.1 (nz (g r.1))
theorem Bl {k:K2} {zs:List (Int×Int)}:tr1 k zs=bj k.1 1 k.2 1 zs:=by
 unfold tr1 bj;exact IT fun z _=>by rw [Int.one_mul,Int.one_mul]
theorem zL {g:K2->List Int} {k i j:Int}:∀ {R:List (K2×Addr)},(R.map (·.1)).Nodup->cf (R.flatMap (tr g)) (k,i,j)=if (i,j)∈R.map (·.1) then gz (g (i,j)) k else 0
 | [],_=>by simp [cD]
 | r::R,h=>by
   rw [Hj,Ip] at h;rw [Jk,bB,zL h.2];unfold tr;rw [Bl,kY,kx,Hj]
   by_cases e:r.1=(i,j)
   ·have q:r.1.1=i:=by rw [e]
    have B:r.1.2=j:=by rw [e]
    rw [if_pos ⟨q,B⟩,if_neg (by rw [<- e];exact h.1),if_pos (by rw [e];simp),e];simp
   ·rw [if_neg (fun z=>e (LB z.1 z.2))]
    by_cases m:(i,j)∈R.map (·.1)
    ·rw [if_pos m,if_pos (HM _ m)];simp
    ·rw [if_neg m,if_neg (fun z=>by
      rcases He.mp z with z | z
      ·exact e z.symm
      ·exact m z)];rfl
theorem pX {g:K2->List Int} {N:Nat} (h:∀ k,(g k).length=N):∀ {R:List (K2×Addr)},(R.flatMap (tr g)).length<=R.length*N
 | []=>by simp
 | r::R=>by
   rw [Jk,H9,Io,Jq];have h1:=pX h (R:=R);have h2:=pR (l:=g r.1);rw [h] at h2;have j:(tr g r).length=(nz (g r.1)).length:=by simp [tr,tr1]
   lia
noncomputable def fU (s:Stmt) (ft ff fr:Nat):FD:=⟨"task_by",s,["scheme","left","right","many","products","rows"],1,
 (.cons (.asg (.tup (.cons (.name 1) (.cons (.name 2) (.cons (.name 3) (.cons (.name 4) .nil))))) (.var 0))
 (.cons (.asg (.name 5) (.call fr (.cons (.var 0) .nil)))
 (.cons (.frz 5 (.ret (.call ft (.cons (.var 1) (.cons (.var 2) (.cons (.var 3) (.cons (.comp [none,none,none,none,none] ["i","j","row","k","c"] (.more (.items (.var 5)) (.tup (.cons (.tup (.cons (.name 0) (.cons (.name 1) .nil))) (.cons (.name 2) .nil))) .nil (.last (.seq (.call ff (.cons (.var 2) .nil))) (.tup (.cons (.name 3) (.cons (.name 4) .nil))) .nil (.tup (.cons (.var 3) (.cons (.var 0) (.cons (.var 1) (.cons (.var 4) .nil)))))))) .nil)))))))
 .nil)))⟩
theorem qr {f ft ff fr:Nat} {s sk sf sr:Stmt} (hf:T[f]? = some (fU s ft ff fr)) (ES:T[ft]? = some (gF sk)) (L:T[ff]? = some (cO sf)) (ET:T[fr]? = some (gH sr ff)) {n:Nat} (hn : 3<=n) {x0 x1:D} {L0 L1 N B:Nat} {p:Addr} {ps:List Pr} {M:Mem} {Q:QD} (hp:M p=some (.lst (ps.map prD))) (hN:N<=1000) (h0:L0<=1000) (h1:L1<=1000) (hB:ps.length*B*N<=100000) (EX:ps.length*B<=100000) (hF:∀ p∈ps,Pf L0 L1 N p) (hZ:∀ p∈ps,(nz p.1).length*(nz p.2.1).length<=B)
 (q:∀ (ts rs:List Tm) p' M',IsTask ts rs->(∀ k i j,cf ts (k,i,j)=Tn ps k i j)->Ge M M'->M p'=none->M' p'=some (.lst (rs.map tmD))->Q (.tup [x0,x1,.int N,.ref p']) M'):phi T n f [.tup [x0,x1,.int N,.ref p]] M Q:=by
 refine aA (by lia) hf rfl (ρ:=[some _,none,none,none,none,none]) rfl ?_
 unfold fU;walk_at "st";walk_at "st";refine yR ET L (by lia) hp hN h0 h1 (by lia) hF hZ fun d Z R g I g1 hd fr hl hg=>?_
 walk_at "st";refine kR rfl I.dct ?_;have fd:=aa (M:=Z) (a:=d) (o:=.fdc (R.map raD));have g2:Ge M (af Z d (.fdc (R.map raD))):=g1.upd hd;have F:∀ r∈R,af Z d (.fdc (R.map raD)) r.2=some (.lst ((g r.1).map .int)):=fun r hr=>by
  rw [ak (I.nd r hr)];exact I.row r hr
 generalize af Z d (.fdc (R.map raD))=M2 at fd g2 F ⊢;have hlen:=pX I.ln (R:=R);have EY:R.length*N<=ps.length*B*N:=JR _ hl;walk_at "wp";refine ⟨_,fd,?_⟩;refine aO (f:=fun r:K2×Addr=>kvD (raD r)) (ys:=R) (I:=fun l ρ M' acc=>(∃ o0 o1 o2 G J,ρ = [o0,o1,o2,G,J])/\Ge M2 M'/\acc=(l.flatMap (tr g)).map tmD) (by rw [Im];rfl) ⟨⟨_,_,_,_,_,rfl⟩,Ge.refl,rfl⟩ (fun _ _ _ _ _=>trivial) ?_ ?_
 ·rintro l r rr ρ O acc e ⟨⟨o0,o1,o2,G,J,rfl⟩,g3,rfl⟩;refine ⟨_,rfl,fun N' EU=>?_⟩;have hr:r∈R:=by rw [e];simp
  have EZ:=pX I.ln (R:=l);have F1:(l.flatMap (tr g)).length+(nz (g r.1)).length<=(R.flatMap (tr g)).length:=by
   rw [e,Lx,Jk,H9,H9];have:(tr g r).length=(nz (g r.1)).length:=by simp [tr,tr1]
   lia
  walk_at "wp";refine eR L (by lia) (l:=g r.1) (by rw [I.ln];lia) (ag (g3 _ _ (F r hr))) fun pz EV=>?_
  have U:=g3.trans (Ge.new (o:=.lst ((nz (g r.1)).map pD)) EV);have ez:=aa (M:=O) (a:=pz) (o:=.lst ((nz (g r.1)).map pD));generalize af O pz (.lst ((nz (g r.1)).map pD))=M4 at U ez ⊢;walk_at "wp";refine ⟨_,ag ez,?_⟩;refine aO (f:=pD) (ys:=nz (g r.1)) (I:=fun zs ρ M' acc=>(∃ G J,ρ = [some (.int r.1.1),some (.int r.1.2),some (.ref r.2),G,J])/\M'=M4/\acc=(l.flatMap (tr g)).map tmD++(tr1 r.1 zs).map tmD) rfl ⟨⟨_,_,rfl⟩,rfl,by simp [tr1]⟩ (fun _ _ _ _ h=>by rw [h.2.1];exact ag ez) ?_ ?_
  ·rintro zs z r' ρ M5 acc e' ⟨⟨G,J,rfl⟩,rfl,rfl⟩;refine ⟨_,rfl,fun N2 EW=>?_⟩;have F3:=aq e';have F4:(tr1 r.1 zs).length=zs.length:=by simp [tr1]
   walk_at "wp";refine ⟨by rw [D2];lia,by rw [H9,H8,H8,D2];lia,EW _ _ _ ⟨⟨_,_,rfl⟩,rfl,?_⟩⟩
   simp [tr1,tmD]
  ·rintro ρ M5 acc ⟨⟨G,J,rfl⟩,rfl,rfl⟩;exact EU _ _ _ ⟨⟨_,_,_,_,_,rfl⟩,U,by rw [Lx];simp [tr]⟩
 ·rintro ρ O acc ⟨⟨o0,o1,o2,G,J,rfl⟩,g3,rfl⟩ pt hpt;have U:=g3.trans (Ge.new (o:=.lst ((R.flatMap (tr g)).map tmD)) hpt);have et:=aa (M:=O) (a:=pt) (o:=.lst ((R.flatMap (tr g)).map tmD));generalize af O pt (.lst ((R.flatMap (tr g)).map tmD))=M4 at U et ⊢;walk_at "wp";refine rg ES (by lia) (ag et) (by lia) fun rs p' M' hT gT Y eT=>?_
  have gM:=g2.trans U;refine q _ rs p' M' hT (fun k i j=>?_) (gM.trans gT) ?_ eT
  ·rw [zL I.keys]
   by_cases m:(i,j)∈R.map (·.1)
   ·rw [if_pos m];exact hg k i j
   ·rw [if_neg m,<- hg,I.out _ m,wk]
  ·cases hq:M p' with
   | none=>rfl
   | some o=>rw [gM _ _ hq] at Y;cases Y
theorem tD {f ft ff fr:Nat} {s sk sf sr:Stmt} (hf:T[f]? = some (fU s ft ff fr)) (z:T[ft]? = some (gF sk)) (B:T[ff]? = some (cO sf)) (F:T[fr]? = some (gH sr ff)) {n:Nat} (O : 3<=n) {x0 J:D} {L0 L1 N:Nat} {p:Addr} {ps:List Pr} {M:Mem} {Q:QD} (U:M p=some (.lst (ps.map prD))) (Y:N<=1000) (h0:L0<=1000) (h1:L1<=1000) (Z:ps.length*(L0*L1)*N<=100000) (G:ps.length*(L0*L1)<=100000) (L:∀ p∈ps,Pf L0 L1 N p)
 (q:∀ (ts rs:List Tm) p' M',IsTask ts rs->(∀ k i j,cf ts (k,i,j)=Tn ps k i j)->Ge M M'->M p'=none->M' p'=some (.lst (rs.map tmD))->Q (.tup [x0,J,.int N,.ref p']) M'):phi T n f [.tup [x0,J,.int N,.ref p]] M Q:=qr hf z B F O U Y h0 h1 Z G L (fun p h=>Dh (L p h)) q
end
section
open PySem PySem.Spec PyProof.Rows L2.Srt
variable {T:List FD}
noncomputable def ixs (l:List Int) (ks:List Nat):List (Int×Int):=ks.map fun k:Nat=>((k:Int),gi l (k:Int))
theorem iy {l:List Int} {N:Nat} (h:l.length=N):ixs l (IV N)=idx l:=by
 unfold ixs idx;apply Kr;intro j;rw [HG,N4]
 by_cases hj:j < N
 ·rw [Nq hj,D0 (by lia)]
  simp only [L3,gi,HF];rw [Hs,D0 (by lia)];rfl
 ·rw [Kl (by simp;lia),Kl (by lia)];rfl
theorem lg {l:List Int} {ks:List Nat}:(ixs l ks).length=ks.length:=by simp [ixs]
theorem jg {l:List Int} {ks:List Nat} {k:Nat}:ixs l (ks++[k])=ixs l ks++[((k:Int),gi l (k:Int))]:=by simp [ixs]
theorem wl {l:List Int} (h:Big l) {i:Int}:bd (gi l i):=by
 unfold gi;rw [Hs]
 cases e:l[i.toNat]? with
 | none=>constructor <;> decide
 | some x=>exact h x (HH e)
noncomputable def lh (s:Stmt):FD:=⟨"_law_sums",s,["_law_scheme_here","_law_found","_law_l","_law_r","_law_o","_law_i","_law_j","_law_k"],1,
 (.cons (.asg (.name 1) (.dnew true))
 (.cons (.for (.tup (.cons (.name 2) (.cons (.name 3) (.cons (.name 4) .nil)))) (.seq (.ix (.var 0) (.int 3))) (.cons (.for (.name 5) (.rng1 (.ix (.var 0) (.int 0))) (.cons (.for (.name 6) (.rng1 (.ix (.var 0) (.int 1))) (.cons (.for (.name 7) (.rng1 (.ix (.var 0) (.int 2))) (.cons (.put (.var 1) (.tup (.cons (.var 7) (.cons (.var 5) (.cons (.var 6) .nil)))) (.bin .add (.dget (.var 1) (.tup (.cons (.var 7) (.cons (.var 5) (.cons (.var 6) .nil)))) (.int 0)) (.bin .mul (.bin .mul (.ix (.var 2) (.var 5)) (.ix (.var 3) (.var 6))) (.ix (.var 4) (.var 7)))))
 .nil))
 .nil))
 .nil))
 .nil))
 (.cons (.frz 1 (.ret (.blt .dict (.cons (.comp [none,(some 1)] ["_law_place","_law_found"] (.last (.keys (.var 1)) (.name 0) (.cons (.cmp .ne (.ix (.var 1) (.var 0)) (.int 0)) .nil) (.tup (.cons (.var 0) (.cons (.ix (.var 1) (.var 0)) .nil))))) .nil))))
 .nil)))⟩
noncomputable def sbK:MSs:=.cons (.put (.var 1) (.tup (.cons (.var 7) (.cons (.var 5) (.cons (.var 6) .nil)))) (.bin .add (.dget (.var 1) (.tup (.cons (.var 7) (.cons (.var 5) (.cons (.var 6) .nil)))) (.int 0)) (.bin .mul (.bin .mul (.ix (.var 2) (.var 5)) (.ix (.var 3) (.var 6))) (.ix (.var 4) (.var 7))))) .nil
noncomputable def sbJ:MSs:=.cons (.for (.name 7) (.rng1 (.ix (.var 0) (.int 2))) sbK) .nil
noncomputable def sbI:MSs:=.cons (.for (.name 6) (.rng1 (.ix (.var 0) (.int 1))) sbJ) .nil
noncomputable def scD (L0 L1 L2:Nat) (p:Addr):D:=.tup [.int L0,.int L1,.int L2,.ref p]
theorem Di {Φ:Phi} {L0 L1 L2:Nat} {p d:Addr} {x:Pr} {i j:Nat} {B:Option D} {pre:List Tm} {M:Mem} {E:aX} (h2:L2<=1000) (hi:i < x.1.length) (hj:j < x.2.1.length) (U:x.2.2.length=L2) (b1:Big x.1) (b3:Big x.2.2) (hd:M d=some (.dct true ((tset pre).map kcD))) (hl:pre.length+L2<=1000000)
 (q:∀ M' B,Od d M M'->M' d=some (.dct true ((tset (pre++bj i (gi x.1 i) j (gi x.2.1 j) (idx x.2.2))).map kcD))->E.nx [some (scD L0 L1 L2 p),some (.ref d),some (.tup (x.1.map .int)),some (.tup (x.2.1.map .int)),some (.tup (x.2.2.map .int)),some (.int i),some (.int j),B] M') :
 wSs Φ sbJ E [some (scD L0 L1 L2 p),some (.ref d),some (.tup (x.1.map .int)),some (.tup (x.2.1.map .int)),some (.tup (x.2.2.map .int)),some (.int i),some (.int j),B] M:=by
 unfold sbJ scD;walk_at "st";refine ⟨_,rfl,_,rfl,by lia,by lia,?_⟩
 rw [HF];rw [<- iy U] at q;refine aR (I:=fun l ρ M'=>∃ B,ρ = [some (scD L0 L1 L2 p),some (.ref d),some (.tup (x.1.map .int)),some (.tup (x.2.1.map .int)),some (.tup (x.2.2.map .int)),some (.int i),some (.int j),B]/\Od d M M'/\M' d=some (.dct true ((tset (pre++bj i (gi x.1 i) j (gi x.2.1 j) (ixs x.2.2 l))).map kcD))) bI ⟨_,rfl,Od.refl,by simpa [bj,ixs] using hd⟩ (fun _ _ _ _=>trivial) ?_ ?_
 ·rintro l k r ρ M1 e ⟨B,rfl,g1,G⟩;refine ⟨_,rfl,fun F Y=>?_⟩;have J:=aq e;rw [Lh] at J;have Z:k < L2:=by have h9:k∈IV L2:=(by rw [e];simp);simpa using h9
  have O:=fR (pre++bj i (gi x.1 i) j (gi x.2.1 j) (ixs x.2.2 l));rw [H9,pT,lg] at O;unfold sbK;rw [bH];walk_at "wp";refine ⟨⟨_,_,G⟩,by rw [D2];lia,_,_,G,rfl,_,eD (by lia) (by lia),_,eD (by lia) (by lia),?_⟩
  walk_at "wp";refine ⟨fP (by have:=wl b1 (i:=(i:Int));unfold bd at this;lia),_,eD (by lia) (by lia),?_⟩
  walk_at "wp";refine ⟨jd (by have:=wl b3 (i:=(k:Int));unfold bd at this;lia),?_⟩
  have ek:D.tup [D.int (k:Int),D.int (i:Int),D.int (j:Int)]=k3D (k,i,j):=rfl;rw [ek,dM];have eg:∀ L:List Tm,((Qp (fun p:Tm=>D.int p.2) (L.find? fun p=>decide (p.1=((k:Int),(i:Int),(j:Int))))).getD (.int 0)) = .int (((L.find? fun p=>decide (p.1=((k:Int),(i:Int),(j:Int)))).map (·.2)).getD 0):=fun L=>by
   cases L.find? fun p=>decide (p.1=((k:Int),(i:Int),(j:Int))) <;> rfl
  rw [eg];walk_at "wp";refine ⟨by rw [D2];lia,fO G rfl (by rw [H8,D2];lia) ?_⟩
  rw [kT (cE _)];refine Y _ _ ⟨_,rfl,g1.upd,?_⟩;rw [aa,jg,show ∀ a b:Int,∀ zs,∀ z:Int×Int,bj i a j b (zs++[z])=bj i a j b zs++[((z.1,(i:Int),(j:Int)),a*b*z.2)] from fun a b zs z=>by simp [bj],<- Ho,cq]
 ·rintro ρ M1 ⟨B,rfl,g1,G⟩;dsimp only;walk_at "wp";exact q _ _ g1 G
theorem Dj {Φ:Phi} {L0 L1 L2:Nat} {p d:Addr} {x:Pr} {i:Nat} {B z:Option D} {pre:List Tm} {M:Mem} {E:aX} (h1:L1<=1000) (h2:L2<=1000) (hi:i < x.1.length) (O:x.2.1.length=L1) (L:x.2.2.length=L2) (b1:Big x.1) (b3:Big x.2.2) (hd:M d=some (.dct true ((tset pre).map kcD))) (hl:pre.length+L1*L2<=1000000)
 (q:∀ M' B z,Od d M M'->M' d=some (.dct true ((tset (pre++bo i (gi x.1 i) (idx x.2.1) (idx x.2.2))).map kcD))->E.nx [some (scD L0 L1 L2 p),some (.ref d),some (.tup (x.1.map .int)),some (.tup (x.2.1.map .int)),some (.tup (x.2.2.map .int)),some (.int i),B,z] M') :
 wSs Φ sbI E [some (scD L0 L1 L2 p),some (.ref d),some (.tup (x.1.map .int)),some (.tup (x.2.1.map .int)),some (.tup (x.2.2.map .int)),some (.int i),B,z] M:=by
 unfold sbI scD;walk_at "st";refine ⟨_,rfl,_,rfl,by lia,by lia,?_⟩
 rw [HF];rw [<- iy O] at q;refine aR (I:=fun l ρ M'=>∃ B z,ρ = [some (scD L0 L1 L2 p),some (.ref d),some (.tup (x.1.map .int)),some (.tup (x.2.1.map .int)),some (.tup (x.2.2.map .int)),some (.int i),B,z]/\Od d M M'/\M' d=some (.dct true ((tset (pre++bo i (gi x.1 i) (ixs x.2.1 l) (idx x.2.2))).map kcD))) bI ⟨_,_,rfl,Od.refl,by simpa [bo,ixs] using hd⟩ (fun _ _ _ _=>trivial) ?_ ?_
 ·rintro l j r ρ M1 e ⟨B,z,rfl,g1,J⟩;refine ⟨_,rfl,fun F U=>?_⟩;have G:=aq e;rw [Lh] at G;have Y:j < L1:=by have Z:j∈IV L1:=(by rw [e];simp);simpa using Z
  have hm:(l.length+1)*L2<=L1*L2:=JR _ G;rw [Jq] at hm;refine Di h2 hi (by lia) L b1 b3 J (by rw [H9,pU,lg,cr,L];lia) fun M2 z g2 e2=>U _ _ ⟨_,_,rfl,g1.trans g2,?_⟩
  rw [e2,jg,Ho,show ∀ (a:Int) (ys zs:List (Int×Int)) (y:Int×Int),bo i a (ys++[y]) zs=bo i a ys zs++bj i a y.1 y.2 zs from fun a ys zs y=>by simp [bo]]
 ·rintro ρ M1 ⟨B,z,rfl,g1,J⟩;dsimp only;walk_at "wp";exact q _ _ _ g1 J
theorem jh {f:Nat} {s:Stmt} (hf:T[f]? = some (lh s)) {n:Nat} (hn : 1<=n) {L0 L1 L2:Nat} (h0:L0<=1000) (h1:L1<=1000) (h2:L2<=1000) {p:Addr} {ps:List Pr} {M:Mem} {Q:QD} (hp:M p=some (.lst (ps.map prD))) (hl:ps.length*(L0*(L1*L2))<=1000000) (hF:∀ p∈ps,Big p.1/\Big p.2.2/\p.1.length=L0/\p.2.1.length=L1/\p.2.2.length=L2)
 (q:∀ (L:List Tm) d M',IsSum ps L->L.length<=ps.length*(L0*(L1*L2))->Ge M M'->M d=none->M' d=some (.dct true (L.map kcD))->Q (.ref d) M'):phi T n f [.tup [.int L0,.int L1,.int L2,.ref p]] M Q:=by
 refine aA (by lia) hf rfl (ρ:=[some (scD L0 L1 L2 p),none,none,none,none,none,none,none]) rfl ?_
 unfold lh;walk_at "st";intro d hd;have g0:=Ge.new (o:=.dct true []) hd;have d0:=aa (M:=M) (a:=d) (o:=.dct true []);generalize af M d (.dct true [])=M0 at g0 d0 ⊢;unfold scD;walk_at "st";refine ⟨_,rfl,_,ag (g0 _ _ hp),?_⟩;have F5:p≠d:=fun z=>by rw [z,hd] at hp;cases hp
 have cfR:∀ ps:List Pr,∀ k,cf (ps.flatMap fun x=>bb (idx x.1) (idx x.2.1) (idx x.2.2)) k=cf (kW ps) k:=fun ps k=>by
  obtain ⟨k,i,j⟩:=k;rw [iu,kX];unfold Tn;congr 1;exact IT fun x _=>by rw [kZ,df,df,df]
 refine aR (f:=prD) (ys:=ps) (I:=fun l ρ M'=>∃ o2 o3 o4 o5 O U,ρ = [some (scD L0 L1 L2 p),some (.ref d),o2,o3,o4,o5,O,U]/\Ge M M'/\M' d=some (.dct true ((tset (l.flatMap fun x=>bb (idx x.1) (idx x.2.1) (idx x.2.2))).map kcD))/\(l.flatMap fun x=>bb (idx x.1) (idx x.2.1) (idx x.2.2)).length=l.length*(L0*(L1*L2))) rfl ⟨_,_,_,_,_,_,rfl,g0,d0,by simp⟩ (fun l ρ M' ⟨_,_,_,_,_,_,_,g,_⟩=>ag (g _ _ hp)) ?_ ?_
 ·rintro l x r ρ M1 e ⟨o2,o3,o4,o5,O,U,rfl,g1,hM,hlen⟩;refine ⟨_,rfl,fun F EX=>?_⟩;obtain ⟨b1,b3,e0,e1,e2⟩:=hF x (by rw [e];simp)
  have ET:=aq e;have hm:(l.length+1)*(L0*(L1*L2))<=ps.length*(L0*(L1*L2)):=JR _ ET;rw [Jq] at hm;unfold scD;walk_at "st";refine ⟨_,rfl,_,rfl,by lia,by lia,?_⟩
  rw [HF];generalize Y:(l.flatMap fun x=>bb (idx x.1) (idx x.2.1) (idx x.2.2))=pre at hM hlen;have B:(pre++bb (idx x.1) (idx x.2.1) (idx x.2.2)).length=(l.length+1)*(L0*(L1*L2)):=by
   rw [H9,pV,cr,cr,cr,hlen,e0,e1,e2,Jq]
  refine aR (I:=fun l' ρ M'=>∃ o5 O U,ρ = [some (scD L0 L1 L2 p),some (.ref d),some (.tup (x.1.map .int)),some (.tup (x.2.1.map .int)),some (.tup (x.2.2.map .int)),o5,O,U]/\Od d M1 M'/\M' d=some (.dct true ((tset (pre++bb (ixs x.1 l') (idx x.2.1) (idx x.2.2))).map kcD))) bI ⟨_,_,_,rfl,Od.refl,by simpa [bb,ixs] using hM⟩ (fun _ _ _ _=>trivial) ?_ ?_
  ·rintro l' i r' ρ M2 e' ⟨o5,O,U,rfl,g2,G⟩;refine ⟨_,rfl,fun F2 EY=>?_⟩;have Z:=aq e';rw [Lh] at Z;have F6:i < L0:=by have h9:i∈IV L0:=(by rw [e'];simp);simpa using h9
   have EZ:(l'.length+1)*(L1*L2)<=L0*(L1*L2):=JR _ Z;rw [Jq] at EZ;refine Dj h1 h2 (by lia) e1 e2 b1 b3 G (by rw [H9,pV,lg,cr,cr,hlen,e1,e2];lia) fun M3 O U g3 e3=>EY _ _ ⟨_,_,_,rfl,g2.trans g3,?_⟩
   rw [e3,jg,Ho,show ∀ (xs ys zs:List (Int×Int)) (y:Int×Int),bb (xs++[y]) ys zs=bb xs ys zs++bo y.1 y.2 ys zs from fun xs ys zs y=>by simp [bb]]
  ·rintro ρ M2 ⟨o5,O,U,rfl,g2,G⟩;dsimp only;walk_at "wp";rw [iy e0] at G;refine EX _ _ ⟨_,_,_,_,_,_,rfl,fun a o ea=>?_,?_,?_⟩
   ·by_cases had:a=d
    ·subst had;rw [hd] at ea;cases ea
    ·rw [g2 a had];exact g1 _ _ ea
   ·rw [G,Lx,Y,Jk,Rz,IU]
   ·rw [Lx,Y,Jk,Rz,IU,B,H9,J7]
 ·rintro ρ M1 ⟨o2,o3,o4,o5,O,U,rfl,g1,hM,hlen⟩;dsimp only;walk_at "st";refine kR rfl hM ?_;generalize B:(ps.flatMap fun x=>bb (idx x.1) (idx x.2.1) (idx x.2.2))=raw at hM hlen ⊢;have fd:=aa (M:=M1) (a:=d) (o:=.fdc ((tset raw).map kcD));have g2:Ge M (af M1 d (.fdc ((tset raw).map kcD))):=g1.upd hd;have F1:=fR raw;have J:=cE raw;have EU:=r9 raw;generalize af M1 d (.fdc ((tset raw).map kcD))=M2 at fd g2 ⊢;generalize tset raw=L at fd F1 J EU;walk_at "wp";refine ⟨_,fd,?_⟩;refine aO (f:=fun t:Tm=>k3D t.1) (ys:=L) (I:=fun l ρ M' acc=>(∃ o0,ρ = [o0,some (.ref d)])/\M'=M2/\acc=(l.filter fun t=>!(t.2==0)).map fun t=>.tup [k3D t.1,.int t.2]) (by rw [Im];rfl) ⟨⟨_,rfl⟩,rfl,rfl⟩ (fun _ _ _ _ _=>trivial) ?_ ?_
  ·rintro l t r ρ M3 acc e ⟨⟨o0,rfl⟩,rfl,rfl⟩;refine ⟨_,rfl,fun N' EV=>?_⟩;have ET:=aq e;have ht:t∈L:=by rw [e];simp
   have F3:(l.filter fun t=>!(t.2==0)).length<=l.length:=HU _ _;walk_at "wp";refine km fd (iq _) (cN J ht) ?_;walk_at "wp"
   by_cases hz:t.2=0
   ·rw [if_neg (by simp [hz])]
    refine EV _ _ _ ⟨⟨_,rfl⟩,rfl,?_⟩;rw [IM,HA (by simp [hz])];simp
   ·rw [if_pos (by simp [hz])]
    refine km fd (iq _) (cN J ht) ?_;refine ⟨by rw [D2];lia,by rw [H8,D2];lia,EV _ _ _ ⟨⟨_,rfl⟩,rfl,?_⟩⟩
    rw [IM,HE (by simp [hz])];simp
  ·rintro ρ M3 acc ⟨⟨o0,rfl⟩,rfl,rfl⟩ p2 hp2;have F3:(L.filter fun t=>!(t.2==0)).length<=L.length:=HU _ _;have EW:((L.filter fun t=>!(t.2==0)).map (·.1)).Nodup:=J.sublist (MN _ KG);refine ⟨p2,(L.filter fun t=>!(t.2==0)).map kcD,rfl,by rw [aa,Im];rfl,fun kv F4=>?_,by rw [H8,D2];lia,fun pf ES=>?_⟩
   ·obtain ⟨t,_,rfl⟩:=Hk.mp F4;exact iq _
   ·rw [pQ EW];have g3:=g2.trans (Ge.new (o:=.lst ((L.filter fun t=>!(t.2==0)).map fun t=>D.tup [k3D t.1,.int t.2])) hp2);refine q (L.filter fun t=>!(t.2==0)) pf _ ⟨EW,fun t ht=>?_,fun k=>by rw [tq,EU,<- B,cfR]⟩ (by lia) (g3.trans (Ge.new ES)) ?_ aa
    ·have:=(Ic.mp ht).2;simpa using this
    ·cases hz:M pf with
     | none=>rfl
     | some o=>rw [g3 _ _ hz] at ES;cases ES
noncomputable def li (s:Stmt):FD:=⟨"_law_terms",s,["_law_sums_here"],1,
 (.cons (.ret (.comp [none,(some 0)] ["_law_place","_law_sums_here"] (.last (.seq (.blt .sortk (.cons (.var 0) .nil))) (.name 0) .nil (.bin .add (.var 0) (.tup (.cons (.ix (.var 1) (.var 0)) .nil))))))
 .nil)⟩
theorem pY {f:Nat} {s:Stmt} (hf:T[f]? = some (li s)) {n:Nat} (hn : 1<=n) {L:List Tm} {d:Addr} {M:Mem} {Q:QD} (z:(L.map (·.1)).Nodup) (hl:L.length<=1000000) (hd:M d=some (.dct true (L.map kcD)))
 (q:∀ (rs:List Tm) p M',rs.Perm L->(rs.Pairwise fun a b=>klt a.1 b.1)->Ge M M'->M p=none->M' p=some (.lst (rs.map tmD))->Q (.ref p) M'):phi T n f [.ref d] M Q:=by
 refine aA (by lia) hf rfl (ρ:=[some _]) rfl ?_
 unfold li;walk_at "st";refine ⟨d,true,_,.tup [.int,.int,.int],rfl,hd,rfl,fun kv G=>?_,fun ps ys J j B=>?_⟩
 ·obtain ⟨t,_,rfl⟩:=Hk.mp G;rfl
 obtain ⟨rs,O,rfl,U⟩:=iJ z j B;have F:=Ge.new (o:=.lst (rs.map fun t=>k3D t.1)) J;have d7:=F _ _ hd;have Y:=aa (M:=M) (a:=ps) (o:=.lst (rs.map fun t=>k3D t.1));generalize af M ps (.lst (rs.map fun t=>k3D t.1))=M7 at F d7 Y ⊢;have ES:rs.length<=1000000:=by rw [O.length_eq];lia
 refine ⟨_,ag Y,?_⟩;refine aO (f:=fun t:Tm=>k3D t.1) (ys:=rs) (I:=fun l ρ M' acc=>(∃ o0,ρ = [o0,some (.ref d)])/\M'=M7/\acc=l.map tmD) rfl ⟨⟨_,rfl⟩,rfl,rfl⟩ (fun _ _ _ _ h=>by rw [h.2.1];exact ag Y) ?_ ?_
 ·rintro l t r ρ M8 acc e ⟨⟨o0,rfl⟩,rfl,rfl⟩;refine ⟨_,rfl,fun N' Z=>?_⟩;have ET:=aq e;have ht:t∈L:=O.mem_iff.mp (by rw [e];simp)
  walk_at "wp";refine .inr (.inl ⟨true,_,_,d7,rfl,cN z ht,?_⟩);refine ⟨by rw [D2];lia,?_⟩
  unfold k3D;walk_at "wp";refine ⟨.inr trivial,by rw [D2];lia,by rw [H8,D2];lia,Z _ _ _ ⟨⟨_,rfl⟩,rfl,?_⟩⟩
  rw [J2];rfl
 ·rintro ρ M8 acc ⟨⟨o0,rfl⟩,rfl,rfl⟩ p2 hp2;refine q rs p2 _ O U (F.trans (Ge.new hp2)) ?_ aa
  cases hz:M p2 with
  | none=>rfl
  | some o=>rw [F _ _ hz] at hp2;cases hp2
theorem IsSum.task {ps:List Pr} {L rs:List Tm} (h:IsSum ps L) (j:rs.Perm L) (hs:rs.Pairwise fun a b=>klt a.1 b.1):IsTask L rs :=
 ⟨hs,fun r q=>h.nz r (j.mem_iff.mp q),fun k=>ik j,fun r q=>Hl (j.mem_iff.mp q),by rw [j.length_eq];exact Hg _⟩
end
section
variable {T:List FD}
noncomputable def no (s:Stmt):FD:=⟨"part_of_row",s,["part","row"],2,
 (.cons (.ret (.blt .sum (.cons (.comp [none,none] ["x","y"] (.last (.zip (.var 0) (.var 1)) (.tup (.cons (.name 0) (.cons (.name 1) .nil))) .nil (.bin .mul (.var 0) (.var 1)))) .nil)))
 .nil)⟩
theorem pZ {f:Nat} {s:Stmt} (hf:T[f]? = some (no s)) {n:Nat} (G : 1<=n) {x y:D} {a b:List Int} {M:Mem} {Q:QD} (hx:au M x=some (a.map .int)) (z:au M y=some (b.map .int)) (sa:cC a) (L:a.length<=1000)
 (q:∀ M',Ge M M'->Q (.int (dot a b)) M'):phi T n f [x,y] M Q:=by
 refine aA G hf rfl (ρ:=[some _,some _]) rfl ?_;unfold no;walk_at "st";refine ⟨_,hx,_,z,?_⟩;refine aO (I:=fun l ρ M' acc=>(∃ B F,ρ = [B,F])/\M'=M/\acc=(l.map fun xy=>xy.1*xy.2).map .int) (ys:=a.zip b) (f:=fun xy=>.tup [.int xy.1,.int xy.2]) (pM a b) ⟨⟨_,_,rfl⟩,rfl,rfl⟩ (fun _ _ _ _ h=>by rw [h.2.1];exact ⟨hx,z⟩) ?_ ?_
 ·rintro l xy r ρ M1 acc e ⟨⟨B,F,rfl⟩,rfl,rfl⟩;refine ⟨_,rfl,fun N J=>?_⟩;walk_at "wp";have j:=aq e;rw [RW] at j;have hm:xy.1∈a:=by
   have:xy∈a.zip b:=by rw [e];simp
   exact (LH this).1
  have hs:=sa _ hm;exact ⟨fP (by lia),by simp [D2];lia,J _ _ _ ⟨⟨_,_,rfl⟩,rfl,by simp⟩⟩
 ·rintro ρ M1 acc ⟨_,rfl,rfl⟩ p hp;refine Bb (ag aa) ?_;have:((a.zip b).map fun xy=>xy.1*xy.2).sum=dot a b:=by unfold dot;rw [iI]
  rw [this];exact q _ (Ge.new hp)
noncomputable def lj (one other:List Int) (p:Pr):Int:=dot p.1 one*dot p.2.1 other
noncomputable def cP (one other:List Int) (L:Nat) (ps:List Pr):List Int:=(IV L).map fun k=>(ps.map fun p=>p.2.2.getD k 0*lj one other p).sum
theorem yS {one other:List Int} {L:Nat}:cP one other L []=Ha L 0:=by
 unfold cP;apply MQ
 ·simp
 ·intro i h1 h2;simp
theorem wm {one other:List Int} {L:Nat} {ps:List Pr} {p:Pr} (h:p.2.2.length=L):cP one other L (ps++[p])=JN (fun x c=>x+c*lj one other p) (cP one other L ps) p.2.2:=by
 unfold cP;apply MQ
 ·simp [h]
 ·intro i h1 h2;have:i < L:=by simpa using h1
  simp [Hs,D0 (show i < p.2.2.length by lia)]
noncomputable def gI (s:Stmt) (fp:Nat):FD:=⟨"applied",s,["scheme","one","other","left","right","many","products","told","l","r","o","product"],3,
 (.cons (.asg (.tup (.cons (.name 3) (.cons (.name 4) (.cons (.name 5) (.cons (.name 6) .nil))))) (.var 0))
 (.cons (.asg (.name 7) (.bin .mul (.lst (.cons (.int 0) .nil)) (.var 5)))
 (.cons (.for (.tup (.cons (.name 8) (.cons (.name 9) (.cons (.name 10) .nil)))) (.seq (.var 6)) (.cons (.asg (.name 11) (.bin .mul (.call fp (.cons (.var 8) (.cons (.var 1) .nil))) (.call fp (.cons (.var 9) (.cons (.var 2) .nil)))))
 (.cons (.asg (.name 7) (.comp [none,none,(some 11)] ["x","c","product"] (.last (.zip (.var 7) (.var 10)) (.tup (.cons (.name 0) (.cons (.name 1) .nil))) .nil (.bin .add (.var 0) (.bin .mul (.var 1) (.var 2))))))
 .nil)))
 (.cons (.ret (.var 7))
 .nil))))⟩
theorem Bm {f fp:Nat} {s s2:Stmt} (hf:T[f]? = some (gI s fp)) (O:T[fp]? = some (no s2)) {n:Nat} (hn : 2<=n) {L0 L1 L2:Nat} (h0:L0<=1000) (h1:L1<=1000) (h2:L2<=1000) {pr:Addr} {ps:List Pr} {x y:D} {one other:List Int} {M:Mem} {Q:QD} (hp:∀ p∈ps,PrOk L0 L1 L2 p) (h:M pr=some (.lst (ps.map prD)))
 (hx:au M x=some (one.map .int)) (hy:au M y=some (other.map .int)) (Y:Big one) (ET:Big other)
 (q:∀ M' p,Ge M M'->M p=none->M' p=some (.lst ((cP one other L2 ps).map .int))->Q (.ref p) M'):phi T n f [.tup [.int L0,.int L1,.int L2,.ref pr],x,y] M Q:=by
 refine aA (by lia) hf rfl (ρ:=[some _,some _,some _,none,none,none,none,none,none,none,none,none]) rfl ?_
 unfold gI;walk_at "st";walk_at "st";refine ⟨by rw [D2];lia,fun p0 U=>?_⟩
 have Z:=Ge.new (o:=.lst [.int 0]) U;refine ⟨_,aa,by lia,by lia,by rw [D2];simp;lia,fun L z=>?_⟩
 have g1:=Z.trans (Ge.new (o:=.lst (Ha (L2:Int).toNat [D.int 0]).flatten) z);have e1:af (af M p0 (.lst [.int 0])) L (.lst (Ha (L2:Int).toNat [D.int 0]).flatten) L=some (.lst ((cP one other L2 []).map .int)):=by
  rw [aa,fQ,yS,HF]
 have n1:M L=none:=by
  cases e:M L with
  | none=>rfl
  | some o=>rw [Z _ _ e] at z;cases z
 generalize af (af M p0 (.lst [.int 0])) L (.lst (Ha (L2:Int).toNat [D.int 0]).flatten)=M1 at g1 e1;clear Z z U;walk_at "st";refine ⟨_,ag (g1 _ _ h),?_⟩;refine aR (I:=fun l ρ M'=>∃ pt o8 o9 B G,ρ = [some (.tup [.int L0,.int L1,.int L2,.ref pr]),some x,some y,some (.int L0),some (.int L1),some (.int L2),some (.ref pr),some (.ref pt),o8,o9,B,G]/\Ge M M'/\M pt=none/\M' pt=some (.lst ((cP one other L2 l).map .int)))
  rfl ⟨L,none,none,none,none,rfl,g1,n1,e1⟩ (fun _ _ _ ⟨_,_,_,_,_,_,g,_⟩=>ag (g _ _ h)) ?_ ?_
 ·rintro l p r ρ M2 e ⟨pt,o8,o9,B,G,rfl,g2,n2,e2⟩;have j:=hp p (by rw [e];simp)
  refine ⟨_,rfl,fun F hF=>?_⟩;walk_at "st";refine pZ O (by lia) kl (dL hx g2) j.s0 (by rw [j.l0];exact h0) fun M3 g3=>?_
  refine pZ O (by lia) kl (dL hy (g2.trans g3)) j.s1 (by rw [j.l1];exact h1) fun M4 g4=>?_
  walk_at "wp";have db:=w4 j.s0 Y (by rw [j.l0];exact h0)
  refine ⟨fP db,?_⟩;have e4:=g4 _ _ (g3 _ _ e2);have gg:=(g2.trans g3).trans g4;walk_at "st";refine ⟨_,ag e4,?_⟩;refine aO (I:=fun l' ρ M' acc=>(∃ o1 o2,ρ = [o1,o2,some (.int (lj one other p))])/\M'=M4/\acc=(l'.map fun xy=>xy.1+xy.2*lj one other p).map .int) (ys:=(cP one other L2 l).zip p.2.2) (f:=fun xy=>.tup [.int xy.1,.int xy.2]) (pM _ _) ⟨⟨_,_,rfl⟩,rfl,rfl⟩ (fun _ _ _ _ h=>by rw [h.2.1];exact ag e4) ?_ ?_
  ·rintro l' xy r' ρ M5 acc e' ⟨⟨o1,o2,rfl⟩,rfl,rfl⟩;refine ⟨_,rfl,fun N hN=>?_⟩;walk_at "wp";have ES:=aq e';rw [RW] at ES;have EU:=j.l2;have hm:xy.2∈p.2.2:=by
    have:xy∈(cP one other L2 l).zip p.2.2:=by rw [e'];simp
    exact (LH this).2
   have hs:=j.s2 _ hm;exact ⟨fP (by lia),by simp [D2];lia,hN _ _ _ ⟨⟨_,_,rfl⟩,rfl,by simp⟩⟩
  ·rintro ρ M5 acc ⟨_,rfl,rfl⟩ p2 J;refine hF _ _ ⟨p2,_,_,_,_,rfl,gg.trans (Ge.new J),?_,?_⟩
   ·cases e0:M p2 with
    | none=>rfl
    | some o=>rw [gg _ _ e0] at J;cases J
   ·rw [aa,wm j.l2,iI]
 ·rintro ρ M2 ⟨pt,o8,o9,B,G,rfl,g2,n2,e2⟩;walk_at "st";exact q M2 pt g2 n2 e2
end
section
open PySem PySem.Spec PyProof.Rows L2.Srt
noncomputable def dz (zs:List (Int×Int)) (a:List Int):Int:=(zs.map fun z=>z.2*gi a z.1).sum
theorem iz {z:Int×Int} {zs:List (Int×Int)} {a:List Int}:dz (z::zs) a=z.2*gi a z.1+dz zs a:=by simp [dz]
theorem mH {a b:List Int} {k i x j y:Int}:∀ {zs:List (Int×Int)},bx (fkk a b k) (bj i x j y zs)=(x*gi a i)*(y*gi b j)*S1 zs k
 | []=>by simp [bj,fS,S1]
 | z::zs=>by
   rw [show bj i x j y (z::zs)=((z.1,i,j),x*y*z.2)::bj i x j y zs from rfl,bT,mH,bN];unfold fkk;dsimp only
   by_cases h:z.1=k
   ·rw [if_pos h,if_pos h,N8];congr 1;simp only [Qf,R3,Int.mul_left_comm]
   ·rw [if_neg h,if_neg h];simp
theorem mJ {a b:List Int} {k i x:Int} {zs:List (Int×Int)}:∀ {ys:List (Int×Int)},bx (fkk a b k) (bo i x ys zs)=(x*gi a i)*dz ys b*S1 zs k
 | []=>by simp [bo,fS,dz]
 | y::ys=>by
   rw [show bo i x (y::ys) zs=bj i x y.1 y.2 zs++bo i x ys zs from by simp [bo],cU,mJ,mH,iz,N8,Kt]
theorem mK {a b:List Int} {k:Int} {ys zs:List (Int×Int)}:∀ {xs:List (Int×Int)},bx (fkk a b k) (bb xs ys zs)=dz xs a*dz ys b*S1 zs k
 | []=>by simp [bb,fS,dz]
 | x::xs=>by
   rw [show bb (x::xs) ys zs=bo x.1 x.2 ys zs++bb xs ys zs from by simp [bb],cU,mK,mJ,iz,Kt,Kt]
theorem tE {a:List Int}:∀ zs:List (Int×Int),dz (zs.filter fun q=>!(q.2==0)) a=dz zs a
 | []=>rfl
 | z::zs=>by
   rw [iz]
   by_cases h:z.2=0
   ·rw [HA (by simp [h]),tE zs,h];simp
   ·rw [HE (by simp [h]),iz,tE zs]
theorem wn {l a:List Int} {N:Nat} (j:l.length=N) (q:a.length=N):dz (nz l) a=dot l a:=by
 unfold nz;rw [tE,<- iy j,<- w5 j q];unfold dz ixs;rw [Im];congr 1
theorem Bn {l:List Int} {k:Nat}:gz l (k:Int)=l.getD k 0:=by
 unfold gz;rw [if_neg (by lia),HF]
theorem yT {L0 L1 L2:Nat} {ps:List Pr} {rs:List Tm} {one other:List Int} (h:∀ k,cf rs k=cf (kW ps) k) (z:∀ p∈ps,p.1.length=L0/\p.2.1.length=L1) (h1:one.length=L0) (h2:other.length=L1):val rs one other L2=cP one other L2 ps:=by
 unfold val cP;refine IT fun k _=>?_;rw [Ed h,dN];unfold kW;have:∀ qs:List Pr,(∀ p∈qs,p.1.length=L0/\p.2.1.length=L1)->bx (fkk one other (k:Nat)) (qs.flatMap pS)=(qs.map fun p=>p.2.2.getD k 0*lj one other p).sum:=by
  intro qs
  induction qs with
  | nil=>intro _;rfl
  | cons p qs ih =>
    intro j;obtain ⟨B,F⟩:=j p (by simp)
    rw [Jk,cU,ih fun q hm=>j q (by simp [hm]),Hj,Qg]
    unfold pS;rw [mK,wn B h1,wn F h2];unfold nz;rw [fT,df,Bn];unfold lj;rw [R3]
 exact this ps z
theorem dg {l:List Int} (h:cC l):Big l:=fun x hx=>by have:=h x hx;lia
theorem PrOk.pf {L0 L1 L2:Nat} {p:Pr} (h:PrOk L0 L1 L2 p):Big p.1/\Big p.2.2/\p.1.length=L0/\p.2.1.length=L1/\p.2.2.length=L2:=⟨dg h.s0,dg h.s2,h.l0,h.l1,h.l2⟩
theorem ji {l:List Int} (h:cC l) {i:Int}:(gz l i).natAbs<=1000:=by
 unfold gz
 split
 ·decide
 ·rw [Hs]
  cases e:l[i.toNat]? with
  | none=>decide
  | some x=>have:=h x (HH e);simp only [Option.getD_some];lia
theorem jj {L0 L1 L2:Nat} {k i j:Int}:∀ {ps:List Pr},(∀ p∈ps,PrOk L0 L1 L2 p)->(Tn ps k i j).natAbs<=ps.length*1000000000
 | [],_=>by simp [Tn]
 | p::ps,h=>by
   have ih:=jj (k:=k) (i:=i) (j:=j) (ps:=ps) fun q z=>h q (by simp [z])
   have ho:=h p (by simp)
   rw [rn,Io,Jq];have h1:(gz p.1 i*gz p.2.1 j*gz p.2.2 k).natAbs<=1000*1000*1000:=by
    rw [PM,PM];exact J1 (J1 (ji ho.s0) (ji ho.s1)) (ji ho.s2)
   lia
theorem IsSum.inB {L0 L1 L2:Nat} {ps:List Pr} {L rs:List Tm} (h:IsSum ps L) (F:rs.Perm L) (q:∀ p∈ps,PrOk L0 L1 L2 p) (G:ps.length<=1000):InB rs L0 L1 L2:=by
 have g:∀ r∈rs,((0<=r.1.1/\r.1.1 < L2)/\(0<=r.1.2.1/\r.1.2.1 < L0)/\(0<=r.1.2.2/\r.1.2.2 < L1))/\r.2.natAbs<=ps.length*1000000000:=fun r j=>by
  have j:=F.mem_iff.mp j;have e:=h.val j;have z:=h.nz r j;rw [<- e] at z ⊢;exact ⟨pW (fun u B=>⟨(q u B).l0,(q u B).l1,(q u B).l2⟩) z,jj q⟩
 exact ⟨fun r j=>(g r j).1.1,fun r j=>(g r j).1.2.1,fun r j=>(g r j).1.2.2,fun r j=>by have:=(g r j).2;lia⟩
end
section
open PySem PySem.Spec PyProof.Rows L2.Srt
variable {T:List FD}
noncomputable def tri (t:Tm):List Int:=[t.1.1,t.1.2.1,t.1.2.2]
theorem Bo {t u:Tm} (h:tri t=tri u):t.1=u.1:=by
 unfold tri at h;simp only [L5,and_true] at h;exact LB h.1 (LB h.2.1 h.2.2)
theorem nzd {Φ:Phi} {i:Nat} {x y:Str} {ρ:al} {d:Addr} {L:List Tm} {M:Mem} {Q:QD} (hi : ρ[i]? = some (some (.ref d))) (fd:M d=some (.fdc (L.map kcD))) (j:(L.map (·.1)).Nodup) (Y:L.length<=1000000)
 (q:∀ (L':List Tm) p M',(L'.map (·.1)).Nodup->(∀ t∈L',t∈L/\t.2≠0)->(∀ k,cf L' k=cf L k)->Ge M M'->M p=none->M' p=some (.dct true (L'.map kcD))->Q (.ref p) M') :
 wE Φ (.blt .dict (.cons (.comp [none,(some i)] [x,y] (.last (.keys (.var i)) (.name 0) (.cons (.cmp .ne (.ix (.var 1) (.var 0)) (.int 0)) .nil) (.tup (.cons (.var 0) (.cons (.ix (.var 1) (.var 0)) .nil))))) .nil)) ρ M Q:=by
 walk_at "wp";rw [hi];refine ⟨_,rfl,d,rfl,_,fd,?_⟩;refine aO (f:=fun t:Tm=>k3D t.1) (ys:=L) (I:=fun l ρ M' acc=>(∃ o0,ρ = [o0,some (.ref d)])/\M'=M/\acc=(l.filter fun t=>!(t.2==0)).map fun t=>.tup [k3D t.1,.int t.2]) (by rw [Im];rfl) ⟨⟨_,rfl⟩,rfl,rfl⟩ (fun _ _ _ _ _=>trivial) ?_ ?_
 ·rintro l t r ρ M3 acc e ⟨⟨o0,rfl⟩,rfl,rfl⟩;refine ⟨_,rfl,fun N' B=>?_⟩;have U:=aq e;have G:t∈L:=by rw [e];simp
  have J:(l.filter fun t=>!(t.2==0)).length<=l.length:=HU _ _;refine ⟨_,rfl,_,rfl,km fd (iq _) (cN j G) ?_⟩;walk_at "wp"
  by_cases hz:t.2=0
  ·rw [if_neg (by simp [hz])]
   refine B _ _ _ ⟨⟨_,rfl⟩,rfl,?_⟩;rw [IM,HA (by simp [hz])];simp
  ·rw [if_pos (by simp [hz])]
   refine km fd (iq _) (cN j G) ?_;refine ⟨by rw [D2];lia,by rw [H8,D2];lia,B _ _ _ ⟨⟨_,rfl⟩,rfl,?_⟩⟩
   rw [IM,HE (by simp [hz])];simp
 ·rintro ρ M3 acc ⟨⟨o0,rfl⟩,rfl,rfl⟩ p2 hp2;have J:(L.filter fun t=>!(t.2==0)).length<=L.length:=HU _ _;have F:((L.filter fun t=>!(t.2==0)).map (·.1)).Nodup:=j.sublist (MN _ KG);refine ⟨p2,(L.filter fun t=>!(t.2==0)).map kcD,rfl,by rw [aa,Im];rfl,fun kv O=>?_,by rw [H8,D2];lia,fun pf z=>?_⟩
  ·obtain ⟨t,_,rfl⟩:=Hk.mp O;exact iq _
  ·rw [pQ F];have g3:=Ge.new (o:=.lst ((L.filter fun t=>!(t.2==0)).map fun t=>D.tup [k3D t.1,.int t.2])) hp2;refine q (L.filter fun t=>!(t.2==0)) pf _ F (fun t G=>?_) (fun k=>tq) (g3.trans (Ge.new z)) ?_ aa
   ·obtain ⟨h1,h2⟩:=Ic.mp G;exact ⟨h1,by simpa using h2⟩
   ·cases hz:M3 pf with
    | none=>rfl
    | some o=>rw [g3 _ _ hz] at z;cases z
theorem jk {α:Type} [DecidableEq α]:∀ {a b:List α},a.Nodup->(∀ x∈a,x∈b)->b.length<=a.length->a.Perm b
 | [],b,_,_,h=>by
  have:b=[]:=Ia.mp (by simpa using h)
  rw [this]
 | x::a,b,j,hs,h=>by
   rw [Ip] at j;have hx:=hs x (by simp)
   have h1:=List.length_erase_of_mem hx;have ih:=jk (b:=b.erase x) j.2 (fun y q=>(List.mem_erase_of_ne (fun z:y=x=>j.1 (by rw [<- z];exact q))).mpr (hs y (by simp [q]))) (by rw [Io] at h;lia)
   exact (ih.cons x).trans (List.perm_cons_erase hx).symm
theorem Dl {a b:List Tm} (j:(a.map (·.1)).Nodup) (q:(b.map (·.1)).Nodup) (za:∀ t∈a,t.2≠0) (zb:∀ t∈b,t.2≠0):eqD (a.map kcD) (b.map kcD)=true ↔ ∀ k,cf a k=cf b k:=by
 constructor
 ·intro h k;unfold eqD at h;rw [z4] at h;obtain ⟨h1,h2⟩:=h;rw [KN] at h2;have sub:∀ t∈a,t∈b:=fun t B=>by
   have:=of_decide_eq_true (h2 (kcD t) (Hl B));rw [show (kcD t).1=k3D t.1 from rfl,dM] at this;obtain ⟨u,z,e⟩:=Mh.mp this;have F:=Nj z;have G:=JF z;have J:u.1=t.1:=of_decide_eq_true F;have L:u.2=t.2:=D.int.inj e;rw [show t=u from LB J.symm L.symm];exact G
  have pm:a.Perm b:=jk (nj j) sub (by
   have:a.length=b.length:=by simpa using h1
   lia)
  exact ik pm
 ·intro h;exact yQ q (Bi j q za zb h)
end
section
namespace K11
noncomputable def aj (i:Nat):Stmt:=PySem.Challenge.pw_fewtimes_k11_schemes_that_do_and_that_fa.main.body.getD i (.Pass ⟨0,0,0,0⟩)
noncomputable def d0:FD:=gF (aj 1)
noncomputable def d1:FD:=kU (aj 2)
noncomputable def d2:FD:=no (aj 4)
noncomputable def d3:FD:=gI (aj 5) 2
noncomputable def d4:FD:=cO (aj 6)
noncomputable def d5:FD:=gH (aj 7) 4
noncomputable def d6:FD:=fU (aj 8) 0 4 5
noncomputable def b7:MSs :=
 (.cons (.ret (.cmp .eq (.call 6 (.cons (.var 0) .nil)) (.var 1)))
 .nil)
noncomputable def d7:FD:=⟨"does",aj 9,["scheme","task"],2,b7⟩
noncomputable def b8:MSs :=
 (.cons (.asg (.name 2) (.bin .mul (.lst (.cons (.int 0) .nil)) (.var 0)))
 (.cons (.put (.var 2) (.var 1) (.int 1))
 (.cons (.ret (.var 2))
 .nil)))
noncomputable def d8:FD:=⟨"single_one",aj 10,["length","at","row"],2,b8⟩
noncomputable def b9:MSs :=
 (.cons (.asg (.tup (.cons (.name 2) (.cons (.name 3) (.cons (.name 4) (.cons (.name 5) .nil))))) (.var 1))
 (.cons (.asg (.name 6) (.ix (.call 0 (.cons (.var 2) (.cons (.var 3) (.cons (.var 4) (.cons (.bin .add (.ix (.call 6 (.cons (.var 0) .nil)) (.int 3)) (.comp [none,none,none,none] ["k","i","j","c"] (.last (.seq (.var 5)) (.tup (.cons (.name 0) (.cons (.name 1) (.cons (.name 2) (.cons (.name 3) .nil))))) .nil (.tup (.cons (.var 0) (.cons (.var 1) (.cons (.var 2) (.cons (.neg (.var 3)) .nil)))))))) .nil))))) (.int 3)))
 (.cons (.ite (.not (.tru (.var 6))) (.cons (.ret .non)
 .nil) .nil)
 (.cons (.asg (.tup (.cons (.name 7) (.cons (.name 8) .nil))) (.blt .minP (.cons (.comp [none] ["term"] (.last (.seq (.var 6)) (.name 0) .nil (.sl (.var 0) (.some (.int 1)) (.some (.int 3))))) .nil)))
 (.cons (.ret (.tup (.cons (.call 8 (.cons (.var 2) (.cons (.var 7) .nil))) (.cons (.call 8 (.cons (.var 3) (.cons (.var 8) .nil))) .nil))))
 .nil)))))
noncomputable def d9:FD:=⟨"fails_at",aj 11,["scheme","task","left","right","many","terms","wrong","i","j"],2,b9⟩
noncomputable def d10:FD:=ko (aj 13)
noncomputable def d11:FD:=kS (aj 14)
noncomputable def d12:FD:=tj (aj 15) 10 11
noncomputable def d13:FD:=pI (aj 16) 11
noncomputable def d14:FD:=je (aj 17) 13
noncomputable def d15:FD:=pL (aj 18) 14
noncomputable def d16:FD:=jf (aj 19) 13 15
noncomputable def d17:FD:=lh (aj 20)
noncomputable def d18:FD:=li (aj 21)
noncomputable def b19:MSs :=
 (.cons (.asg (.name 3) (.blt .dcp (.cons (.var 1) .nil)))
 (.cons (.asg (.name 4) (.blt .sortk (.cons (.var 3) .nil)))
 (.cons (.asg (.name 5) (.call 13 (.cons (.var 0) (.cons (.int 4) .nil))))
 (.cons (.asg (.name 6) (.tup (.cons (.call 13 (.cons (.var 0) (.cons (.ix (.var 2) (.int 2)) .nil))) (.cons (.call 13 (.cons (.var 0) (.cons (.ix (.var 2) (.int 0)) .nil))) (.cons (.call 13 (.cons (.var 0) (.cons (.ix (.var 2) (.int 1)) .nil))) .nil)))))
 (.cons (.ite (.and (.cons (.cmp .ne (.var 4) (.lst .nil)) (.cons (.cmp .lt (.var 5) (.int 2)) .nil))) (.cons (.asg (.name 6) (.ix (.var 4) (.call 13 (.cons (.var 0) (.cons (.blt .len (.cons (.var 4) .nil)) .nil)))))
 .nil) .nil)
 (.cons (.ite (.cmp .eq (.var 5) (.int 1)) (.cons (.drop (.dpop (.var 3) (.var 6) .non))
 .nil) (.cons (.put (.var 3) (.var 6) (.bin .add (.dget (.var 3) (.var 6) (.int 0)) (.ix (.lst (.cons (.int 1) (.cons (.neg (.int 1)) (.cons (.int 7) .nil)))) (.call 13 (.cons (.var 0) (.cons (.int 3) .nil))))))
 .nil))
 (.cons (.frz 3 (.ret (.blt .dict (.cons (.comp [none,(some 3)] ["_law_one","_law_made"] (.last (.keys (.var 3)) (.name 0) (.cons (.cmp .ne (.ix (.var 1) (.var 0)) (.int 0)) .nil) (.tup (.cons (.var 0) (.cons (.ix (.var 1) (.var 0)) .nil))))) .nil))))
 .nil)))))))
noncomputable def d19:FD:=⟨"_law_otherwise",aj 22,["_law_box_here","_law_sums_here","_law_lengths","_law_made","_law_places","_law_way","_law_place"],3,b19⟩
noncomputable def b20:MSs :=
 (.cons (.asg (.name 3) (.comp [none,(some 0),(some 1)] ["_law_place","_law_one","_law_other"] (.last (.seq (.bin .add (.blt .listD (.cons (.var 0) .nil)) (.blt .listD (.cons (.var 1) .nil)))) (.name 0) (.cons (.cmp .ne (.dget (.var 1) (.var 0) (.int 0)) (.dget (.var 2) (.var 0) (.int 0))) .nil) (.sl (.var 0) (.some (.int 1)) .none))))
 (.cons (.ite (.cmp .eq (.var 3) (.lst .nil)) (.cons (.ret .non)
 .nil) .nil)
 (.cons (.asg (.tup (.cons (.name 4) (.cons (.name 5) .nil))) (.blt .minP (.cons (.var 3) .nil)))
 (.cons (.par 6 7 (.bin .mul (.lst (.cons (.int 0) .nil)) (.ix (.var 2) (.int 0))) (.bin .mul (.lst (.cons (.int 0) .nil)) (.ix (.var 2) (.int 1))))
 (.cons (.put2 (.var 6) (.var 4) (.var 7) (.var 5) (.tup (.cons (.int 1) (.cons (.int 1) .nil))))
 (.cons (.ret (.tup (.cons (.var 6) (.cons (.var 7) .nil))))
 .nil))))))
noncomputable def d20:FD:=⟨"_law_least",aj 23,["_law_one","_law_other","_law_lengths","_law_some","_law_i","_law_j","_law_left","_law_right_here"],3,b20⟩
noncomputable def b21:MSs :=
 (.cons (.asg (.name 4) (.call 17 (.cons (.var 1) .nil)))
 (.cons (.asg (.name 5) (.bin .add (.blt .tuple (.cons (.var 3) .nil)) (.tup (.cons (.call 18 (.cons (.var 2) .nil)) .nil))))
 (.cons (.asg (.name 6) (.call 9 (.cons (.var 1) (.cons (.var 5) .nil))))
 (.cons (.ite (.or (.cons (.cmp .ne (.var 6) (.call 20 (.cons (.var 4) (.cons (.var 2) (.cons (.var 3) .nil))))) (.cons (.and (.cons (.cmp .isn (.call 7 (.cons (.var 1) (.cons (.var 5) .nil))) (.bl true)) (.cons (.cmp .eqD (.var 4) (.var 2)) .nil))) .nil))) (.cons (.ret (.bl false))
 .nil) .nil)
 (.cons (.ite (.cmp .eqD (.var 4) (.var 2)) (.cons (.ret (.cmp .is (.var 6) .non))
 .nil) .nil)
 (.cons (.ite (.or (.cons (.cmp .isn (.call 7 (.cons (.var 1) (.cons (.var 5) .nil))) (.bl false)) (.cons (.not (.tru (.isin (.var 6) "tuple"))) .nil))) (.cons (.ret (.bl false))
 .nil) .nil)
 (.cons (.ret (.cmp .ne (.call 3 (.cons (.var 1) (.cons (.ix (.var 6) (.int 0)) (.cons (.ix (.var 6) (.int 1)) .nil)))) (.call 1 (.cons (.var 5) (.cons (.ix (.var 6) (.int 0)) (.cons (.ix (.var 6) (.int 1)) .nil))))))
 .nil)))))))
noncomputable def d21:FD:=⟨"_law_right",aj 24,["_law_box_here","_law_scheme_here","_law_sums_here","_law_lengths","_law_own","_law_task","_law_found"],4,b21⟩
noncomputable def b22:MSs :=
 (.cons (.for (.name 1) (.rng1 (.bin .add (.int 1) (.blt .min2 (.cons (.int 4) (.cons (.blt .len (.cons (.var 0) .nil)) .nil))))) (.cons (.asg (.name 2) (.call 12 (.cons (.var 0) (.cons (.var 1) .nil))))
 (.cons (.asg (.name 3) (.ix (.lst (.cons (.int 5) (.cons (.int 7) .nil))) (.blt .int (.cons (.cmp .eq (.call 13 (.cons (.var 2) (.cons (.int 8) .nil))) (.int 0)) .nil))))
 (.cons (.asg (.name 4) (.comp [none,(some 2),(some 3)] ["_law_side","_law_box_here","_law_most"] (.last (.rng1 (.int 3)) (.name 0) .nil (.bin .add (.int 1) (.call 13 (.cons (.var 1) (.cons (.var 2) .nil)))))))
 (.cons (.asg (.name 5) (.call 16 (.cons (.var 2) (.cons (.var 4) (.cons (.call 13 (.cons (.var 2) (.cons (.int 7) .nil))) .nil)))))
 (.cons (.asg (.name 6) (.call 17 (.cons (.var 5) .nil)))
 (.cons (.for (.name 7) (.rng1 (.int 3)) (.cons (.ite (.not (.tru (.call 21 (.cons (.var 2) (.cons (.var 5) (.cons (.var 6) (.cons (.var 4) .nil))))))) (.cons (.ret (.bl false))
 .nil) .nil)
 (.cons (.asg (.name 6) (.call 19 (.cons (.var 2) (.cons (.var 6) (.cons (.var 4) .nil)))))
 .nil)))
 (.cons (.asg (.name 8) (.bin .add (.blt .tuple (.cons (.var 4) .nil)) (.tup (.cons (.call 18 (.cons (.call 17 (.cons (.var 5) .nil)) .nil)) .nil))))
 (.cons (.for (.name 9) (.rng1 (.int 3)) (.cons (.asg (.name 10) (.comp [none,none,(some 9)] ["_law_place","_law_length","_law_side"] (.last (.enum (.var 4)) (.tup (.cons (.name 0) (.cons (.name 1) .nil))) .nil (.bin .add (.var 1) (.blt .int (.cons (.cmp .eq (.var 0) (.var 2)) .nil))))))
 (.cons (.ite (.or (.cons (.cmp .isn (.call 7 (.cons (.var 5) (.cons (.bin .add (.blt .tuple (.cons (.var 10) .nil)) (.tup (.cons (.ix (.var 8) (.int 3)) .nil))) .nil))) (.bl false)) (.cons (.cmp .isn (.call 7 (.cons (.var 5) (.cons (.var 8) .nil))) (.bl true)) .nil))) (.cons (.ret (.bl false))
 .nil) .nil)
 .nil)))
 .nil)))))))))
 (.cons (.ret (.bl true))
 .nil))
noncomputable def d22:FD:=⟨"law",aj 25,["_law_script","_law_k","_law_box_here","_law_most","_law_lengths","_law_scheme_here","_law_sums_here","_law_turn","_law_task","_law_side","_law_longer"],1,b22⟩
noncomputable def tab:List FD:=[d0,d1,d2,d3,d4,d5,d6,d7,d8,d9,d10,d11,d12,d13,d14,d15,d16,d17,d18,d19,d20,d21,d22]
noncomputable def q8:List (Str×D):=[]
end K11
end
section
namespace K11
theorem Dm:∀ d∈tab,t9 (tab.map (·.name)) q8 d=true:=by decide +kernel
noncomputable abbrev PA (K:Frag) (x:Str) (f:Addr):Prop:=Mk K J3 x=some (some (.ref f))
noncomputable abbrev PL (K:Frag) (f:Addr) (x:Str) (s:Stmt) (oc:hH) (od:Option Addr) (kV dc pm:hH) (an:Option Addr) (cd ct:hH) (sl:Array (Option hH)):Prop:=K.lookup f=some ⟨oc,od,.func (KS x x (dC s) (bU s) (aw s) .none kV dc pm an cd ct),sl⟩
noncomputable abbrev PC (K:Frag) (c:hH) (x:Str):Prop:=NH K c x=true
noncomputable abbrev PK (K:Frag) (f:Addr):Prop:=Lj K (.ref f)=true
theorem all_mk {l:OY} {w:HX} {K:Frag} {h:Heap} {mg:Str->Option hH} {fa:Addr} (X:K.In h) (G:h.Ns J3 mg) (hfa:mg "law" = some (.ref fa)) (z:∀ x∈bltNames,Mk K J3 x=some none)
 (a0:PA K "task_of" f0) (l0:PL K f0 "task_of" (aj 1) oc0 od0 kV0 dc0 pm0 an0 cd0 ct0 sl0) (c0:PC K cd0 "task_of") (k0:PK K f0)
 (a1:PA K "value_of" f1) (l1:PL K f1 "value_of" (aj 2) oc1 od1 kV1 dc1 pm1 an1 cd1 ct1 sl1) (c1:PC K cd1 "value_of") (k1:PK K f1)
 (a2:PA K "part_of_row" f2) (l2:PL K f2 "part_of_row" (aj 4) oc2 od2 kV2 dc2 pm2 an2 cd2 ct2 sl2) (c2:PC K cd2 "part_of_row") (k2:PK K f2)
 (a3:PA K "applied" f3) (l3:PL K f3 "applied" (aj 5) oc3 od3 kV3 dc3 pm3 an3 cd3 ct3 sl3) (c3:PC K cd3 "applied") (k3:PK K f3)
 (a4:PA K "filled" f4) (l4:PL K f4 "filled" (aj 6) oc4 od4 kV4 dc4 pm4 an4 cd4 ct4 sl4) (c4:PC K cd4 "filled") (k4:PK K f4)
 (a5:PA K "rows_by_pairs" f5) (l5:PL K f5 "rows_by_pairs" (aj 7) oc5 od5 kV5 dc5 pm5 an5 cd5 ct5 sl5) (c5:PC K cd5 "rows_by_pairs") (k5:PK K f5)
 (a6:PA K "task_by" f6) (l6:PL K f6 "task_by" (aj 8) oc6 od6 kV6 dc6 pm6 an6 cd6 ct6 sl6) (c6:PC K cd6 "task_by") (k6:PK K f6)
 (a7:PA K "does" f7) (l7:PL K f7 "does" (aj 9) oc7 od7 kV7 dc7 pm7 an7 cd7 ct7 sl7) (c7:PC K cd7 "does") (k7:PK K f7)
 (a8:PA K "single_one" f8) (l8:PL K f8 "single_one" (aj 10) oc8 od8 kV8 dc8 pm8 an8 cd8 ct8 sl8) (c8:PC K cd8 "single_one") (k8:PK K f8)
 (a9:PA K "fails_at" f9) (l9:PL K f9 "fails_at" (aj 11) oc9 od9 kV9 dc9 pm9 an9 cd9 ct9 sl9) (c9:PC K cd9 "fails_at") (k9:PK K f9)
 (a10:PA K "_law_cell_at" f10) (l10:PL K f10 "_law_cell_at" (aj 13) oc10 od10 kV10 dc10 pm10 an10 cd10 ct10 sl10) (c10:PC K cd10 "_law_cell_at") (k10:PK K f10)
 (a11:PA K "_law_mixed" f11) (l11:PL K f11 "_law_mixed" (aj 14) oc11 od11 kV11 dc11 pm11 an11 cd11 ct11 sl11) (c11:PC K cd11 "_law_mixed") (k11:PK K f11)
 (a12:PA K "_law_box" f12) (l12:PL K f12 "_law_box" (aj 15) oc12 od12 kV12 dc12 pm12 an12 cd12 ct12 sl12) (c12:PC K cd12 "_law_box") (k12:PK K f12)
 (a13:PA K "_law_take" f13) (l13:PL K f13 "_law_take" (aj 16) oc13 od13 kV13 dc13 pm13 an13 cd13 ct13 sl13) (c13:PC K cd13 "_law_take") (k13:PK K f13)
 (a14:PA K "_law_number" f14) (l14:PL K f14 "_law_number" (aj 17) oc14 od14 kV14 dc14 pm14 an14 cd14 ct14 sl14) (c14:PC K cd14 "_law_number") (k14:PK K f14)
 (a15:PA K "_law_part" f15) (l15:PL K f15 "_law_part" (aj 18) oc15 od15 kV15 dc15 pm15 an15 cd15 ct15 sl15) (c15:PC K cd15 "_law_part") (k15:PK K f15)
 (a16:PA K "_law_scheme" f16) (l16:PL K f16 "_law_scheme" (aj 19) oc16 od16 kV16 dc16 pm16 an16 cd16 ct16 sl16) (c16:PC K cd16 "_law_scheme") (k16:PK K f16)
 (a17:PA K "_law_sums" f17) (l17:PL K f17 "_law_sums" (aj 20) oc17 od17 kV17 dc17 pm17 an17 cd17 ct17 sl17) (c17:PC K cd17 "_law_sums") (k17:PK K f17)
 (a18:PA K "_law_terms" f18) (l18:PL K f18 "_law_terms" (aj 21) oc18 od18 kV18 dc18 pm18 an18 cd18 ct18 sl18) (c18:PC K cd18 "_law_terms") (k18:PK K f18)
 (a19:PA K "_law_otherwise" f19) (l19:PL K f19 "_law_otherwise" (aj 22) oc19 od19 kV19 dc19 pm19 an19 cd19 ct19 sl19) (c19:PC K cd19 "_law_otherwise") (k19:PK K f19)
 (a20:PA K "_law_least" f20) (l20:PL K f20 "_law_least" (aj 23) oc20 od20 kV20 dc20 pm20 an20 cd20 ct20 sl20) (c20:PC K cd20 "_law_least") (k20:PK K f20)
 (a21:PA K "_law_right" f21) (l21:PL K f21 "_law_right" (aj 24) oc21 od21 kV21 dc21 pm21 an21 cd21 ct21 sl21) (c21:PC K cd21 "_law_right") (k21:PK K f21)
 (a22:PA K "law" f22) (l22:PL K f22 "law" (aj 25) oc22 od22 kV22 dc22 pm22 an22 cd22 ct22 sl22) (c22:PC K cd22 "law") (k22:PK K f22)
 : ∃ fd:Li,(∀ (s:tv) (v:hH),QE s fd ⟨[v],[]⟩ [("_law_script",v)]) /\ ∀ base:Heap,K.In base->base.Ns J3 mg->dP l.prog w K mg base CX0 40 fa fd ["_law_script"] (lSp K (phi tab 40 22)):=by
 have e:=hfa.symm.trans (HV X G a22)
 cases e
 have O:zE K mg tab q8:=by
  refine ⟨fun x hx=>PySem.W.mg_none_of X G (z x hx),?_,Dm,?_⟩
  ·intro i d hd
   match i,hd with
   | 0,hd=>cases hd;exact ⟨_,_,ai l0 c0 k0,HV X G a0,a0,(ai l0 c0 k0).binds fun _ _ _ _ _ _ us hl=>by obtain ⟨u0,u1,u2,u3,rfl⟩:=zF us hl;rfl⟩
   | 1,hd=>cases hd;exact ⟨_,_,ai l1 c1 k1,HV X G a1,a1,(ai l1 c1 k1).binds fun _ _ _ _ _ _ us hl=>by obtain ⟨u0,u1,u2,rfl⟩:=ii us hl;rfl⟩
   | 2,hd=>cases hd;exact ⟨_,_,ai l2 c2 k2,HV X G a2,a2,(ai l2 c2 k2).binds fun _ _ _ _ _ _ us hl=>by obtain ⟨u0,u1,rfl⟩:=cT us hl;rfl⟩
   | 3,hd=>cases hd;exact ⟨_,_,ai l3 c3 k3,HV X G a3,a3,(ai l3 c3 k3).binds fun _ _ _ _ _ _ us hl=>by obtain ⟨u0,u1,u2,rfl⟩:=ii us hl;rfl⟩
   | 4,hd=>cases hd;exact ⟨_,_,ai l4 c4 k4,HV X G a4,a4,(ai l4 c4 k4).binds fun _ _ _ _ _ _ us hl=>by obtain ⟨u0,rfl⟩:=eP us hl;rfl⟩
   | 5,hd=>cases hd;exact ⟨_,_,ai l5 c5 k5,HV X G a5,a5,(ai l5 c5 k5).binds fun _ _ _ _ _ _ us hl=>by obtain ⟨u0,rfl⟩:=eP us hl;rfl⟩
   | 6,hd=>cases hd;exact ⟨_,_,ai l6 c6 k6,HV X G a6,a6,(ai l6 c6 k6).binds fun _ _ _ _ _ _ us hl=>by obtain ⟨u0,rfl⟩:=eP us hl;rfl⟩
   | 7,hd=>cases hd;exact ⟨_,_,ai l7 c7 k7,HV X G a7,a7,(ai l7 c7 k7).binds fun _ _ _ _ _ _ us hl=>by obtain ⟨u0,u1,rfl⟩:=cT us hl;rfl⟩
   | 8,hd=>cases hd;exact ⟨_,_,ai l8 c8 k8,HV X G a8,a8,(ai l8 c8 k8).binds fun _ _ _ _ _ _ us hl=>by obtain ⟨u0,u1,rfl⟩:=cT us hl;rfl⟩
   | 9,hd=>cases hd;exact ⟨_,_,ai l9 c9 k9,HV X G a9,a9,(ai l9 c9 k9).binds fun _ _ _ _ _ _ us hl=>by obtain ⟨u0,u1,rfl⟩:=cT us hl;rfl⟩
   | 10,hd=>cases hd;exact ⟨_,_,ai l10 c10 k10,HV X G a10,a10,(ai l10 c10 k10).binds fun _ _ _ _ _ _ us hl=>by obtain ⟨u0,u1,rfl⟩:=cT us hl;rfl⟩
   | 11,hd=>cases hd;exact ⟨_,_,ai l11 c11 k11,HV X G a11,a11,(ai l11 c11 k11).binds fun _ _ _ _ _ _ us hl=>by obtain ⟨u0,u1,rfl⟩:=cT us hl;rfl⟩
   | 12,hd=>cases hd;exact ⟨_,_,ai l12 c12 k12,HV X G a12,a12,(ai l12 c12 k12).binds fun _ _ _ _ _ _ us hl=>by obtain ⟨u0,u1,rfl⟩:=cT us hl;rfl⟩
   | 13,hd=>cases hd;exact ⟨_,_,ai l13 c13 k13,HV X G a13,a13,(ai l13 c13 k13).binds fun _ _ _ _ _ _ us hl=>by obtain ⟨u0,u1,rfl⟩:=cT us hl;rfl⟩
   | 14,hd=>cases hd;exact ⟨_,_,ai l14 c14 k14,HV X G a14,a14,(ai l14 c14 k14).binds fun _ _ _ _ _ _ us hl=>by obtain ⟨u0,rfl⟩:=eP us hl;rfl⟩
   | 15,hd=>cases hd;exact ⟨_,_,ai l15 c15 k15,HV X G a15,a15,(ai l15 c15 k15).binds fun _ _ _ _ _ _ us hl=>by obtain ⟨u0,u1,rfl⟩:=cT us hl;rfl⟩
   | 16,hd=>cases hd;exact ⟨_,_,ai l16 c16 k16,HV X G a16,a16,(ai l16 c16 k16).binds fun _ _ _ _ _ _ us hl=>by obtain ⟨u0,u1,u2,rfl⟩:=ii us hl;rfl⟩
   | 17,hd=>cases hd;exact ⟨_,_,ai l17 c17 k17,HV X G a17,a17,(ai l17 c17 k17).binds fun _ _ _ _ _ _ us hl=>by obtain ⟨u0,rfl⟩:=eP us hl;rfl⟩
   | 18,hd=>cases hd;exact ⟨_,_,ai l18 c18 k18,HV X G a18,a18,(ai l18 c18 k18).binds fun _ _ _ _ _ _ us hl=>by obtain ⟨u0,rfl⟩:=eP us hl;rfl⟩
   | 19,hd=>cases hd;exact ⟨_,_,ai l19 c19 k19,HV X G a19,a19,(ai l19 c19 k19).binds fun _ _ _ _ _ _ us hl=>by obtain ⟨u0,u1,u2,rfl⟩:=ii us hl;rfl⟩
   | 20,hd=>cases hd;exact ⟨_,_,ai l20 c20 k20,HV X G a20,a20,(ai l20 c20 k20).binds fun _ _ _ _ _ _ us hl=>by obtain ⟨u0,u1,u2,rfl⟩:=ii us hl;rfl⟩
   | 21,hd=>cases hd;exact ⟨_,_,ai l21 c21 k21,HV X G a21,a21,(ai l21 c21 k21).binds fun _ _ _ _ _ _ us hl=>by obtain ⟨u0,u1,u2,u3,rfl⟩:=zF us hl;rfl⟩
   | 22,hd=>cases hd;exact ⟨_,_,ai l22 c22 k22,HV X G a22,a22,(ai l22 c22 k22).binds fun _ _ _ _ _ _ us hl=>by obtain ⟨u0,rfl⟩:=eP us hl;rfl⟩
   | i+23,hd=>simp [tab] at hd
  ·intro x i hx;simp only [q8,He,I9,or_false,Prod.mk.injEq] at hx
 refine ⟨KS "law" "law" (dC (aj 25)) (bU (aj 25)) (aw (aj 25)) .none kV22 dc22 pm22 an22 cd22 ct22,fun s v=>.of_eq rfl,fun base _ _=>?_⟩;exact vG O 40 22 d22 _ _ rfl (ai l22 c22 k22)
theorem walk {l:OY} {q:HB} {loose:List Str} {XP:(Str->Option hH)->Heap->Prop} {YP:HX->Heap->Prop} {d:DefRec} {K:Params->Frag} (hn:l.most=some 63) (hdf:d.params.defaults=[])
 (hlaw:∀ ns:List Int,ns.length<=63->phi tab 40 22 [.con (ns.map D.int)] (fun _=>none) fun d _=>d = .bl true)
 (hY:∀ (w:HX) (h:Heap),YP w h->(K w.params).In h)
 (F:∀ (w:HX) (mg:Str->Option hH) (fa:Addr) (h:Heap),(K w.params).In h->h.Ns J3 mg->mg d.name=some (.ref fa) ->
   ∃ fd:Li,(∀ (s:tv) (u:hH),QE s fd ⟨[u],[]⟩ [("_law_script",u)]) /\ ∀ base:Heap,(K w.params).In base->base.Ns J3 mg->dP l.prog w (K w.params) mg base CX0 40 fa fd ["_law_script"] (lSp (K w.params) (phi tab 40 22))) :
 PySem.W.WalkO q loose XP YP l.row.toRowW d [] (fun f vs=>Sa f vs) :=
 L2.walk_of (n:=63) (k:=40) (x:="_law_script") (CX:=fun _=>CX0) (sp:=fun w=>lSp (K w.params) (phi tab 40 22)) hn (by decide) hdf ⟨rfl,by decide,by decide⟩ hY F (fun w H a ns hl hO hS=>D5 hO hS (hlaw ns hl)) fun _ _ _ _ _ z=>z
end K11
end
section
namespace K11
open PySem PySem.Spec PyProof.Rows L2.Srt
theorem rA {n:Nat} (j : 1<=n):tm tab n 11:=w6 (x:="_law_number_here") (s:=aj 14) rfl j
theorem bm {n:Nat} (j : 2<=n):pJ tab n 13:=fun z h1 h2 q=>B9 (s:=aj 16) (fm:=11) rfl (rA (by lia)) j z h1 h2 q
theorem tF {n:Nat} (z : 3<=n):pK tab n 14:=fun j q=>vU (s:=aj 17) (ft:=13) rfl (bm (by lia)) (by lia) j q
theorem yU {n:Nat} (B : 4<=n):vX tab n 15:=fun j z q=>Ba (s:=aj 18) (fn:=14) rfl (tF (by lia)) (by lia) j z q
theorem fu {M M':Mem} {p:Addr} (g:Ge M M') (h:M' p=none):M p=none:=by
 cases hz:M p with
 | none=>rfl
 | some o=>rw [g _ _ hz] at h;cases h
structure Ln (L0 L1 L2:Nat):Prop where
 a : 1<=L0/\L0<=7
 b : 1<=L1/\L1<=7
 c : 1<=L2/\L2<=7
theorem wo {n:Nat} (Y : 3<=n) {x0 B:D} {L0 L1 N:Nat} (F:Ln L0 L1 N) {p:Addr} {ps:List Pr} {M:Mem} {Q:QD} (G:M p=some (.lst (ps.map prD))) (J:ps.length<=20) (z:∀ p∈ps,PrOk L0 L1 N p)
 (q:∀ (ts rs:List Tm) p' M',IsTask ts rs->(∀ k i j,cf ts (k,i,j)=Tn ps k i j)->Ge M M'->M p'=none->M' p'=some (.lst (rs.map tmD))->Q (.tup [x0,B,.int N,.ref p']) M'):phi tab n 6 [.tup [x0,B,.int N,.ref p]] M Q:=by
 obtain ⟨h0,h1,L⟩:=F;have O:L0*L1<=7*7:=J1 h0.2 h1.2;have U:ps.length*(L0*L1)<=20*(7*7):=J1 J O;have Z:ps.length*(L0*L1)*N<=20*(7*7)*7:=J1 U L.2;exact tD (s:=aj 8) (sk:=aj 1) (sf:=aj 6) (sr:=aj 7) rfl rfl rfl rfl (by lia) G (by lia) (by lia) (by lia) (by lia) (by lia) (fun p h=>⟨dg (z p h).s0,dg (z p h).s1,dg (z p h).s2,(z p h).l0,(z p h).l1,(z p h).l2⟩) q
theorem rB:∀ {a b:List Tm},Ih (a.map eU) (b.map eU)=decide (a=b)
 | [],[]=>by simp [Ih]
 | [],_::_=>by simp [Ih]
 | _::_,[]=>by simp [Ih]
 | x::a,y::b=>by
   rw [Hj,Hj,Ih,rB];obtain ⟨⟨j,q,z⟩,B⟩:=x;obtain ⟨⟨F,G,J⟩,L⟩:=y;simp only [eU,Ik,Ih,Bool.and_true];rw [RX];simp only [z4,beq_iff_eq,decide_eq_true_eq,L5,Prod.mk.injEq];simp only [and_assoc]
theorem rC {n:Nat} (O : 4<=n) {L0 L1 N:Nat} (z:Ln L0 L1 N) {A B C:Int} {p r:Addr} {ps:List Pr} {us:List Tm} {M:Mem} {Q:QD} (F:M p=some (.lst (ps.map prD))) (G:M r=some (.lst (us.map tmD))) (J:ps.length<=20) (L:∀ p∈ps,PrOk L0 L1 N p)
 (q:∀ (ts rs:List Tm) M',IsTask ts rs->(∀ k i j,cf ts (k,i,j)=Tn ps k i j)->Ge M M'->Q (.bl (decide ((L0:Int)=A/\(L1:Int)=B/\(N:Int)=C/\rs=us))) M'):phi tab n 7 [.tup [.int L0,.int L1,.int N,.ref p],.tup [.int A,.int B,.int C,.ref r]] M Q:=by
 refine aA (by lia) rfl rfl (ρ:=[some _,some _]) rfl ?_
 unfold d7 L2.Mi.K11.b7;walk_at "st";refine wo (by lia) z F J L fun ts rs p' M' h1 h2 g n' e'=>?_
 refine ⟨_,_,rj e',rj (g _ _ G),?_⟩;have:=q ts rs M' h1 h2 g;rw [show Ik (.tuple [.int L0,.int L1,.int N,.list (rs.map eU)]) (.tuple [.int A,.int B,.int C,.list (us.map eU)])=decide ((L0:Int)=A/\(L1:Int)=B/\(N:Int)=C/\rs=us) from ?_]
 ·exact this
 ·simp only [Ik,Ih,Bool.and_true,rB];rw [RX];simp only [z4,beq_iff_eq,decide_eq_true_eq]
theorem tG {L i:Nat} (h:i < L):ixN L (i:Nat)=some i:=by
 unfold ixN;rw [if_pos (by lia),if_pos (by lia),HF]
noncomputable def one (L:Nat) (i:Nat):List Int:=(Ha L (0:Int)).set i 1
theorem mL {n:Nat} (Y : 1<=n) {L i:Nat} (Z:L<=7) (hi:i < L) {M:Mem} {Q:QD} (q:∀ p M',Ge M M'->M p=none->M' p=some (.lst ((one L i).map .int))->Q (.ref p) M'):phi tab n 8 [.int L,.int i] M Q:=by
 refine aA (by lia) rfl rfl (ρ:=[some _,some _,none]) rfl ?_
 unfold d8 L2.Mi.K11.b8;walk_at "st";refine ⟨by rw [D2];lia,fun G B=>?_⟩
 refine ⟨_,aa,by lia,by lia,by rw [D2];simp;lia,fun F z=>?_⟩
 rw [HF,fQ];have J:=Ge.new (o:=.lst [.int 0]) B;have g1:=J.trans (Ge.new (o:=.lst ((Ha L (0:Int)).map D.int)) z);have O:=aa (M:=af M G (.lst [.int 0])) (a:=F) (o:=.lst ((Ha L (0:Int)).map D.int));have U:=fu J z;generalize af (af M G (.lst [.int 0])) F _=M1 at g1 O ⊢;walk_at "st";refine aU O (j:=i) (by rw [H8,Kk];exact tG hi) ?_
 walk_at "st";refine q F _ (g1.upd U) U ?_;rw [aa];unfold one;rw [NB]
def Dif (A B:List Tm) (i j:Int):Prop:=∃ k,cf A (k,i,j)≠cf B (k,i,j)
structure Lp (A B:List Tm) (i j:Int):Prop where
 at':Dif A B i j
 le:∀ i' j',Dif A B i' j'->HT.lexLt [i',j'] [i,j]=false
theorem EO {i j i' j':Int} (h:HT.lexLt [i,j] [i',j']=false) (g:HT.lexLt [i',j'] [i,j]=false):i=i'/\j=j':=by
 simp only [HT.lexLt] at h g
 by_cases e:i=i'
 ·subst e;refine ⟨rfl,?_⟩;rw [if_pos rfl] at h g
  by_cases e2:j=j'
  ·exact e2
  ·rw [if_neg e2] at h;rw [if_neg (fun z=>e2 z.symm)] at g;have:=of_decide_eq_false h;have:=of_decide_eq_false g;lia
 ·rw [if_neg e] at h;rw [if_neg (fun z=>e z.symm)] at g;have:=of_decide_eq_false h;have:=of_decide_eq_false g;lia
theorem Lp.uniq {A B:List Tm} {i j i' j':Int} (h:Lp A B i j) (g:Lp A B i' j'):i=i'/\j=j':=EO (g.le _ _ h.at') (h.le _ _ g.at')
theorem dh {A:List Tm} {k:K3} (h:cf A k≠0):∃ t∈A,t.1=k:=by
 cases hf:A.filter (fun t=>decide (t.1=k)) with
 | nil=>exfalso;apply h;unfold cf;rw [hf];rfl
 | cons t r =>
   have j:t∈A.filter (fun t=>decide (t.1=k)):=by rw [hf];exact Ij
   exact ⟨t,(Ic.mp j).1,of_decide_eq_true (Ic.mp j).2⟩
structure Su (L0 L1 N:Nat) (A:List Tm):Prop where
 nd:(A.map (·.1)).Nodup
 nz:∀ t∈A,t.2≠0
 inn:∀ t∈A,(0<=t.1.1/\t.1.1 < N)/\(0<=t.1.2.1/\t.1.2.1 < L0)/\(0<=t.1.2.2/\t.1.2.2 < L1)
 len:A.length<=10000
theorem rD {α:Type} [DecidableEq α] {a b:List α} (h:a.Nodup) (s:∀ x∈a,x∈b):a.length<=b.length:=by
 by_cases e:b.length<=a.length
 ·rw [(jk h s e).length_eq];exact Hg _
 ·lia
theorem Dn {rs:List Tm} (h:rs.Pairwise fun a b=>klt a.1 b.1):rs.Nodup:=by
 rw [JB];exact h.imp fun {a b} hab e=>by subst e;exact rf hab
theorem yV {ts rs A:List Tm} (h:IsTask ts rs) (q:(A.map (·.1)).Nodup) (z:∀ k,cf ts k=cf A k):∀ r∈rs,r∈A:=fun r B=>by
 obtain ⟨h1,h2⟩:=h.iff.mp B;rw [z] at h2;obtain ⟨t,j,e⟩:=dh (A:=A) (k:=r.1) (by rw [<- h2];exact h1)
 have:=eB q j;rw [e,<- h2] at this;rw [show r=t from LB e.symm this];exact j
theorem yW {ts rs A:List Tm} (h:IsTask ts rs) (j:(A.map (·.1)).Nodup) (q:∀ k,cf ts k=cf A k):rs.length<=A.length:=rD (Dn h.srt) (yV h j q)
theorem Bp {a b c d:D} {M:Mem} {Q:QD} (q:Q (.tup [b,c]) M):dW (.tup [a,b,c,d]) (some 1) (some 3) M Q:=q
theorem Do {a b c:D} {M:Mem} {Q:QD} (q:Q (.tup [b,c]) M):dW (.tup [a,b,c]) (some 1) none M Q:=q
theorem yX {n:Nat} (hn : 5<=n) {L0 L1 N:Nat} (Y:Ln L0 L1 N) {p r:Addr} {ps:List Pr} {us:List Tm} {M:Mem} {Q:QD} (hp:M p=some (.lst (ps.map prD))) (hr:M r=some (.lst (us.map tmD))) (hc:ps.length<=20) (EY:us.length<=10000) (hF:∀ p∈ps,PrOk L0 L1 N p) {A B:List Tm} (Z:Su L0 L1 N A) (hB:Su L0 L1 N B) (ES:∀ k,cf us k=cf B k) (hT:∀ k i j,cf A (k,i,j)=Tn ps k i j)
 (q0:∀ M',Ge M M'->(∀ k,cf A k=cf B k)->Q .non M')
 (q1:∀ (i j:Nat) a b M',i < L0->j < L1->Lp A B i j->Ge M M'->M a=none->M b=none->a≠b->M' a=some (.lst ((one L0 i).map .int))->M' b=some (.lst ((one L1 j).map .int))->Q (.tup [.ref a,.ref b]) M'):phi tab n 9 [.tup [.int L0,.int L1,.int N,.ref p],.tup [.int L0,.int L1,.int N,.ref r]] M Q:=by
 have F:∀ k,cf A k=Tn ps k.1 k.2.1 k.2.2:=fun ⟨k,i,j⟩=>hT k i j;refine aA (by lia) rfl rfl (ρ:=[some _,some _,none,none,none,none,none,none,none]) rfl ?_
 unfold d9 L2.Mi.K11.b9;walk_at "st";walk_at "st";refine wo (by lia) Y hp hc hF fun ts rs p1 M1 h1 h2 g1 n1 e1=>?_
 refine ⟨_,_,rfl,rfl,?_⟩;have G:=g1 _ _ hr;refine ⟨_,ag G,?_⟩;refine aO (f:=tmD) (ys:=us) (I:=fun l ρ M' acc=>(∃ o0 o1 o2 o3,ρ = [o0,o1,o2,o3])/\M'=M1/\acc=(cm l).map tmD) rfl ⟨⟨_,_,_,_,rfl⟩,rfl,rfl⟩ (fun _ _ _ _ h=>by rw [h.2.1];exact ag G) ?_ ?_
 ·rintro l t r' ρ M2 acc e ⟨⟨o0,o1,o2,o3,rfl⟩,rfl,rfl⟩;refine ⟨_,rfl,fun N' q=>?_⟩;have ET:=aq e;walk_at "wp";refine ⟨by rw [D2];lia,by rw [H8,D2];unfold cm;rw [H8];lia,q _ _ _ ⟨⟨_,_,_,_,rfl⟩,rfl,?_⟩⟩
  simp [cm,tmD]
 ·rintro ρ M2 acc ⟨_,rfl,rfl⟩ p2 J;have g3:=g1.trans (Ge.new (o:=.lst ((cm us).map tmD)) J);have EZ:=yW h1 Z.nd (fun k=>by rw [F ,<- h2])
  have F1:=Z.len;refine ⟨_,_,Ge.new J _ _ e1,aa,by rw [H8,H8,D2];unfold cm;rw [H8];lia,fun p3 EU=>?_⟩
  have g4:=g3.trans (Ge.new (o:=.lst ((rs++cm us).map tmD)) EU);rw [<- J2];refine rg (s:=aj 1) rfl (by lia) (ts:=rs++cm us) (ag aa) (by rw [H9];unfold cm;rw [H8];lia) fun ws p4 M4 L g5 n4 e4=>?_
  refine ⟨_,_,rfl,rfl,?_⟩;have g6:=g4.trans g5;have key:∀ k,cf (rs++cm us) k=cf A k - cf B k:=fun k=>by
   rw [bB,wa,h1.cf,ES,F,<- h2];lia
  have dif:∀ i j,Dif A B i j ↔ ∃ w∈ws,w.1.2=(i,j):=fun i j=>by
   constructor
   ·rintro ⟨k,hk⟩;have hz:cf ws (k,i,j)≠0:=by rw [L.cf,key];lia
    obtain ⟨w,hw,e⟩:=dh hz;exact ⟨w,hw,by rw [e]⟩
   ·rintro ⟨w,hw,e⟩;obtain ⟨z1,z2⟩:=L.iff.mp hw;rw [key] at z2;refine ⟨w.1.1,?_⟩;rw [show (w.1.1,i,j)=w.1 from LB rfl e.symm];lia
  have EV:∀ w∈ws,(0<=w.1.2.1/\w.1.2.1 < L0)/\(0<=w.1.2.2/\w.1.2.2 < L1):=fun w hw=>by
   obtain ⟨z1,z2⟩:=L.iff.mp hw;rw [key] at z2
   by_cases za:cf A w.1=0
   ·obtain ⟨t,ht,e⟩:=dh (A:=B) (k:=w.1) (by lia)
    have:=hB.inn t ht;rw [e] at this;exact this.2
   ·obtain ⟨t,ht,e⟩:=dh (A:=A) (k:=w.1) za;have:=Z.inn t ht;rw [e] at this;exact this.2
  have F3:ws.length<=20000:=by
   have:=L.len;rw [H9] at this;unfold cm at this;rw [H8] at this;lia
  dsimp only;walk_at "st";refine ⟨_,by simp only [sn,e4];rfl,?_⟩
  cases O:ws with
  | nil =>
    rw [if_pos (by simp)]
    walk_at "st";refine q0 _ g6 fun k=>?_;have:=L.cf k;rw [key,O] at this;have h0:cf ([]:List Tm) k=0:=rfl;lia
  | cons w0 wr =>
    rw [if_neg (by simp)]
    have EW:ws≠[]:=by rw [O];simp
    walk_at "st";refine ⟨_,ag e4,?_⟩;refine aO (f:=tmD) (ys:=ws) (I:=fun l ρ M' acc=>(∃ o0,ρ = [o0])/\M'=M4/\acc=(l.map fun w:Tm=>[w.1.2.1,w.1.2.2]).map fun ns=>.tup (ns.map .int)) rfl ⟨⟨_,rfl⟩,rfl,rfl⟩ (fun _ _ _ _ h=>by rw [h.2.1];exact ag e4) ?_ ?_
    ·rintro l w r' ρ M5 acc e ⟨⟨o0,rfl⟩,rfl,rfl⟩;refine ⟨_,rfl,fun N' q=>?_⟩;have ET:=aq e;walk_at "wp";unfold tmD;refine Bp ⟨by rw [H8,H8,D2];lia,q _ _ _ ⟨⟨_,rfl⟩,rfl,by simp⟩⟩
    ·rintro ρ M5 acc ⟨⟨o0,rfl⟩,rfl,rfl⟩ p5 hp5;refine ⟨p5,_,rfl,aa,by simpa using EW,fun ns EX hle=>?_⟩
     obtain ⟨w,hw,rfl⟩:=Hk.mp EX;obtain ⟨⟨a1,a2⟩,b1,b2⟩:=EV w hw;obtain ⟨i,hi⟩:=IB a1;obtain ⟨j,hj⟩:=IB b1;have lp:Lp A B i j:=⟨(dif _ _).mpr ⟨w,hw,LB hi hj⟩,fun i' j' hd=>by
      obtain ⟨u,hu,e⟩:=(dif _ _).mp hd;have:=hle [u.1.2.1,u.1.2.2] (Hl (f:=fun w:Tm=>[w.1.2.1,w.1.2.2]) hu);rw [hi,hj,e] at this;exact this⟩
     refine ⟨_,rfl,?_⟩;walk_at "st";rw [hi,hj];have g7:=g6.trans (Ge.new (o:=.lst ((ws.map fun w:Tm=>[w.1.2.1,w.1.2.2]).map fun ns=>D.tup (ns.map .int))) hp5);refine mL (by lia) Y.a.2 (by lia) fun a M6 g8 n8 e8=>?_
     refine mL (by lia) Y.b.2 (by lia) fun b M7 g9 n9 e9=>?_
     have na:=fu g7 n8;have U:=g7.trans g8;refine ⟨by rw [D2];lia,q1 i j a b M7 (by lia) (by lia) lp (U.trans g9) na (fu U n9) (fun z=>by rw [z,n9] at e8;cases e8) (g9 _ _ e8) e9⟩
theorem wq {A:List Tm} (j:(A.map (·.1)).Nodup) {k:K3}:(dget (A.map kcD) (k3D k)).getD (.int 0) = .int (cf A k):=by
 rw [dM]
 cases hf:A.find? fun p=>decide (p.1=k) with
 | none =>
   have:cf A k=0:=im fun t q e=>by
    have:=LR.mp hf t q;simp [e] at this
   rw [this];rfl
 | some u =>
   have z:=Nj hf;have B:u.1=k:=of_decide_eq_true z;have:=eB j (JF hf);rw [B] at this;rw [this];rfl
theorem q9 {k:Nat} {M:Mem}:∀ nss:List (List Int),aF (rb (k+1) M) (nss.map fun ns=>D.tup (ns.map .int))=some (nss.map fun ns=>OP (ns.map .int))
 | []=>rfl
 | p::r=>by
   have e:rb (k+1) M (.tup (p.map .int))=some (.tuple (p.map .int)):=by simp [rb,dJ]
   rw [Hj,aF,e,q9 r];rfl
theorem Dp {nss:List (List Int)} {a b:Addr} {M:Mem} {Q:QD} (j:M a=some (.lst (nss.map fun ns=>D.tup (ns.map .int)))) (z:M b=some (.lst [])) (q:Q (.bl (decide (nss=[]))) M):wEq (.ref a) (.ref b) M Q:=by
 refine ⟨.list (nss.map fun ns=>.tuple (ns.map .int)),.list [],by rw [cb j,q9];rfl,by rw [cb z];rfl,?_⟩
 cases nss with
 | nil=>simpa [Ik,Ih] using q
 | cons x r=>simpa [Ik,Ih] using q
theorem qa {n:Nat} (hn : 1<=n) {L0 L1 N:Nat} (hL:Ln L0 L1 N) {a b l:Addr} {A B:List Tm} (hA:Su L0 L1 N A) (hB:Su L0 L1 N B) {M:Mem} {Q:QD} (ea:M a=some (.dct true (A.map kcD))) (eb:M b=some (.dct true (B.map kcD))) (el:M l=some (.lst [.int L0,.int L1,.int N]))
 (q0:∀ M',Ge M M'->(∀ k,cf A k=cf B k)->Q .non M')
 (q1:∀ (i j:Nat) x y M',i < L0->j < L1->Lp A B i j->Ge M M'->M' x=some (.lst ((one L0 i).map .int))->M' y=some (.lst ((one L1 j).map .int))->Q (.tup [.ref x,.ref y]) M'):phi tab n 20 [.ref a,.ref b,.ref l] M Q:=by
 refine aA (by lia) rfl rfl (ρ:=[some _,some _,some _,none,none,none,none,none]) rfl ?_
 unfold d20 L2.Mi.K11.b20;walk_at "st";refine ⟨_,_,_,rfl,ea,fun p1 EZ=>?_⟩;have g1:=Ge.new (o:=.lst ((A.map kcD).map (·.1))) EZ;refine ⟨_,_,_,rfl,g1 _ _ eb,fun p2 F1=>?_⟩;have g2:=Ge.new (o:=.lst ((B.map kcD).map (·.1))) F1;have Fb:=hA.len;have Fc:=hB.len;refine ⟨_,_,g2 _ _ aa,aa,by simp only [H8,D2];lia,fun p3 F3=>?_⟩
 have g3:=(g1.trans g2).trans (Ge.new (o:=.lst ((A.map kcD).map (·.1)++(B.map kcD).map (·.1))) F3);have e3:=aa (M:=af (af M p1 (.lst ((A.map kcD).map (·.1)))) p2 (.lst ((B.map kcD).map (·.1)))) (a:=p3) (o:=.lst ((A.map kcD).map (·.1)++(B.map kcD).map (·.1)));generalize af (af (af M p1 _) p2 _) p3 _=M3 at g3 e3 ⊢;refine ⟨_,ag e3,?_⟩;have ek:(A.map kcD).map (·.1)++(B.map kcD).map (·.1)=(A++B).map fun t=>k3D t.1:=by rw [J2,Im,Im];rfl
 have Y:=g3 _ _ ea;have Z:=g3 _ _ eb
 let ne:Tm->Bool:=fun t=>!(cf A t.1==cf B t.1)
 refine aO (f:=fun t:Tm=>k3D t.1) (ys:=A++B) (I:=fun l ρ M' acc=>(∃ o0,ρ = [o0,some (.ref a),some (.ref b)])/\M'=M3/\acc=((l.filter ne).map fun w:Tm=>[w.1.2.1,w.1.2.2]).map fun ns=>.tup (ns.map .int)) ek ⟨⟨_,rfl⟩,rfl,rfl⟩ (fun _ _ _ _ h=>by rw [h.2.1];exact ag e3) ?_ ?_
 ·rintro l t r' ρ M5 acc e ⟨⟨o0,rfl⟩,rfl,rfl⟩;refine ⟨_,rfl,fun N' ES=>?_⟩;have F4:=aq e;rw [H9] at F4;have Fd:=HU ne l;walk_at "wp";refine ⟨⟨_,_,Y⟩,_,_,Y,rfl,⟨_,_,Z⟩,_,_,Z,rfl,?_⟩;rw [wq hA.nd,wq hB.nd];walk_at "wp"
  by_cases hz:cf A t.1=cf B t.1
  ·rw [if_neg (by simp [hz])]
   refine ES _ _ _ ⟨⟨_,rfl⟩,rfl,?_⟩;rw [IM,HA (by simp [ne,hz])];simp
  ·rw [if_pos (by simp [hz])]
   unfold k3D;refine Do ⟨by rw [H8,H8,D2];lia,ES _ _ _ ⟨⟨_,rfl⟩,rfl,?_⟩⟩
   rw [IM,HE (by simp [ne,hz])];simp
 ·rintro ρ M5 acc ⟨⟨o0,rfl⟩,rfl,rfl⟩ p5 hp5;have F5:((A++B).filter ne).length<=20000:=by
   have:=HU ne (A++B);rw [H9] at this;lia
  have hm:∀ i j,Dif A B i j ↔ ∃ w∈(A++B).filter ne,w.1.2=(i,j):=fun i j=>by
   constructor
   ·rintro ⟨k,hk⟩
    by_cases za:cf A (k,i,j)=0
    ·obtain ⟨t,ht,e⟩:=dh (A:=B) (k:=(k,i,j)) (by lia)
     exact ⟨t,Ic.mpr ⟨by simp [ht],by simp only [ne,e];simpa using hk⟩,by rw [e]⟩
    ·obtain ⟨t,ht,e⟩:=dh (A:=A) (k:=(k,i,j)) za;exact ⟨t,Ic.mpr ⟨by simp [ht],by simp only [ne,e];simpa using hk⟩,by rw [e]⟩
   ·rintro ⟨w,hw,e⟩;have:=(Ic.mp hw).2;refine ⟨w.1.1,?_⟩;rw [show (w.1.1,i,j)=w.1 from LB rfl e.symm];simpa [ne] using this
  have ET:∀ w∈(A++B).filter ne,(0<=w.1.2.1/\w.1.2.1 < L0)/\(0<=w.1.2.2/\w.1.2.2 < L1):=fun w hw=>by
   rcases Hu.mp (Ic.mp hw).1 with h | h
   ·exact (hA.inn w h).2
   ·exact (hB.inn w h).2
  generalize (A++B).filter ne=ws at hm ET hp5 F5 ⊢;have g5:=g3.trans (Ge.new (o:=.lst ((ws.map fun w:Tm=>[w.1.2.1,w.1.2.2]).map fun ns=>D.tup (ns.map .int))) hp5);have e5:=aa (M:=M5) (a:=p5) (o:=.lst ((ws.map fun w:Tm=>[w.1.2.1,w.1.2.2]).map fun ns=>D.tup (ns.map .int)));generalize af M5 p5 _=M6 at g5 e5 ⊢;walk_at "st";refine ⟨by rw [D2];lia,fun p6 F6=>?_⟩
  have g6:=Ge.new (o:=.lst []) F6;refine Dp (g6 _ _ e5) aa ⟨_,rfl,?_⟩;have g7:=g5.trans g6;have e6:=g6 _ _ e5;generalize af M6 p6 _=M7 at g7 e6 ⊢
  cases hws:ws with
  | nil =>
    rw [if_pos (by simp)]
    walk_at "st";refine q0 _ g7 fun k=>?_
    by_cases hz:cf A k=cf B k
    ·exact hz
    ·obtain ⟨w,hw,_⟩:=(hm k.2.1 k.2.2).mp ⟨k.1,hz⟩;rw [hws] at hw;cases hw
  | cons w0 wr =>
    rw [if_neg (by simp)]
    have F7:ws≠[]:=by rw [hws];simp
    walk_at "st";refine ⟨p5,_,rfl,e6,by simpa using F7,fun ns F8 hle=>?_⟩
    obtain ⟨w,hw,rfl⟩:=Hk.mp F8;obtain ⟨⟨a1,a2⟩,b1,b2⟩:=ET w hw;obtain ⟨i,hi⟩:=IB a1;obtain ⟨j,hj⟩:=IB b1;have lp:Lp A B i j:=⟨(hm _ _).mpr ⟨w,hw,LB hi hj⟩,fun i' j' hd=>by
     obtain ⟨u,hu,e⟩:=(hm _ _).mp hd;have:=hle [u.1.2.1,u.1.2.2] (Hl (f:=fun w:Tm=>[w.1.2.1,w.1.2.2]) hu);rw [hi,hj,e] at this;exact this⟩
    refine ⟨_,rfl,?_⟩;walk_at "st";rw [hi,hj];have s1 : 0+1<=Hd:=by rw [D2];lia
    have h7:=hL.a;have h8:=hL.b;refine ⟨s1,fun p8 F9=>?_⟩;have g8:=g7.trans (Ge.new (o:=.lst [.int 0]) F9);refine aN (g8 _ _ el) (d:=.int L0) rfl ?_;refine ⟨_,aa,by lia,by lia,by rw [D2];simp;lia,fun p9 EU=>?_⟩
    rw [HF,fQ];have n9:=fu g8 EU;have g9:=g8.trans (Ge.new (o:=.lst ((Ha L0 (0:Int)).map D.int)) EU);have U:=aa (M:=af M7 p8 (.lst [.int 0])) (a:=p9) (o:=.lst ((Ha L0 (0:Int)).map D.int));generalize af (af M7 p8 (.lst [.int 0])) p9 _=M9 at g9 U ⊢;refine ⟨s1,fun EV EW=>?_⟩;have F:=Ge.new (o:=.lst [.int 0]) EW;have O:=g9.trans F;refine aN (O _ _ el) (d:=.int L1) rfl ?_;refine ⟨_,aa,by lia,by lia,by rw [D2];simp;lia,fun G q=>?_⟩
    rw [HF,fQ];have Fa:=fu O q;have J:=Ge.new (o:=.lst ((Ha L1 (0:Int)).map D.int)) q;have EX:=O.trans J;have EY:=aa (M:=af M9 EV (.lst [.int 0])) (a:=G) (o:=.lst ((Ha L1 (0:Int)).map D.int));have L:p9≠G:=fun z=>by rw [<- z,F _ _ U] at q;cases q
    have U:=J _ _ (F _ _ U);generalize af (af M9 EV (.lst [.int 0])) G _=M11 at EX EY U ⊢;walk_at "st";refine ⟨by rw [D2];lia,_,_,⟨rfl,rfl⟩,?_⟩
    refine aU U (j:=i) (by rw [H8,Kk];exact tG (by lia)) ?_
    refine aU (by rw [ak L.symm];exact EY) (j:=j) (by rw [H8,Kk];exact tG (by lia)) ?_
    walk_at "st";refine ⟨by rw [D2];lia,q1 i j p9 G _ (by lia) (by lia) lp ((EX.upd n9).upd Fa) ?_ ?_⟩
    ·rw [ak L,aa];unfold one;rw [NB]
    ·rw [aa];unfold one;rw [NB]
noncomputable def boxU:List (List Int):=(IV 7).flatMap fun k:Nat=>(IV 7).flatMap fun i:Nat=>(IV 7).map fun j:Nat=>[(k:Int),(i:Int),(j:Int)]
theorem wt:(boxU.map ihI).Nodup:=by decide +kernel
theorem yY {L0 L1 N:Nat} (j:Ln L0 L1 N) {A:List Tm} (q:Su L0 L1 N A) {t:Tm} (h:t∈A):tri t∈boxU:=by
 obtain ⟨⟨a,b⟩,⟨c,d⟩,⟨e,f⟩⟩:=q.inn t h;have h1:=j.a;have h2:=j.b;have z:=j.c;refine RA.mpr ⟨t.1.1.toNat,Mb.mpr (by lia),RA.mpr ⟨t.1.2.1.toNat,Mb.mpr (by lia),Hk.mpr ⟨t.1.2.2.toNat,Mb.mpr (by lia),?_⟩⟩⟩
 unfold tri;rw [Lw a,Lw c,Lw e]
theorem zM:∀ {L:List Tm},(L.map (·.1)).Nodup->(∀ t∈L,tri t∈boxU)->((L.map tri).map ihI).Nodup
 | [],_,_=>by simp
 | t::L,q,B=>by
   rw [Hj,Ip] at q;rw [Hj,Hj,Ip];refine ⟨fun z=>?_,zM q.2 fun u j=>B u (by simp [j])⟩
   obtain ⟨y,F,e⟩:=Hk.mp z;obtain ⟨u,j,rfl⟩:=Hk.mp F;have:=cG wt (B u (by simp [j])) (B t (by simp)) e
   exact q.1 (by rw [<- Bo this];exact Hl j)
theorem EQ {L0 L1 N:Nat} (z:Ln L0 L1 N) {d:Addr} {A:List Tm} (j:Su L0 L1 N A) {M:Mem} {Q:QD} (hd:M d=some (.dct true (A.map kcD))) (q:∀ p,M p=none->Q (.ref p) (af M p (.dct true (A.map kcD)))):sU [.ref d] M Q:=by
 refine ⟨d,_,rfl,.inl hd,⟨A.map tri,?_,zM j.nd fun t B=>yY z j B⟩,q⟩;rw [Im,Im];exact IT fun t _=>rfl
theorem Bq {A:List Tm} {k:K3}:gN (A.map kcD) (k3D k)=(A.filter fun t=>decide (t.1≠k)).map kcD:=by
 unfold gN;rw [List.filter_map];congr 1;apply List.filter_congr;intro t _;simp only [Og,kcD];have:k3D t.1=k3D k↔t.1=k:=⟨fo,fun h=>by rw [h]⟩
 simp [this]
structure Sv (L0 L1 N:Nat) (A:List Tm):Prop where
 nd:(A.map (·.1)).Nodup
 inn:∀ t∈A,(0<=t.1.1/\t.1.1 < N)/\(0<=t.1.2.1/\t.1.2.1 < L0)/\(0<=t.1.2.2/\t.1.2.2 < L1)
 len:A.length<=10000
theorem Dq {nss:List (List Int)} {a b:Addr} {M:Mem} {Q:QD} (j:M a=some (.lst (nss.map fun ns=>D.tup (ns.map .int)))) (z:M b=some (.lst [])) (q:Q (.bl (!decide (nss=[]))) M):wNe (.ref a) (.ref b) M Q:=by
 refine ⟨.list (nss.map fun ns=>.tuple (ns.map .int)),.list [],by rw [cb j,q9];rfl,by rw [cb z];rfl,?_⟩
 cases nss with
 | nil=>simpa [Ik,Ih] using q
 | cons x r=>simpa [Ik,Ih] using q
theorem yZ {A:List Tm} {k:K3} {c:Int} {cc:Nat} (h:∀ t∈A,t.2.natAbs<=cc) (z:c.natAbs<=7) {t:Tm} (j:t∈ck A k c):t.2.natAbs<=cc+7:=by
 unfold ck at j
 split at j
 ·obtain ⟨u,q,e⟩:=Hk.mp j;have:=h u q
  split at e
  ·rw [<- e];dsimp only;lia
  ·rw [<- e];lia
 ·rcases Hu.mp j with j | j
  ·have:=h t j;lia
  ·rw [Qy.mp j];dsimp only;lia
theorem z9 {n:Nat} (hn : 3<=n) {L0 L1 N:Nat} (hL:Ln L0 L1 N) {b d l:Addr} {A:List Tm} (U:Su L0 L1 N A) (Ff:A.length<=5000) {cc:Nat} (EX:∀ t∈A,t.2.natAbs<=cc) {M:Mem} {Q:QD} (hb:Box b M) (Fg:d≠b) (ES:l≠b) (ed:M d=some (.dct true (A.map kcD))) (el:M l=some (.lst [.int L0,.int L1,.int N]))
 (q:∀ (B:List Tm) p M',Su L0 L1 N B->B.length<=A.length+1->(∀ t∈B,t.2.natAbs<=cc+7)->Bx b M M'->M p=none->M' p=some (.dct true (B.map kcD))->Q (.ref p) M'):phi tab n 19 [.ref b,.ref d,.ref l] M Q:=by
 refine aA (by lia) rfl rfl (ρ:=[some _,some _,some _,none,none,none,none]) rfl ?_
 unfold d19 L2.Mi.K11.b19;walk_at "st";refine EQ hL U ed fun pm ET=>?_;have g1:=Ge.new (o:=.dct true (A.map kcD)) ET;have z:=aa (M:=M) (a:=pm) (o:=.dct true (A.map kcD));have F:=cF hb ET;generalize af M pm (.dct true (A.map kcD))=M1 at g1 z ⊢;have x1:=(Bx.refl hb).ge g1;walk_at "st";refine ⟨pm,true,_,.tup [.int,.int,.int],rfl,z,rfl,fun kv F6=>?_,fun ps ys EY EU EZ=>?_⟩
 ·obtain ⟨t,_,rfl⟩:=Hk.mp F6;rfl
 obtain ⟨rs,hp,rfl,Fh⟩:=iJ U.nd EU EZ;have g2:=Ge.new (o:=.lst (rs.map fun t=>k3D t.1)) EY;have G:=aa (M:=M1) (a:=ps) (o:=.lst (rs.map fun t=>k3D t.1));have O:=cF x1.box EY;have z:=g2 _ _ z;generalize af M1 ps (.lst (rs.map fun t=>k3D t.1))=M2 at g2 G z ⊢;have x2:=x1.ge g2;walk_at "st";refine bm (by lia) x2.box (by decide) (by decide) fun way M3 w0 w1 x3=>?_
 have z:=x3.keep _ _ F z;have G:=x3.keep _ _ O G;have x3:=x2.trans x3;have h7:=hL.a;have h8:=hL.b;have h9:=hL.c;have F1:=x3.keep _ _ ES el;walk_at "st";refine aN F1 (d:=.int N) rfl ?_;refine bm (by lia) x3.box (by lia) (by lia) fun k M4 k0 k1 x4=>?_
 have F3:=x4.keep _ _ ES F1;have z:=x4.keep _ _ F z;have G:=x4.keep _ _ O G;have x4:=x3.trans x4;refine aN F3 (d:=.int L0) rfl ?_;refine bm (by lia) x4.box (by lia) (by lia) fun i M5 i0 i1 x5=>?_
 have F7:=x5.keep _ _ ES F3;have z:=x5.keep _ _ F z;have G:=x5.keep _ _ O G;have x5:=x4.trans x5;refine aN F7 (d:=.int L1) rfl ?_;refine bm (by lia) x5.box (by lia) (by lia) fun j M6 j0 j1 x6=>⟨by rw [D2];lia,?_⟩
 have z:=x6.keep _ _ F z;have G:=x6.keep _ _ O G;have x6:=x5.trans x6;have EV:M pm=none:=ET;refine eA (I:=fun ρ M'=>∃ kk:K3,ρ = [some (.ref b),some (.ref d),some (.ref l),some (.ref pm),some (.ref ps),some (.int way),some (k3D kk)]/\((0<=kk.1/\kk.1 < N)/\(0<=kk.2.1/\kk.2.1 < L0)/\(0<=kk.2.2/\kk.2.2 < L1))/\Bx b M M'/\M' pm=some (.dct true (A.map kcD))) (fun R hR=>?_) ?_
 ·have skip:∀ M',Bx b M M'->M' pm=some (.dct true (A.map kcD))->R [some (.ref b),some (.ref d),some (.ref l),some (.ref pm),some (.ref ps),some (.int way),some (.tup [.int k,.int i,.int j])] M':=fun M' x e=>hR _ _ ⟨(k,i,j),rfl,⟨⟨k0,k1⟩,⟨i0,i1⟩,⟨j0,j1⟩⟩,x,e⟩;walk_at "wp";refine ⟨Jj _,fun pz F8=>?_⟩;have gz:=Ge.new (o:=.lst []) F8;refine Dq (nss:=rs.map tri) (gz _ _ (by rw [G,Im];rfl)) aa ⟨_,rfl,?_⟩
  have z:=gz _ _ z;have G:=gz _ _ G;have xz:=x6.ge gz;generalize af M6 pz (.lst [])=Mz at z G xz ⊢
  by_cases EW:rs=[]
  ·rw [if_neg (by simp [EW])];exact skip _ xz z
  rw [if_pos (by simpa using EW)]
  by_cases hw2:way < 2
  ·rw [if_pos hw2];have Fi : 0 < rs.length:=Il.mpr EW;have Fe:=hp.length_eq;walk_at "st";refine ⟨_,_,rfl,yI (ag G),?_⟩;rw [H8];refine bm (by lia) xz.box (by lia) (by lia) fun v M8 v0 v1 Y=>?_
   obtain ⟨v,rfl⟩:=IB v0;have hv:v < rs.length:=by lia
   refine aN (Y.keep _ _ O G) (d:=k3D rs[v].1) (fj (by rw [HG,D0 hv];rfl)) ?_
   walk_at "wp";exact hR _ _ ⟨rs[v].1,rfl,U.inn _ (hp.mem_iff.mp (JK hv)),xz.trans Y,Y.keep _ _ F z⟩
  ·rw [if_neg hw2];exact skip _ xz z
 ·rintro ρ M7 ⟨kk,rfl,F9,x7,Z⟩;refine eA (I:=fun ρ M'=>∃ V:List Tm,ρ = [some (.ref b),some (.ref d),some (.ref l),some (.ref pm),some (.ref ps),some (.int way),some (k3D kk)]/\Sv L0 L1 N V/\(V.length<=A.length+1 /\ ∀ t∈V,t.2.natAbs<=cc+7)/\Bx b M M'/\M' pm=some (.dct true (V.map kcD))) (fun R hR=>?_) ?_
  ·walk_at "wp"
   by_cases hw1:way=1
   ·rw [if_pos (by simp [hw1])]
    walk_at "st";refine ⟨⟨_,Z⟩,_,Z,rfl,?_⟩;rw [Bq];refine hR _ _ ⟨A.filter fun t=>decide (t.1≠kk),rfl,⟨U.nd.sublist (MN _ KG),fun t J=>U.inn t (Ic.mp J).1,Jp (HU _ _) U.len⟩,⟨Jp (HU _ _) (by lia),fun t J=>by have:=EX t (Ic.mp J).1;lia⟩,x7.upd EV F,aa⟩
   ·rw [if_neg (by simp [hw1])]
    walk_at "st";refine ⟨⟨_,_,Z⟩,_,_,Z,rfl,by rw [D2];lia,fun pq F4=>?_⟩
    have gq:=Ge.new (o:=.lst ([1,-1,7].map D.int)) F4;have eq:=aa (M:=M7) (a:=pq) (o:=.lst ([1,-1,7].map D.int));have Fa:=cF x7.box F4;have xq:=x7.ge gq;have Z:=gq _ _ Z;change phi _ _ _ _ (af M7 pq (.lst ([1,-1,7].map D.int))) _;generalize af M7 pq (.lst ([1,-1,7].map D.int))=Mq at eq xq Z ⊢;refine bm (by lia) xq.box (by decide) (by decide) fun v M8 v0 v1 Y=>?_
    obtain ⟨v,rfl⟩:=IB v0;have hv:v < ([1,-1,7]:List Int).length:=by simp;lia
    refine aN (Y.keep _ _ Fa eq) (d:=.int ([1,-1,7]:List Int)[v]) (fj (by rw [HG,D0 hv];rfl)) ?_
    have F5:(([1,-1,7]:List Int)[v]).natAbs<=7:=by
     have hm:=JK hv;simp only [He,I9,or_false] at hm;lia
    generalize ([1,-1,7]:List Int)[v]=c at F5;rw [dM];have eg:((Qp (fun p:Tm=>D.int p.2) (A.find? fun p=>decide (p.1=kk))).getD (.int 0)) = .int ((((A.find? fun p=>decide (p.1=kk)).map (·.2)).getD 0)):=by
     cases A.find? fun p=>decide (p.1=kk) <;> rfl
    rw [eg];walk_at "wp";refine fO (Y.keep _ _ F Z) rfl (by rw [H8,D2];lia) ?_
    rw [kT U.nd];have Fb:=pP (L:=A) (k:=kk) (c:=c);refine hR _ _ ⟨ck A kk c,rfl,⟨kr U.nd,fun t J=>?_,by lia⟩,⟨Fb,fun t J=>yZ EX F5 J⟩,(xq.trans Y).upd EV F,aa⟩
    rcases pO (Hl (f:=(·.1)) J) with h | h
    ·obtain ⟨u,hu,e⟩:=Hk.mp h;have:=U.inn u hu;rw [e] at this;exact this
    ·rw [h];exact F9
  ·rintro ρ M8 ⟨V,rfl,hV,⟨Fj,Fc⟩,Y,e8⟩;walk_at "st";refine kR rfl e8 ?_;have x9:Bx b M (af M8 pm (.fdc (V.map kcD))):=Y.upd EV F;refine nzd (Φ:=phi tab (n - 1)) (x:="_law_one") (y:="_law_made") (i:=3) rfl aa hV.nd (by lia) fun B p M' b1 b2 b3 g n' e'=>?_
   have Fd:=cF x9.box n';have Fk:B.length<=V.length:=rD (nj b1) fun t J=>(b2 t J).1;exact q B p M' ⟨b1,fun t J=>(b2 t J).2,fun t J=>hV.inn t (b2 t J).1,by lia⟩ (by lia) (fun t J=>Fc t (b2 t J).1) (x9.ge g) (x9.none n' Fd) e'
theorem wu {L0 L1 N:Nat} {ps:List Pr} {A:List Tm} (h:IsSum ps A) (j:∀ p∈ps,PrOk L0 L1 N p) (F:A.length<=10000):Su L0 L1 N A :=
 ⟨h.nd,h.nz,fun t B=>by
   have e:=h.val B;have z:=h.nz t B;rw [<- e] at z;exact pW (fun u q=>⟨(j u q).l0,(j u q).l1,(j u q).l2⟩) z,F⟩
theorem wv {L i:Nat} (hi:i < L) {x:Int} (hx : 0<=x):gi (one L i) x=if x=i then 1 else 0:=by
 unfold gi one;rw [Hs,List.getElem?_set]
 by_cases e:x=i
 ·rw [if_pos e,if_pos (by lia),Kk,if_pos hi];rfl
 ·rw [if_neg e,if_neg (by lia),LW]
  split <;> rfl
theorem qb {L0 L1 i j:Nat} (hi:i < L0) (q:j < L1) {k:Int}:∀ {A:List Tm},(∀ t∈A,0<=t.1.2.1/\0<=t.1.2.2)->vk A (one L0 i) (one L1 j) k=cf A (k,(i:Int),(j:Int))
 | [],_=>rfl
 | t::A,h=>by
   have ih:=qb hi q (k:=k) (A:=A) fun u z=>h u (HM _ z);rw [aD,<- ih,dN,dN,bT];unfold fkk;rw [wv hi (h t Ij).1,wv q (h t Ij).2];obtain ⟨⟨t1,B,t3⟩,c⟩:=t
   by_cases e1:t1=k <;> by_cases F:B=(i:Int) <;> by_cases G:t3=(j:Int) <;> simp [e1,F,G]
theorem iA {L i:Nat}:(one L i).length=L:=by simp [one]
theorem Dr {L i:Nat}:∀ x∈one L i,x=0∨x=1:=fun x hx=>by
 rcases List.mem_or_eq_of_mem_set hx with h | h
 ·exact .inl (Oh h)
 ·exact .inr h
theorem tH:∀ {A B:List Int},Ih (A.map .int) (B.map .int)=decide (A=B)
 | [],[]=>by simp [Ih]
 | [],_::_=>by simp [Ih]
 | _::_,[]=>by simp [Ih]
 | a::A,b::B=>by
   rw [Hj,Hj,Ih,tH]
   by_cases h:a=b <;> simp [Ik,h]
theorem Br {A B:List Int} {a b:Addr} {M:Mem} {Q:QD} (j:M a=some (.lst (A.map .int))) (z:M b=some (.lst (B.map .int))) (q:Q (.bl (!decide (A=B))) M):wNe (.ref a) (.ref b) M Q:=by
 refine ⟨.list (A.map .int),.list (B.map .int),by rw [cb j,dJ];rfl,by rw [cb z,dJ];rfl,?_⟩
 rw [Ik,tH];exact q
theorem Ds {A B:List Int} {a b a' b':Addr} {M:Mem} {Q:QD} (G:M a=some (.lst (A.map .int))) (J:M b=some (.lst (B.map .int))) (j:M a'=some (.lst (A.map .int))) (z:M b'=some (.lst (B.map .int))) (q:Q (.bl false) M):wNe (.tup [.ref a,.ref b]) (.tup [.ref a',.ref b']) M Q:=by
 have r:∀ {x:Addr} {X:List Int},M x=some (.lst (X.map .int))->rb 15 M (.ref x)=some (.list (X.map .int)):=fun h=>by rw [cb h,dJ];rfl
 have F:∀ {x y:Addr},M x=some (.lst (A.map .int))->M y=some (.lst (B.map .int))->rb 16 M (.tup [.ref x,.ref y])=some (.tuple [.list (A.map .int),.list (B.map .int)]):=fun h1 h2=>by
  show (aF (rb 15 M) [.ref _,.ref _]).map OP=_;simp only [aF,r h1,r h2];simp
 refine ⟨_,_,F G J,F j z,?_⟩;rw [show Ik (.tuple [.list (A.map .int),.list (B.map .int)]) (.tuple [.list (A.map .int),.list (B.map .int)])=true by simp [Ik,Ih,tH]]
 exact q
theorem zc {n:Nat} (hn : 8<=n) {L0 L1 N:Nat} (hL:Ln L0 L1 N) {b p d l:Addr} {ps:List Pr} {B:List Tm} (O:Su L0 L1 N B) (F4:∀ t∈B,-(2 ^ 64) < t.2/\t.2 < 2 ^ 64) {M:Mem} {Q:QD} (hp:M p=some (.lst (ps.map prD))) (hc:ps.length<=6) (hF:∀ p∈ps,PrOk L0 L1 N p) (ed:M d=some (.dct true (B.map kcD))) (el:M l=some (.lst [.int L0,.int L1,.int N]))
 (q:∀ M',Ge M M'->Q (.bl true) M'):phi tab n 21 [.ref b,.tup [.int L0,.int L1,.int N,.ref p],.ref d,.ref l] M Q:=by
 have h7:=hL.a;have h8:=hL.b;have h9:=hL.c;have m1:L0*(L1*N)<=7*(7*7):=J1 h7.2 (J1 h8.2 h9.2);have m2:ps.length*(L0*(L1*N))<=6*(7*(7*7)):=J1 hc m1;refine aA (by lia) rfl rfl (ρ:=[some _,some _,some _,some _,none,none,none]) rfl ?_
 unfold d21 L2.Mi.K11.b21;walk_at "st";refine jh (s:=aj 20) rfl (by lia) (by lia) (by lia) (by lia) hp (by lia) (fun p h=>(hF p h).pf) fun A2 pa M1 EU Fb g1 n1 e1=>?_
 have hA:=wu EU hF (by lia)
 walk_at "st";refine ⟨_,_,rfl,ag (g1 _ _ el),?_⟩;refine pY (s:=aj 21) rfl (by lia) O.nd (by have:=O.len;lia) (g1 _ _ ed) fun us r M2 G F5 g2 n2 e2=>?_
 refine ⟨by rw [D2];lia,.inr trivial,by rw [D2];simp,?_⟩
 have gB:=g1.trans g2;have ES:∀ k,cf us k=cf B k:=fun k=>ik G;have F6:us.length<=10000:=by rw [G.length_eq];exact O.len
 have hU:InB us L0 L1 N:=⟨fun t J=>(O.inn t (G.mem_iff.mp J)).1,fun t J=>(O.inn t (G.mem_iff.mp J)).2.1,fun t J=>(O.inn t (G.mem_iff.mp J)).2.2,fun t J=>F4 t (G.mem_iff.mp J)⟩;have hT:∀ k i j,cf A2 (k,i,j)=Tn ps k i j:=fun k i j=>by rw [EU.cf,iu]
 have F7:IsTask B us:=⟨F5,fun r hr=>O.nz r (G.mem_iff.mp hr),ES,fun r hr=>Hl (G.mem_iff.mp hr),by rw [G.length_eq];exact Hg _⟩
 show wSs _ _ _ [some (.ref b),some (.tup [.int L0,.int L1,.int N,.ref p]),some (.ref d),some (.ref l),some (.ref pa),some (.tup [.int L0,.int L1,.int N,.ref r]),none] M2;have e1:=g2 _ _ e1;have EV:=gB _ _ ed;have EY:=gB _ _ el;have EW:=gB _ _ hp;clear g1 g2 n1 n2;have dsz:∀ {m:Nat} {Y:Mem} {R:QD},4<=m->Ge M2 Y->(∀ M4 z,Ge Y M4->(z=true ↔ ∀ k,cf A2 k=cf B k)->R (.bl z) M4)->phi tab m 7 [.tup [.int L0,.int L1,.int N,.ref p],.tup [.int L0,.int L1,.int N,.ref r]] Y R:=fun {m Y R} hm g h=>by
  refine rC hm hL (g _ _ EW) (g _ _ e2) (by lia) hF fun ts rs M4 t1 t2 g4=>h _ _ g4 ?_
  have tk:∀ k,cf ts k=cf A2 k:=fun ⟨k,i,j⟩=>by rw [t2,hT]
  rw [decide_eq_true_iff];constructor
  ·rintro ⟨_,_,_,e⟩ k;rw [<- tk,<- t1.cf,e,ES]
  ·intro e;exact ⟨rfl,rfl,rfl,t1.uniq F7 fun k=>by rw [tk,e]⟩
 have eqz:∀ {Y:Mem} {R:QD},Ge M2 Y->(∀ z,(z=true ↔ ∀ k,cf A2 k=cf B k)->R (.bl z) Y)->sL (.ref pa) (.ref d) Y R:=fun {Y R} g h=>by
  refine ⟨pa,d,_,_,rfl,rfl,⟨.inl (g _ _ e1),fun kv EX=>?_⟩,⟨.inl (g _ _ EV),fun kv EX=>?_⟩,h _ (Dl hA.nd O.nd hA.nz O.nz)⟩
  ·obtain ⟨t,_,rfl⟩:=Hk.mp EX;exact ⟨_,rfl⟩
  ·obtain ⟨t,_,rfl⟩:=Hk.mp EX;exact ⟨_,rfl⟩
 walk_at "st";refine yX (by lia) hL EW e2 (by lia) F6 hF hA O ES hT (fun Y g3 F=>?_) fun i j fa fb Y hi hj U g3 na nb Fc ea eb=>?_
 ·walk_at "st";refine qa (by lia) hL hA O (g3 _ _ e1) (g3 _ _ EV) (g3 _ _ EY) (fun M4 g4 _=>?_) fun i j x y M4 hi hj U g4 _ _=>?_
  ·refine ⟨_,_,rfl,rfl,?_⟩;rw [show Ik .none .none=true from rfl];refine ⟨_,rfl,?_⟩;rw [if_neg (by decide)]
   have g5:=g3.trans g4;refine dsz (by lia) g5 fun M5 z g6 hz=>?_
   have hz:=hz.mpr F;subst hz;refine ⟨_,rfl,?_⟩;refine ⟨_,rfl,?_⟩;rw [if_neg (by decide)]
   have g7:=g5.trans g6;walk_at "st";refine eqz g7 fun z hz=>?_;have hz:=hz.mpr F;subst hz;refine ⟨_,rfl,?_⟩;rw [if_pos rfl];walk_at "st";refine ⟨_,rfl,?_⟩;exact q _ (gB.trans g7)
  ·obtain ⟨k,hk⟩:=U.at';exact absurd (F _) hk
 ·walk_at "st";refine qa (by lia) hL hA O (g3 _ _ e1) (g3 _ _ EV) (g3 _ _ EY) (fun M4 g4 F=>?_) fun i' j' x y M4 Fd Fe EZ g4 ex ey=>?_
  ·obtain ⟨k,hk⟩:=U.at';exact absurd (F _) hk
  ·obtain ⟨rfl,rfl⟩:i=i'/\j=j':=by have:=U.uniq EZ;lia
   have ne : ¬ ∀ k,cf A2 k=cf B k:=fun F=>by obtain ⟨k,hk⟩:=U.at';exact absurd (F _) hk
   refine Ds (g4 _ _ ea) (g4 _ _ eb) ex ey ⟨_,rfl,?_⟩;rw [if_neg (by decide)]
   have g5:=g3.trans g4;refine dsz (by lia) g5 fun M5 z g6 hz=>?_
   have hz:z=false:=by cases z with | false=>rfl | true=>exact absurd (hz.mp rfl) ne
   subst hz;refine ⟨_,rfl,?_⟩;refine ⟨_,rfl,?_⟩;rw [if_pos (by decide)]
   have g7:=g5.trans g6;refine eqz g7 fun z hz=>?_;have hz:z=false:=by cases z with | false=>rfl | true=>exact absurd (hz.mp rfl) ne
   subst hz;refine ⟨_,rfl,?_⟩;rw [if_neg (by decide)]
   walk_at "st";refine eqz g7 fun z hz=>?_;have hz:z=false:=by cases z with | false=>rfl | true=>exact absurd (hz.mp rfl) ne
   subst hz;refine ⟨_,rfl,?_⟩;rw [if_neg (by decide)]
   walk_at "st";refine dsz (by lia) g7 fun M6 z g8 hz=>?_
   have hz:z=false:=by cases z with | false=>rfl | true=>exact absurd (hz.mp rfl) ne
   subst hz;refine ⟨_,rfl,?_⟩;refine ⟨_,rfl,?_⟩;rw [if_neg (by decide)]
   have g9:=g7.trans g8;refine ⟨_,rfl,_,rfl,?_⟩;rw [if_neg (by decide)]
   walk_at "st";have F1:=g4.trans (g6.trans g8);have ea:=F1 _ _ ea;have eb:=F1 _ _ eb;have bg:∀ {L i:Nat},Big (one L i):=fun {L i} x hx=>by have:=Dr x hx;lia
   refine ⟨_,rfl,_,rfl,?_⟩;refine Bm (s:=aj 5) (fp:=2) (s2:=aj 4) rfl rfl (by lia) (by lia) (by lia) (by lia) hF (g9 _ _ EW) (ag ea) (ag eb) bg bg fun M7 pt ET _ et=>?_
   refine ⟨_,rfl,_,rfl,?_⟩;refine yL (s:=aj 2) rfl (by lia) ((g9.trans ET) _ _ e2) (ag (ET _ _ ea)) (ag (ET _ _ eb)) (by lia) (by rw [iA,iA];exact hU) (Bg bg) fun pv M8 F3 _ ev=>?_
   refine Br (F3 _ _ et) ev ?_;have F8 : ¬ cP (one L0 i) (one L1 j) N ps=val us (one L0 i) (one L1 j) N:=fun e=>by
    rw [<- yT (L0:=L0) (L1:=L1) EU.cf (fun p h=>⟨(hF p h).l0,(hF p h).l1⟩) iA iA] at e;obtain ⟨k,hk⟩:=U.at';have F9 : 0<=k/\k < N:=by
     by_cases za:cf A2 (k,(i:Int),(j:Int))=0
     ·obtain ⟨t,J,e⟩:=dh (A:=B) (k:=(k,(i:Int),(j:Int))) (by lia)
      have:=(O.inn t J).1;rw [e] at this;exact this
     ·obtain ⟨t,J,e⟩:=dh za;have:=(hA.inn t J).1;rw [e] at this;exact this
    obtain ⟨k,rfl⟩:=IB F9.1;have Z:=fq (rs:=A2) (a:=one L0 i) (b:=one L1 j) (N:=N) (k:=k) (by lia)
    have Fa:=fq (rs:=us) (a:=one L0 i) (b:=one L1 j) (N:=N) (k:=k) (by lia)
    rw [e,Fa] at Z;have Z:=Ju.inj Z;rw [qb hi hj fun t J=>⟨(hA.inn t J).2.1.1,(hA.inn t J).2.2.1⟩,qb hi hj fun t J=>⟨(hU.i t J).1,(hU.j t J).1⟩,ES] at Z;exact hk Z.symm
   rw [decide_eq_false F8];exact q _ (gB.trans (g9.trans (ET.trans F3)))
theorem law_holds (ns:List Int) (hl:ns.length<=63):phi tab 40 22 [.con (ns.map D.int)] (fun _=>none) fun d _=>d = .bl true:=by
 refine aA (by lia) rfl rfl (ρ:=[some _,none,none,none,none,none,none,none,none,none,none]) rfl ?_
 unfold d22 b22;walk_at "st";rw [H8];refine ⟨by split <;> lia,by split <;> lia,?_⟩
 refine aR (I:=fun l ρ M'=>∃ o1 o2 o3 o4 o5 o6 U o8 Z q,ρ = [some (.con (ns.map D.int)),o1,o2,o3,o4,o5,o6,U,o8,Z,q]) bI ⟨_,_,_,_,_,_,_,_,_,_,rfl⟩ (fun _ _ _ hI=>trivial) ?_ ?_
 ·rintro l k r ρ M8 e ⟨o1,o2,o3,o4,o5,o6,U,o8,Z,q,rfl⟩;refine ⟨_,rfl,fun F hF=>?_⟩;walk_at "st";refine Dd (s:=aj 15) (fc:=10) (fm:=11) (sc:=aj 13) rfl rfl (rA (by lia)) (by lia) (by lia) fun b x y Fm=>?_
  have G:Box b (af M8 b (.lst [.int x,.int y,.int 0])):=⟨_,_,_,aa⟩;generalize af M8 b (.lst [.int x,.int y,.int 0])=M0 at G ⊢;clear Fm;walk_at "st";refine ⟨by rw [D2];lia,fun p1 F1=>?_⟩
  have g1:=Ge.new (o:=.lst [.int 5,.int 7]) F1;have e1:=aa (M:=M0) (a:=p1) (o:=.lst [.int 5,.int 7]);have Fc:=cF G F1;generalize af M0 p1 (.lst [.int 5,.int 7])=M1 at g1 e1 ⊢;have G:=(Bx.of G g1).box;clear g1 F1;refine bm (by lia) G (by decide) (by decide) fun w M2 w0 w1 x2=>?_
  have e1:=x2.keep _ _ Fc e1;have G:=x2.box;clear x2;walk_at "wp";obtain ⟨most,hm,Fd⟩:∃ most:Nat,(most=5∨most=7)/\atI [D.int 5,D.int 7] (if (w==0)=true then 1 else 0)=some (.int most):=by
   by_cases hw:w=0
   ·exact ⟨7,.inr rfl,by rw [if_pos (by simpa using hw)];rfl⟩
   ·exact ⟨5,.inl rfl,by rw [if_neg (by simpa using hw)];rfl⟩
  refine aN e1 Fd ?_;clear e1 Fc Fd;walk_at "st";refine ⟨by lia,by lia,?_⟩
  refine aO (f:=fun i=>D.int (i:Nat)) (ys:=IV 3) (I:=fun l' ρ M' acc=>(∃ o0,ρ = [o0,some (.ref b),some (.int most)])/\Box b M' /\ ∃ ls:List Nat,acc=ls.map (fun i=>D.int (i:Nat))/\ls.length=l'.length /\ ∀ i∈ls,1<=i/\i<=7) bI ⟨⟨_,rfl⟩,G,[],rfl,rfl,by simp⟩ (fun _ _ _ _ _=>trivial) ?_ ?_
  ·rintro l' i r' ρ M3 acc e' ⟨⟨o0,rfl⟩,ES,ls,rfl,F3,ET⟩;refine ⟨_,rfl,fun N' Fn=>?_⟩;have F4:=aq e';rw [Lh] at F4;walk_at "wp";refine bm (by lia) ES (by lia) (by lia) fun v M4 v0 v1 x4=>?_
   obtain ⟨v,rfl⟩:=IB v0;walk_at "wp";refine ⟨by rw [H8,D2];lia,Fn _ _ _ ⟨⟨_,rfl⟩,x4.box,ls++[1+v],?_,?_,?_⟩⟩
   ·rw [J2];simp
   ·rw [H9,H9,F3];rfl
   ·intro i hi
    rcases Hu.mp hi with h | h
    ·exact ET i h
    ·rw [Qy.mp h];lia
  ·rintro ρ M3 acc ⟨⟨o0,rfl⟩,ES,ls,rfl,F3,ET⟩ pl hpl;obtain ⟨L0,L1,N,rfl⟩:∃ a b c,ls=[a,b,c]:=by
    match ls,F3 with
    | [a,b,c],_=>exact ⟨a,b,c,rfl⟩
   have hL:Ln L0 L1 N:=⟨ET _ (by simp),ET _ (by simp),ET _ (by simp)⟩
   have h7:=hL.a;have h8:=hL.b;have h9:=hL.c;have g4:=Ge.new (o:=.lst [.int L0,.int L1,.int N]) hpl;have el:=aa (M:=M3) (a:=pl) (o:=.lst [.int L0,.int L1,.int N]);have EU:=cF ES hpl;change wSs _ _ _ _ (af M3 pl (.lst [.int L0,.int L1,.int N]));generalize af M3 pl (.lst [.int L0,.int L1,.int N])=M4 at g4 el ⊢;have G:=(Bx.of ES g4).box;clear g4 hpl ES;walk_at "st";refine bm (by lia) G (by decide) (by decide) fun c M5 c0 c1 x5=>?_
   have el:=x5.keep _ _ EU el;have G:=x5.box;clear x5;obtain ⟨c,rfl⟩:=IB c0;refine vY (s:=aj 19) (ft:=13) (fp:=15) rfl (bm (by lia)) (yU (by lia)) (by lia) (by lia) (by lia) (by lia) (by lia) G EU el fun ps pr M6 FB O x6 npr epr=>?_
   have el:=x6.keep _ _ EU el;have Fe:=cF G npr;have G:=x6.box;clear x6 npr;have hc:ps.length<=6:=by lia
   have m1:L0*(L1*N)<=7*(7*7):=J1 h7.2 (J1 h8.2 h9.2);have m2:ps.length*(L0*(L1*N))<=6*(7*(7*7)):=J1 hc m1;walk_at "st";refine jh (s:=aj 20) rfl (by lia) (by lia) (by lia) (by lia) epr (by lia) (fun p h=>(O p h).pf) fun A pa M7 hA Fo g7 n7 e7=>?_
   have el:=g7 _ _ el;have epr:=g7 _ _ epr;have Fp:=cF G n7;have G:=(Bx.of G g7).box;have Ff:=wu hA O (by lia)
   have Fg:∀ t∈A,t.2.natAbs<=6000000000:=fun t ht=>by
    have:=(hA.inB (rs:=A) (NS _) O (by lia)).c t ht
    have e:=hA.val ht;have:=jj (k:=t.1.1) (i:=t.1.2.1) (j:=t.1.2.2) O;rw [e] at this;lia
   clear g7 n7;walk_at "st";refine ⟨by lia,by lia,?_⟩
   refine aR (f:=fun i=>D.int (i:Nat)) (ys:=IV 3) (I:=fun l' ρ M'=>∃ (B:List Tm) (pb:Addr) (U o8 Z q:Option D),ρ = [some (.con (ns.map D.int)),some (.int (k:Nat)),some (.ref b),some (.int most),some (.ref pl),some (.tup [.int L0,.int L1,.int N,.ref pr]),some (.ref pb),U,o8,Z,q]/\Su L0 L1 N B/\B.length<=6*(7*(7*7))+l'.length/\(∀ t∈B,t.2.natAbs<=6000000000+l'.length*7)/\pb≠b/\M' pb=some (.dct true (B.map kcD))/\Box b M'/\M' pl=some (.lst [.int L0,.int L1,.int N])/\M' pr=some (.lst (ps.map prD))) bI ⟨A,pa,_,_,_,_,rfl,Ff,by simp;lia,by simpa using Fg,Fp,e7,G,el,epr⟩ (fun _ _ _ _=>by first | rfl | trivial) ?_ ?_
   ·rintro l' i r' ρ M9 e' ⟨B,pb,U,o8,Z,q,rfl,F5,Fq,F6,Fh,eb,Fi,Y,J⟩;refine ⟨_,rfl,fun F2 F7=>?_⟩;have F4:=aq e';rw [Lh] at F4;walk_at "st";refine zc (by lia) hL F5 (fun t ht=>by have:=F6 t ht;lia) J hc O eb Y fun Fr L=>?_
    refine ⟨_,rfl,?_⟩;rw [if_neg (by decide)]
    have EZ:=(Bx.of Fi L).box;walk_at "st";refine z9 (by lia) hL F5 (by lia) F6 EZ Fh EU (L _ _ eb) (L _ _ Y) fun C p F8 hC FC Fs F9 np ep=>?_
    refine F7 _ _ ⟨C,p,_,_,_,_,rfl,hC,by rw [H9,J7];lia,fun t ht=>by have:=Fs t ht;rw [H9,J7];lia,cF EZ np,ep,F9.box,F9.keep _ _ EU (L _ _ Y),F9.keep _ _ Fe (L _ _ J)⟩
   ·rintro ρ M9 ⟨B,pb,U,o8,Z,q,rfl,F5,Fq,F6,Fh,eb,Fi,Y,J⟩;dsimp only;clear e7 el epr G Fg hA Ff;walk_at "st";refine ⟨_,_,rfl,ag Y,?_⟩;refine jh (s:=aj 20) rfl (by lia) (by lia) (by lia) (by lia) J (by lia) (fun p h=>(O p h).pf) fun A2 FE Fr Fa Fo L FF Ft=>?_
    refine pY (s:=aj 21) rfl (by lia) Fa.nd (by lia) Ft fun us r F8 Fu Fv Fj FG Fw=>?_
    refine ⟨by rw [D2];lia,.inr trivial,by rw [D2];simp,?_⟩
    have Fk:=(L.trans Fj) _ _ Y;have Fl:=(L.trans Fj) _ _ J;have Fx:=Fa.task Fu Fv;have hT:∀ k i j,cf A2 (k,i,j)=Tn ps k i j:=fun k i j=>by rw [Fa.cf,iu]
    show wSs _ _ _ [some (.con (ns.map D.int)),some (.int (k:Nat)),some (.ref b),some (.int most),some (.ref pl),some (.tup [.int L0,.int L1,.int N,.ref pr]),some (.ref pb),U,some (.tup [.int L0,.int L1,.int N,.ref r]),Z,q] F8;walk_at "st";refine ⟨by lia,by lia,?_⟩
    refine aR (f:=fun i=>D.int (i:Nat)) (ys:=IV 3) (I:=fun l' ρ M'=>∃ (U Z q:Option D),ρ = [some (.con (ns.map D.int)),some (.int (k:Nat)),some (.ref b),some (.int most),some (.ref pl),some (.tup [.int L0,.int L1,.int N,.ref pr]),some (.ref pb),U,some (.tup [.int L0,.int L1,.int N,.ref r]),Z,q]/\Ge F8 M') bI ⟨_,_,_,rfl,Ge.refl⟩ (fun _ _ _ _=>by first | rfl | trivial) ?_ ?_
    ·rintro l' i r' ρ Fb e' ⟨U,Z,q,rfl,EV⟩;refine ⟨_,rfl,fun F2 F7=>?_⟩;have hi:i < 3:=by have h9:i∈IV 3:=(by rw [e'];simp);simpa using h9
     walk_at "st";have es:=ag (EV _ _ Fk);refine ⟨_,es,?_⟩;have dz:∀ {A B C:Int} {EX:Mem} {R:QD},Ge Fb EX->(∀ EW,Ge EX EW->R (.bl (decide ((L0:Int)=A/\(L1:Int)=B/\(N:Int)=C))) EW)->phi tab 39 7 [.tup [.int L0,.int L1,.int N,.ref pr],.tup [.int A,.int B,.int C,.ref r]] EX R:=fun {A B C EX R} g h=>by
      refine rC (by lia) hL ((EV.trans g) _ _ Fl) ((EV.trans g) _ _ Fw) (by lia) O fun ts rs EW t1 t2 EY=>?_
      have e9:rs=us:=t1.uniq Fx fun ⟨k,i,j⟩=>by rw [t2,hT]
      have:=h EW EY;simpa [e9] using this
     have fin:∀ (x y z:Int) pz Mz,Ge Fb Mz->Mz pz=some (.lst [.int x,.int y,.int z]) -> ¬ ((L0:Int)=x/\(L1:Int)=y/\(N:Int)=z)->wSs (phi tab (40 - 1)) (MSs.cons (MS.ite (MT.or (MTs.cons (MT.cmp COp.isn (ME.call 7 (MEs.cons (ME.var 5) (MEs.cons (ME.bin BOp.add (ME.blt BF.tuple (MEs.cons (ME.var 10) MEs.nil)) (ME.tup (MEs.cons ((ME.var 8).ix (ME.int 3)) MEs.nil))) MEs.nil))) (ME.bl false)) (MTs.cons (MT.cmp COp.isn (ME.call 7 (MEs.cons (ME.var 5) (MEs.cons (ME.var 8) MEs.nil))) (ME.bl true)) MTs.nil))) (MSs.cons (MS.ret (ME.bl false)) MSs.nil) MSs.nil) MSs.nil) { nx:=F2,rt:=fun d x=>d=D.bl true,bk:=wSs (phi tab (40 - 1)) MSs.nil { nx:=F,rt:=fun d x=>d=D.bl true,bk:=wSs (phi tab (40 - 1)) (MSs.cons (MS.ret (ME.bl true)) MSs.nil) { nx:=fun x M'=>D.non=D.bl true,rt:=fun d x=>d=D.bl true },ct:=F },ct:=F2 } [some (D.con (L7 D.int ns)),some (D.int ↑k),some (D.ref b),some (D.int ↑most),some (D.ref pl),some (D.tup [D.int ↑L0,D.int ↑L1,D.int ↑N,D.ref pr]),some (D.ref pb),U,some (D.tup [D.int ↑L0,D.int ↑L1,D.int ↑N,D.ref r]),some (D.int ↑i),some (D.ref pz)] Mz:=by
      intro x y z pz Mz gz ez Fy;walk_at "st";refine ⟨_,_,rfl,ag ez,_,rfl,by rw [D2];lia,.inr trivial,by rw [D2];simp,?_⟩
      refine dz gz fun EW EY=>?_;rw [decide_eq_false Fy];refine ⟨_,rfl,?_⟩;refine ⟨_,rfl,?_⟩;rw [if_neg (by decide)]
      refine dz (gz.trans EY) fun FH Fz=>?_;rw [decide_eq_true ⟨rfl,rfl,rfl⟩];refine ⟨_,rfl,?_⟩;refine ⟨_,rfl,?_⟩;rw [if_neg (by decide)]
      exact F7 _ _ ⟨_,_,_,rfl,EV.trans (gz.trans (EY.trans Fz))⟩
     change bO _ _ _ _ [.tup [.int ((0:Nat):Int),.int L0],.tup [.int ((1:Nat):Int),.int L1],.tup [.int ((2:Nat):Int),.int N]] _ _ _;refine ⟨es,_,rfl,?_⟩;walk_at "wp";refine ⟨by rw [D2];lia,es,_,rfl,?_⟩
     walk_at "wp";refine ⟨by rw [D2];simp,es,_,rfl,?_⟩
     walk_at "wp";refine ⟨by rw [D2];simp,es,fun pz FA=>?_⟩
     refine fin _ _ _ pz _ (Ge.new FA) aa ?_;have:i=0∨i=1∨i=2:=by lia
     rcases this with rfl | rfl | rfl <;> simp <;> lia
    ·rintro ρ Fb ⟨U,Z,q,rfl,EV⟩;dsimp only;walk_at "wp";exact hF _ _ ⟨_,_,_,_,_,_,_,_,_,_,rfl⟩
 ·rintro ρ M1 ⟨o1,o2,o3,o4,o5,o6,U,o8,Z,q,rfl⟩;dsimp only;walk_at "st"
end K11
end
end
end Mi
end L2
namespace PySem.W.Fast
theorem tw11567550231898716078:True:=trivial
theorem tw13308486634225400589:True:=trivial
theorem tw8130453138152106440:True:=trivial
theorem tw1862999964049246144:True:=trivial
theorem tw7149693099715378198:True:=trivial
theorem tw993356936089842150:True:=trivial
theorem tw4339888987297221996:True:=trivial
theorem tw10426048073308021851:True:=trivial
theorem tw11738537659467669689:True:=trivial
theorem tw10365343742720648360:True:=trivial
theorem tw14342720687897799252:True:=trivial
theorem tw16137880851874722054:True:=trivial
theorem tw2997106738656271193:True:=trivial
theorem tw2244609001858289487:True:=trivial
theorem tw13090805952212792347:True:=trivial
theorem tw8895078485901780072:True:=trivial
theorem tw9663745875731889454:True:=trivial
theorem tw12475668708878053698:True:=trivial
theorem tw3718096174168098884:True:=trivial
theorem tw14261484300765380519:True:=trivial
theorem tw8495663835880058074:True:=trivial
theorem tw12952299129319272689:True:=trivial
theorem tw11263082957099809801:True:=trivial
theorem tw9746749720513704726:True:=trivial
theorem tw2910425038834493122:True:=trivial
theorem tw5704316623152988567:True:=trivial
theorem tw12752117789747118174:True:=trivial
theorem tw14385887219636120175:True:=trivial
theorem tw7845831845977111686:True:=trivial
theorem tw535633752879948420:True:=trivial
theorem tw14394332705689833080:True:=trivial
theorem tw4094244034850427624:True:=trivial
theorem tw2229778457051898474:True:=trivial
theorem tw292763761079966486:True:=trivial
theorem tw5324699274185753033:True:=trivial
theorem tw2191918892357447823:True:=trivial
theorem tw5833694721027244415:True:=trivial
theorem tw5735971368469656170:True:=trivial
theorem tw15698487263450177935:True:=trivial
theorem tw5419688449664503394:True:=trivial
theorem tw8585145507590711761:True:=trivial
theorem tw5959528710428016743:True:=trivial
theorem tw12917187408669518346:True:=trivial
theorem tw1181100136734591476:True:=trivial
theorem tw6924514904627102449:True:=trivial
theorem tw12757905135266766733:True:=trivial
theorem tw3781367784439313131:True:=trivial
theorem tw392389169734231491:True:=trivial
theorem tw12512101143987321337:True:=trivial
theorem tw1357745354663448250:True:=trivial
theorem tw17863564168213706190:True:=trivial
theorem tw8102786316314052404:True:=trivial
theorem tw8137198877304968026:True:=trivial
theorem tw3705304345923055285:True:=trivial
theorem tw13439598006333149077:True:=trivial
theorem tw1674386746181653431:True:=trivial
theorem tw1121208255763016323:True:=trivial
theorem tw9593304721816412393:True:=trivial
theorem tw7631500952189911639:True:=trivial
end PySem.W.Fast
open PySem.W in
set_option maxRecDepth 100000 in
set_option maxHeartbeats 0 in
theorem PySem.Challenge.cw_fewtimes_k11_schemes_that_do_and_that_fa_holds : PySem.Challenge.rw_fewtimes_k11_schemes_that_do_and_that_fa.Holds := by
 w_on;o_law;k_head;(case hw=>w_witness2)
 k_fill
 refine L2.Mi.K11.walk (l:=PySem.Challenge.rw_fewtimes_k11_schemes_that_do_and_that_fa) rfl rfl L2.Mi.K11.law_holds (fun w h Y=>PySem.W.kIn_of Y) ?F
 case F =>
  intro w mg fa h KX G hmg;refine' L2.Mi.K11.all_mk KX G hmg ?z ?_ ?_ ?_ ?_ ?_ ?_ ?_ ?_ ?_ ?_ ?_ ?_ ?_ ?_ ?_ ?_ ?_ ?_ ?_ ?_ ?_ ?_ ?_ ?_ ?_ ?_ ?_ ?_ ?_ ?_ ?_ ?_ ?_ ?_ ?_ ?_ ?_ ?_ ?_ ?_ ?_ ?_ ?_ ?_ ?_ ?_ ?_ ?_ ?_ ?_ ?_ ?_ ?_ ?_ ?_ ?_ ?_ ?_ ?_ ?_ ?_ ?_ ?_ ?_ ?_ ?_ ?_ ?_ ?_ ?_ ?_ ?_ ?_ ?_ ?_ ?_ ?_ ?_ ?_ ?_ ?_ ?_ ?_ ?_ ?_ ?_ ?_ ?_ ?_ ?_ ?_ ?_
  case z =>
   intro x hx;simp only [L2.Mi.bltNames,List.mem_cons,List.not_mem_nil,or_false] at hx
   rcases hx with rfl | rfl | rfl | rfl | rfl | rfl | rfl | rfl | rfl | rfl | rfl | rfl | rfl | rfl | rfl | rfl | rfl | rfl | rfl | rfl <;> k_is
  all_goals try (show _=_;k_is)
