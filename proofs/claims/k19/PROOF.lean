import PyProof.Rows.All
import Wide.All
import OpenK.AllK
import Wide.FinOn
import Lean
import PyProof.EqAt
import PyProof.EqKinds
import PyProof.TupleCall
import PyProof.ZipIter
import PyProof.EnumMake
import PyProof.EnumFor
import PyProof.CollectIter
import PyProof.Rows.SeqMore
import PyProof.ConsumeWalk
import PyProof.Rows.SortShellK
import PyProof.DictItems
import PyProof.DictWalks
import PyProof.AttrMissHeap
import PyProof.DictIter
import PyProof.MaxThree
import PyProof.SeqI3
import KE.KDictOf
import PySem.Challenge.RW_fewtimes_k19_beside
set_option Elab.async false
set_option linter.all false
set_option compiler.extract_closed false
set_option genSizeOf false
set_option bootstrap.genMatcherCode false
set_option maxRecDepth 100000
set_option maxHeartbeats 4000000
open PySem.W (Frag)
open PySem renaming wpAny_bind → gV, Value → h7, wpAny_pure → tv, Shared → D0, sizeLine_eq → GU, sizeLine → GX, wpAny → Hd, model → Hl, Program → Hu, starEach → Hv, wpAny_setField_rec → Hz, wpAny_field → HH, wpAny_callSpecial?_slot → HN, World → HW, wpAny_call_entry → HX, Paired → HZ, wpAny_seqItems → Ia, Around → Ib, wpAny_holding → Ii, Comprehension → Ij, compareOp → Il, sysModules → Iu, wpAny_pyIter_tuple → Iy, PyData → Iz, wpAny_rule → IG, mem_of_lookup → IM, wpAny_truthy_bool → IP, wpAny_newObj_type → IQ, binaryOp → IU, mainGlobals → IZ, wpAny_pyIter_list → J4, wpAny_mono → Jf, assignEach → Jg, wpAny_isInstance → Jh, Builtin → Jl, wpAny_onRaise → Jm, wpAny_attempt → Jn, foldedSetIterable → Js, cellsFrom → Jt, bootBuiltins → JE, wpAny_typeOf → JF, cLine → JH, wpAny_of_eq → JI, inplaceOp → JK, DictEntry → JL, wpAny_passesOwn → JR, swappedStores → JY, IsPair → K5, NameKind → K9, wpAny_letGo → Ke, tupleKind_room_in1 → Ki, wpAny_loadPart' → Ko, wpAny_standAt → Kr, pyNext → Kt, Operator → KG, FuncData → KH, call_meets → KL, IsZip → KN, backTo → L3, swapsWithSole → L6, behindInMarks → L8, wpAny_Call_Name_kw → Lj, tupleKind → Lp, swapsWith → Lq, sliceBounds → Ls, rawInt → Lu, codeAny_mono → Lx, Reads → LF, isSubtype_type → LI, wpAny_dictEntries → LL, Model → LO, wpAny_pyIter_zip → LY, codeAny → Mh, wpAny_updateSeq_pair → Mm, letOwnedTupleGo → Mp, codeAny_builtin → Mv, Keyword → MA, wpAny_richCompare_same_room → MK, firstArgMember → MZ, wpAny_newTuple → N1, isSubtype_stop → N2, wpAny_binaryOp_repeat_ref → Nf, wpAny_letOwnedTupleGo_zip → Ng, standAt → Nm, getItem → Np, attributeBase → Nv, wpAny_newList → Nx, wpAny_comprehension_free → Ny, lastMarks → ND, noFill_tuple_add → NG, wpAny_pyNext_list_item → NV, IsPart → NW, seqIndex_neg → NX, wpAny_getItem_list_neg → NZ, typeIs_int → O8, IsEnum → Ob, wpAny_execs_nil → Og, pushCells_keeps → Oi, wpAny_ite_false → Oj, wpAny_pyNext_list_end → Om, builtinLookup_eq_fast → Oq, wpAny_loadName_local → Ou, seqIndex_of → Ox, keywordEach → Oy, atKey → OA, newFunctionEnv → OB, ZipApart → OC, ReadsAll → OE, wpAny_ite_true → OI, wpAny_pyIter_keyiter → OJ, setItem → OT, callerA → OU, valueAt → OV, wpAny_loadName_cell → OW, assignInOrder → P4, CmpOp → P5, seq_tuple_add → P6, plainId_quiet → P7, mroOf_keyiter → Pa, foldedForSure → Pf, pyIter → Pg, typeLookup → Pn, BindsTo → PH, concat_meets → PJ, wpAny_sequenceKey → PM, call_meetsIn → PQ, callType_new → PR, wpAny_pyIter_enum → PU, wpAny_Dict_empty → Q9, pushCells → Qa, checkBuiltinCall → Qb, IsEnumOut → Qc, entryFor_of_tree → Qi, fillsInplaceSlot → Ql, wpAny_throw → Qu, richCompare → Qw, builtinsNs → QR, wpAny_Name → QS, bindName → QT, bindL → QU, bindC → QV, backToKw → QW, call → QX
open PySem.Heap renaming get?_push_of_some → q7, get?_push_size → GY, lt_size → Hb, size_push → Ip, SameBut → IJ, get?_update_ne → J9, IsTuple → KS, get?_update_self → LP, get?_push_cases → Mn, IsList → Nr, get?_update_other → O0, ExtBut → Qt
open Bool renaming and_eq_true → z4, false_ne_true → H0, not_eq_true' → Iv, false_eq_true → IY, not_eq_true → LW, false_and → MR, false_or → Nw, or_eq_true → Ol, and_eq_true_iff → OD
open List renaming getElem?_eq_getElem → D1, length_map → D2, length_append → GR, getElem?_append_right → GS, pairwise_append → GW, size_toArray → H9, mem_cons → Ha, append_assoc → He, getElem?_append_left → Hg, range → Hi, mem_append → Hj, replicate → Hm, mem_append_right → Hn, getElem?_eq_some_iff → Ho, length_take → Hq, mem_map → Hr, map_cons → Hs, not_mem_nil → Ht, mem_of_getElem? → Hy, getElem?_map → HB, length_range → HC, toList_toArray → HD, mem_cons_of_mem → HE, length_singleton → HF, mem_range → HG, mem_map_of_mem → HK, length_cons → HR, length_eq_zero_iff → HU, map_congr_left → HY, getD_eq_getElem?_getD → I0, length_pos_iff → Ik, mem_append_left → Im, flatten_cons → Io, mem_cons_self → Ir, drop_eq_getElem_cons → Iw, map_append → IB, replicate_succ → IC, map_map → IF, nodup_iff_pairwise_ne → IH, take_append_drop → IS, length_drop → J0, pairwise_map → J8, append_nil → Ja, nodup_cons → Jb, find?_cons → Jc, length_nil → Jd, mem_flatMap → Jj, mem_iff_getElem → Jq, filter_cons_of_pos → Ju, filter_cons_of_neg → Jv, flatMap_cons → Jw, forIn_cons → Jx, dropLast_concat_getLast → JB, flatten_append → JD, drop_eq_nil_of_le → JG, lookup_cons → JM, Perm → JN, any_eq_true → JO, zipWith → JT, mem_of_mem_drop → JU, mem_of_mem_take → JV, all_cons → K6, flatMap_append → K8, getElem?_cons_succ → Kb, getElem?_set_self → Kf, take_of_length_le → Kj, find?_cons_of_neg → Kl, any_cons → Ks, perm_append_comm → Kv, length_filter_le → Kw, getElem?_eq_none → Kx, reverse_cons → Kz, ext_getElem? → KD, length → KJ, map_nil → KQ, zipIdx_cons → KR, mem_reverse → KU, all_eq_true → KW, getElem?_range → L5, getElem?_take_of_lt → L9, mem_filter → Lc, foldl_cons → Ld, nil_append → Le, getElem?_drop → Ll, filter_append → Lo, forIn_nil → LB, extract → LG, reverse_perm → LH, find?_cons_of_pos → LM, getElem?_zipWith → LR, foldl → LU, getElem_mem → Md, cons_append → Me, getElem?_set_ne → Mk, of_mem_zip → Mq, zipIdx_nil → Mt, filterMap_cons → Mx, length_reverse → My, pairwise_cons → N4, drop_drop → N5, set_cons_zero → N9, set_cons_succ → Na, perm_ext_iff_of_nodup → Nb, nodup_append → Nt, getElem?_replicate → NF, drop_length → NM, getElem?_cons_zero → NN, map_flatMap → NO, nodup_range → NP, pairwise_reverse → Oo, pairwise_flatMap → Ot, getElem?_mapIdx → OF, reverse_reverse → OG, length_zipWith → OZ, mem_filterMap → Ph, take_add_one → PX, ext_getElem → Qe, map_snd_zip → Qh, range'_succ → Qk, map_zipWith → Qp, flatMap_def → Qq, length_set → QC, length_zip → QG, range_succ → QK, sum_append → QL, map_const' → QM
open PyProof.Rows renaming wpS_bind → GZ, Keyed → H8, pendingOf → Hk, arrOf → HV, wpS_forRange → Ig, SortSt → Ih, kindOf → IK, callWith_type1 → J2, slot_tuple_getitem → Je, wpS_modify → Ji, failedOf → JC, SortKind → Lb, wpS_get → Lf, get?_update_seq → Lh, setPending → Lk, listUpdate_at → Mj, mem_zip_self → MM, assignInOrder_cons → MQ, AllBare → Nl, seqSlot_of → NK, subscriptTail_builtinR → NY, envOfC → Ow, entry_tuple_getitem → OX, args_tuple_getitem → Pm, assignInOrder_nil → Py, listItems_at → PZ, seqObj → Qg, keyKind'_eq → Qx, seqEpoch_at → Qy, IntsAre → QO, mergeAt' → QZ
open Nat renaming le_refl → Hc, lt_of_lt_of_le → HI, ne_of_lt → HQ, mul_le_mul → I8, lt_irrefl → IT, le_trans → IV, ne_of_gt → IW, zero_le → J1, succ_mul → J3, le_of_lt → KO, mul_comm → KP, min_eq_left → Lg, mul_le_mul_right → Mo, sub_self → MD, zero_add → MJ, lt_of_le_of_lt → Nc, add_assoc → Nz, succ_le_succ → NL, add_sub_cancel_left → NQ, le_of_eq → O9, div_lt_of_lt_mul → OQ, add_sub_cancel → Pt, mod_lt → Px, div_add_mod' → Qr, not_lt → QY, succ → R9
open Array renaming toList_append → Hf, toList_push → Hh, length_toList → Hw, getElem?_toList → Hx, getElem?_eq_getElem → HM, toList_reverse → HS, toList_extract → Jr, size_append → KA, getElem?_eq_none → LK, toList_inj → Mf, map → Mg, size_push → Mu, toList_setIfInBounds → N6, toList → NU, all_eq_true → Q0, filterMap → QJ
open PySem.W renaming mg_of → HA, kia_one → II, fnOf → Kg, keepIn → KI, kitx_list → Lv, kitx_dict → Lw, cellsFrom_some → Ly, codeIn → MV, methodObj → Nk, instObj → Of, OpenLaw → Oh, lookIn → Ov, kitAny → OK, kitx_float → Pj, kitx_tuple → Pk, kitx_none → Pz, kitx_bool → PD, nsIn → Q3, plainGet → Q4, kitx_int → Q5, kitx_str → Q6
open Int renaming toNat_natCast → HJ, natCast_mul → Jz, eq_ofNat_of_zero_le → Kd, ofNat_lt → KY, toNat_of_nonneg → L4, natCast_add → Li, emod_lt_of_pos → Lm, emod_nonneg → Mw, add_mul → Nu, mul_add → OP, natCast_sub → QN, ofNat → Ri
open PySem.NameKind renaming free → HP, cell → Jk
open PySem.Value renaming ref → I9, type → ID, none → JW, bool → NT, int → OR, str → OS, float → Qs
open PySem.Str renaming ofString → Ic
open List.Perm renaming append_left → Ie, append_right → Iq, of_eq → Kq, refl → OH
open PySem.PyData renaming eqv → IA, canLayAll0 → IE, depthAll → JA, eqvAll → JJ, depth → Kk, canLay0 → LJ, list → Qv
open True renaming intro → IX
open PySem.SeqAt renaming readOf → J6, readOf_eq → JS, eqAt_reads → Qf
open Option renaming some → Jo, isSome_iff_exists → JZ, map_eq_some_iff → Kh, map_some → Kn, bind_some → LZ, isSome_some → Po, getD_none → Q7, join_some → Qm, bind_none → Qn, join_none → Qo
open PySem.Shared renaming heap → Jp
open PySem.F renaming slot_zip_next → Jy, slot_tuple_iterator_next → JP, plainAttrs_list → Kc, slot_enumerate_next → Ku, args_tuple_add_2 → La, entry_tuple_add → Lr, slot_tuple_add → Lz, args_zip_next_1 → LC, slot_dict_get → LQ, entry_zip_next → LX, slot_int_rmul → Mr, args_tuple_iterator_next_1 → Ms, entry_tuple_iterator_next → MB, slot_list_insert → NA, args_dict_get_3 → NH, args_enumerate_next_1 → NJ, entry_dict_get → Oa, entry_enumerate_next → Oc, slot_dict_ne → OL, args_int_rmul_2 → PN, entry_int_rmul → Q8, slot_dict_iter → Qj, fills_int_mul → QE, entry_zip_new → QF, slot_tuple_lt → QI
open PySem.Builtin.Slice renaming slicePlaces → JQ, sliceAdjust → KZ, sliceApplied → MW
open PySem.Paired renaming length → JX
open PySem.Builtin.Tuple renaming tupleExact → K0, tupleCompareSizes → LN, tupleItemsOf → MX, tupleIsExact → MY, tupleTooMany → N3
open PySem.Obj renaming mapSeq → K1, data_mapFields → Pp
open PySem.Builtin.List renaming listTooLong → K2, listLengthHint → MN, listFitsIndex → N8
open Function renaming comp → K7
open LawfulBEq renaming eq_of_beq → Ka
open ForInStep renaming yield → Km
open PySem.Calls renaming callWith_builtin → LA, Name_function_global → MP, spliced_cons → MU, evalArgs_plain → Oz, spliced_nil → PF
open PySem.Heap.IsTuple renaming push → LD
open PyProof.Rows.IsTup renaming new → LS
open And renaming intro → LV
open PyProof.Rows.SortSt renaming mk' → Mc
open PySem.Data renaming seq → Ml
open PySem.Heap.SameBut renaming update → Mz
open PySem.Builtin.Dict_items renaming isOneOf → N7
open PySem.Builtin.Dict renaming dictSlotArgs → Nh, samePairs → Oe
open Classical renaming byContradiction → Nj
open List.Pairwise renaming nil → Nq
open PySem.Env renaming blockKind → NB, kindOf → Pw
open PySem.Heap.IsList renaming push → NI
open Sum renaming inl → NR, inr → NS
open PySem.Expr renaming Subscript → OM, Attribute → ON, Constant → Pb, ListComp → Pc, UnaryOp → Q1, Compare → Q2, BoolOp → Qz, BinOp → R3, IfExp → R4, Tuple → R5, Slice → R6, Name → Ra, List → Rb, Call → Rc, Dict → Rf
open PySem.Stmt renaming AugAssign → OO, Continue → Pe, Assign → QA, Return → QB, While → R7, Break → R8, Expr → Rg, Pass → Rh
open PySem.Builtin.Int renaming intBits → OY
open PySem.Around renaming in1_handled → Pq, under_plain → Pu
open Option.some renaming injEq → PV
open Exists renaming intro → PY
open List.cons renaming injEq → QH
open Iff renaming rfl → QP
namespace L2
open PySem PySem.Spec PyProof.Rows
section
noncomputable abbrev Key:=Sum Int Str
noncomputable def gH:Key->h7->Bool
 | .inl k,v=>Value.isInt k v
 | .inr x,v=>Value.isStrOf x v
noncomputable def Ea (w:HW):Key->Int
 | .inl k=>hashInt k
 | .inr x=>hashStr w x
theorem aQ:∀ {k:Key} {v:h7},gH k v=true->(∃ i t,k=NR i/\v=OR i t)∨(∃ x t,k=NS x/\v=OS x t)
 | .inl i,v,h=>by
  obtain ⟨t,e⟩:=Value.isInt_shape (k:=i) (v:=v) h;exact .inl ⟨i,t,rfl,e⟩
 | .inr x,v,h=>by
  obtain ⟨t,e⟩:=Value.isStrOf_shape (x:=x) (v:=v) h;exact .inr ⟨x,t,rfl,e⟩
theorem tW (i:Int) (t:Tok):gH (.inl i) (.int i t)=true:=by simp [gH,Value.isInt]
theorem tX (x:Str) (t:Tok):gH (.inr x) (.str x t)=true:=by simp [gH,Value.isStrOf]
theorem Bp (a b:Int):decide ((NR a:Key)=NR b)=(a==b):=by
 by_cases e:a=b
 ·subst e;simp
 ·have h : ¬ (NR a:Key)=NR b:=fun q=>e (NR.inj q);rw [decide_eq_false h];exact (beq_eq_false_iff_ne.mpr e).symm
theorem Bq (a b:Str):decide ((NS a:Key)=NS b)=decide (a=b):=by
 by_cases e:a=b
 ·subst e;simp
 ·have h : ¬ (NS a:Key)=NS b:=fun q=>e (NS.inj q);rw [decide_eq_false h,decide_eq_false e]
theorem Br (a:Int) (b:Str):decide ((NR a:Key)=NS b)=false:=decide_eq_false (fun q=>nomatch q)
theorem Bs (a:Str) (b:Int):decide ((NS a:Key)=NR b)=false:=decide_eq_false (fun q=>nomatch q)
noncomputable def aI (prog:Hu) (w:HW):PySem.KeyKind prog w Key where
 is:=gH
 hash:=Ea w
 inj:=fun v a b ha hb=>by
  rcases aQ ha with ⟨i,t,rfl,rfl⟩ | ⟨x,t,rfl,rfl⟩
  ·rcases aQ hb with ⟨j,u,rfl,e⟩ | ⟨y,u,rfl,e⟩
   ·injection e with e1 _;rw [e1]
   ·exact nomatch e
  ·rcases aQ hb with ⟨j,u,rfl,e⟩ | ⟨y,u,rfl,e⟩
   ·exact nomatch e
   ·injection e with e1 _;rw [e1]
 byValue:=fun k v h=>by
  rcases aQ h with ⟨i,t,rfl,rfl⟩ | ⟨x,t,rfl,rfl⟩ <;> rfl
 pyHash:=fun hv h=>by
  rcases aQ hv with ⟨i,t,rfl,rfl⟩ | ⟨x,t,rfl,rfl⟩
  ·exact wpAny_pyHash_int h
  ·exact wpAny_pyHash_str h
 eqBool:=fun hu hv h=>by
  rcases aQ hu with ⟨i,t,rfl,rfl⟩ | ⟨x,t,rfl,rfl⟩
  ·rcases aQ hv with ⟨j,u,rfl,rfl⟩ | ⟨y,u,rfl,rfl⟩
   ·rw [Bp] at h;exact wpAny_eqBool_int h
   ·rw [Br] at h;exact SeqAt.EqAt.int_str i t y u _ _ _ _ h
  ·rcases aQ hv with ⟨j,u,rfl,rfl⟩ | ⟨y,u,rfl,rfl⟩
   ·rw [Bs] at h;exact SeqAt.EqAt.str_int x t j u _ _ _ _ h
   ·rw [Bq] at h;exact wpAny_eqBool_str h
 «strs» := fun k x t v h=>by
  rcases aQ h with ⟨i,u,rfl,e⟩ | ⟨y,u,rfl,e⟩
  ·exact nomatch e
  ·injection e with e1 _
   subst e1
   cases v <;> rfl
theorem qa (prog:Hu) (w:HW) (i:Int) (t:Tok):(aI prog w).is (.inl i) (.int i t)=true:=tW i t
theorem qb (prog:Hu) (w:HW) (x:Str) (t:Tok):(aI prog w).is (.inr x) (.str x t)=true:=tX x t
end
section
inductive V where
 | non | bl (b:Bool) | int (i:Int) | str (x:Str) | byt (b:Array UInt8) | flt (b:UInt64) | ref (a:Addr) | ty (n:String)
 deriving DecidableEq
noncomputable def RelV:V->h7->Prop
 | .non,u=>u=JW
 | .bl b,u=>u=NT b
 | .int i,u => ∃ t,u=OR i t
 | .str x,u => ∃ t,u=OS x t
 | .byt b,u => ∃ t,u=Value.bytes b t
 | .flt b,u => ∃ t,u=Qs b t
 | .ref a,u=>u=I9 a
 | .ty n,u=>u=ID n
noncomputable abbrev Vals:List V->List h7->Prop:=HZ RelV
theorem Vals.length {xs:List V} {us:List h7} (r:Vals xs us):xs.length=us.length:=JX r
theorem Vals.get:∀ {xs:List V} {us:List h7} {i:Nat} {x:V},Vals xs us->xs[i]? = some x -> ∃ u,us[i]? = some u/\RelV x u
 | _,_,_,_, .nil,e=>by simp at e
 | _,_,0,_, .cons r _,e=>by simp at e;subst e;exact ⟨_,rfl,r⟩
 | _,_,i+1,x, .cons _ t,e=>by
   obtain ⟨u,h1,h2⟩:=Vals.get (i:=i) (x:=x) t (by simpa using e)
   exact ⟨u,by simpa using h1,h2⟩
theorem Vals.set {x:V} {u:h7} (r:RelV x u):∀ {xs:List V} {us:List h7} (i:Nat),Vals xs us->Vals (xs.set i x) (us.set i u)
 | _,_,_, .nil => .nil
 | _,_,0, .cons _ t => .cons r t
 | _,_,i+1, .cons q t => .cons q (Vals.set r i t)
theorem Vals.append:∀ {xs ys:List V} {us ws:List h7},Vals xs us->Vals ys ws->Vals (xs++ys) (us++ws)
 | _,_,_,_, .nil,s=>s
 | _,_,_,_, .cons r t,s => .cons r (Vals.append t s)
theorem Vals.take:∀ {xs:List V} {us:List h7} (n:Nat),Vals xs us->Vals (xs.take n) (us.take n)
 | _,_,0,_ => .nil
 | _,_,_+1, .nil => .nil
 | _,_,n+1, .cons r t => .cons r (Vals.take n t)
theorem Vals.drop:∀ {xs:List V} {us:List h7} (n:Nat),Vals xs us->Vals (xs.drop n) (us.drop n)
 | _,_,0,r=>r
 | _,_,_+1, .nil => .nil
 | _,_,n+1, .cons _ t=>Vals.drop n t
noncomputable def RelO:Option V->Option h7->Prop
 | some v,some u=>RelV v u
 | none,none=>True
 | _,_=>False
noncomputable def KV {κ:Type}:List (κ × V)->List (κ × h7)->Prop:=HZ fun (p : κ × V) (q : κ × h7)=>p.1=q.1/\RelV p.2 q.2
noncomputable def kV:Key->V
 | .inl i => .int i
 | .inr x => .str x
inductive HO where
 | lst (xs:List V)
 | tup (xs:List V)
 | dK (kvs:List (Key×V)) | dT (kvs:List (List Key×V))
 | set (S:Int->Bool) (n:Nat)
 | ins (C dx:Addr) (fs:List (Str×V))
 | own (x:Addr)
 | xd (fs:List (Str×V))
 | met (f x:Addr)
 | rng (lo hi:Int)
 | frz (o:Obj) (u:HO)
 | tbl (ps:Array h7)
 | ext (φ:Heap->Prop)
noncomputable abbrev Hp:=Addr->Option HO
noncomputable def upd (H:Hp) (a:Addr) (o:HO):Hp:=fun b=>if b=a then some o else H b
theorem aw {H:Hp} {a:Addr} {o:HO}:upd H a o a=some o:=by unfold upd;rw [if_pos rfl]
theorem ak {H:Hp} {a b:Addr} {o:HO} (h:b≠a):upd H a o b=H b:=by unfold upd;rw [if_neg h]
theorem zE {H:Hp} {a:Addr} {o u:HO}:upd (upd H a o) a u=upd H a u:=by
 funext b;unfold upd;split <;> rfl
theorem yO {H:Hp} {a b:Addr} {o u:HO} (h:H a=some o) (h':H b=some u) (d:o≠u):a≠b:=by
 intro e;subst e;rw [h] at h';exact d (Jo.inj h')
theorem aV {H:Hp} {a b:Addr} {o:HO} (h:H a=some o) (h':H b=none):a≠b:=by
 intro e;subst e;rw [h] at h';cases h'
section
variable (P:Hu) (w:HW)
noncomputable def ObjOk (H:Hp) (h:Heap) (a:Addr):HO->Prop
 | .lst xs=>xs.length<=GX /\ ∃ (its:List h7) (n:Nat),Vals xs its/\h.get? a=some { cls := .type "list",data := .seq its.toArray n }
 | .tup xs=>xs.length<=GX /\ ∃ its:List h7,Vals xs its/\IsTup h a its.toArray
 | .dK kvs=>kvs.length<=GX/\(a==Iu)=false /\ ∃ vs,KV kvs vs/\h.DictOf (aI P w) a vs
 | .dT kvs=>kvs.length<=GX/\(a==Iu)=false /\ ∃ xs:List (List Key×Addr×h7),
  HZ (fun (p:List Key×V) (q:List Key×Addr×h7)=>p.1=q.1/\H q.2.1=some (.tup (p.1.map kV))/\RelV p.2 q.2.2) kvs xs /\
  ∃ o es ep,h.get? a=some o/\o.ExactDict/\o.data = .dict es ep/\es.toList=xs.map (entryOfKey (Lp (aI P w)))/\(xs.map (·.1)).Nodup
 | .set S n=>h.SetOf (intKind P w) a S n
 | .ins C dx fs=>H dx=some (.own a)/\fs.length<=1000/\dx≠a/\h.get? a=some (Of C dx) /\
  ∃ mA,h.Ns1 dx mA/\(∀ f,RelO (fs.lookup f) (mA f))/\PySem.Within mA (fs.map (·.1))
 | .own _ => ∃ o,h.get? a=some o
 | .xd fs => ∃ mA,h.Ns1 a mA /\ ∀ f,RelO (fs.lookup f) (mA f)
 | .rng lo hi => ∃ t u v,h.get? a=some { cls := .type "range",data := .fields #[.int lo t, .int hi u, .int 1 v] }
 | .frz o u=>h.get? a=some o/\ObjOk H h a u
 | .tbl ps=>h.get? a=some { cls := .none,data := .fields ps }
 | .met f x=>h.get? a=some (Nk (.ref f) (.ref x))
 | .ext φ => φ h/\(∃ o,h.get? a=some o) /\ ∀ h1 h2:Heap, φ h1->(∀ o,h1.get? a=some o->h2.get? a=some o) -> φ h2
def HOk (H:Hp) (h:Heap):Prop := ∀ a o,H a=some o->ObjOk P w H h a o
end
section
variable {P:Hu} {w:HW} {H H':Hp} {h h':Heap} {a:Addr} {o:HO}
theorem ObjOk.lt (x:ObjOk P w H h a o):a < h.objs.size:=by
 cases o with
 | lst xs=>obtain ⟨_,_,_,_,e⟩:=x;exact Hb e
 | tup xs=>obtain ⟨_,_,_,p⟩:=x;exact p.lt
 | dK kvs=>obtain ⟨_,_,_,_,o,_,_,e,_⟩:=x;exact Hb e
 | dT kvs=>obtain ⟨_,_,_,_,o,_,_,e,_⟩:=x;exact Hb e
 | set S n=>obtain ⟨o,_,_,_,e,_⟩:=x;exact Hb e
 | ins C dx fs=>obtain ⟨_,_,_,e,_⟩:=x;exact Hb e
 | own y=>obtain ⟨_,e⟩:=x;exact Hb e
 | xd fs=>obtain ⟨_,⟨_,_,_,e,_⟩,_⟩:=x;exact Hb e
 | rng lo hi=>obtain ⟨_,_,_,e⟩:=x;exact Hb e
 | frz ob u=>obtain ⟨e,_⟩:=x;exact Hb e
 | tbl ps=>exact Hb (show h.get? a=some _ from x)
 | met f y=>exact Hb (show h.get? a=some _ from x)
 | ext φ => obtain ⟨_,⟨_,e⟩,_⟩:=x;exact Hb e
theorem Rp {α β:Type} {F G : α -> β -> Prop}:∀ {l₁:List α} {l₂:List β},HZ F l₁ l₂ -> (∀ a b,F a b->G a b)->HZ G l₁ l₂
 | _,_, .nil,_ => .nil
 | _,_, .cons r t,f => .cons (f _ _ r) (Rp t f)
theorem ObjOk.stay (x:ObjOk P w H h a o) (k:∀ b u,(b=a∨H b=some (.own a))->h.get? b=some u->h'.get? b=some u)
 (ho:∀ b,H b=some (.own a)->H' b=some (.own a)) (j:∀ b xs,H b=some (.tup xs)->H' b=some (.tup xs)):ObjOk P w H' h' a o:=by
 induction o with
 | lst xs=>obtain ⟨z,its,n,r,e⟩:=x;exact ⟨z,its,n,r,k _ _ (.inl rfl) e⟩
 | tup xs=>obtain ⟨z,its,r,ob,e,c⟩:=x;exact ⟨z,its,r,ob,k _ _ (.inl rfl) e,c⟩
 | dK kvs=>obtain ⟨z,y,vs,r,ob,es,ep,e,c⟩:=x;exact ⟨z,y,vs,r,ob,es,ep,k _ _ (.inl rfl) e,c⟩
 | dT kvs =>
   obtain ⟨z,y,xs,r,ob,es,ep,e,c⟩:=x;exact ⟨z,y,xs,Rp r fun p q z=>⟨z.1,j _ _ z.2.1,z.2.2⟩,ob,es,ep,k _ _ (.inl rfl) e,c⟩
 | set S n=>obtain ⟨ob,es,ep,t,e,c⟩:=x;exact ⟨ob,es,ep,t,k _ _ (.inl rfl) e,c⟩
 | ins C dx fs =>
   obtain ⟨d,z,ne,e,mA,⟨od,es,ep,e2,c⟩,r⟩:=x;exact ⟨ho _ d,z,ne,k _ _ (.inl rfl) e,mA,⟨od,es,ep,k _ _ (.inr d) e2,c⟩,r⟩
 | own y=>obtain ⟨ob,e⟩:=x;exact ⟨ob,k _ _ (.inl rfl) e⟩
 | xd fs=>obtain ⟨mA,⟨od,es,ep,e,c⟩,r⟩:=x;exact ⟨mA,⟨od,es,ep,k _ _ (.inl rfl) e,c⟩,r⟩
 | rng lo hi=>obtain ⟨t,u,v,e⟩:=x;exact ⟨t,u,v,k _ _ (.inl rfl) e⟩
 | frz ob u ih=>obtain ⟨e,q⟩:=x;exact ⟨k _ _ (.inl rfl) e,ih q⟩
 | tbl ps =>
   have e:h.get? a=some { cls := .none,data := .fields ps }:=x;show h'.get? a=some { cls := .none,data := .fields ps };exact k a _ (.inl rfl) e
 | met f y =>
   have e:h.get? a=some (Nk (.ref f) (.ref y)):=x;show h'.get? a=some (Nk (.ref f) (.ref y));exact k a _ (.inl rfl) e
 | ext φ => obtain ⟨p,⟨o,e⟩,st⟩:=x;exact ⟨st _ _ p fun o q=>k _ _ (.inl rfl) q,⟨o,k _ _ (.inl rfl) e⟩,st⟩
theorem HOk.lt (x:HOk P w H h) (e:H a=some o):a < h.objs.size:=(x a o e).lt
theorem HOk.fresh (x:HOk P w H h) (e:h.objs.size<=a):H a=none:=by
 cases q:H a with
 | none=>rfl
 | some u=>exact absurd (HI (x.lt q) e) (IT _)
theorem HOk.kept (x:HOk P w H h) (k:∀ b u,h.get? b=some u->h'.get? b=some u):HOk P w H h':=fun a o e =>
 (x a o e).stay (fun b u _ q=>k b u q) (fun _ q=>q) fun _ _ q=>q
theorem HOk.laid (x:HOk P w H h) (k:∀ b u,h.get? b=some u->h'.get? b=some u) (z:h.objs.size<=a) (new:ObjOk P w (upd H a o) h' a o):HOk P w (upd H a o) h':=fun b u e=>by
 have j:=x.fresh z
 by_cases hb:b=a
 ·subst hb;rw [aw] at e;cases e;exact new
 ·rw [ak hb] at e;exact (x b u e).stay (fun c v _ q=>k c v q) (fun c q=>by rw [ak (aV q j)];exact q) fun c xs q=>by rw [ak (aV q j)];exact q
end
def Rd (H:Hp) (a:Addr) (u:HO):Prop:=H a=some u ∨ ∃ o,H a=some (.frz o u)
theorem Rd.of {H:Hp} {a:Addr} {u:HO} (h:H a=some u):Rd H a u := .inl h
theorem Rd.ok {P:Hu} {w:HW} {H:Hp} {h:Heap} {a:Addr} {u:HO} (r:Rd H a u) (x:HOk P w H h):ObjOk P w H h a u:=by
 rcases r with r | ⟨o,r⟩
 ·exact x a u r
 ·obtain ⟨_,q⟩:=x a _ r;exact q
noncomputable def Mut:Option HO->Prop
 | some (.lst _)=>True
 | some (.dK _)=>True
 | some (.dT _)=>True
 | some (.set _ _)=>True
 | some (.ins _ _ _)=>True
 | some (.ext _)=>True
 | _=>False
section
variable {P:Hu} {w:HW} {H:Hp} {h h':Heap} {x e:Addr} {o':HO}
theorem HOk.write (ok:HOk P w H h) (mu:Mut (H x)) (he:e=x∨H e=some (.own x)) (k:∀ b u,b≠e->h.get? b=some u->h'.get? b=some u) (F:∃ u,h'.get? e=some u)
 (new:ObjOk P w (upd H x o') h' x o'):HOk P w (upd H x o') h':=fun b u q=>by
 have nown:∀ c y,H c=some (.own y)->c≠x:=fun c y r z=>by subst z;rw [r] at mu;exact mu
 have ntup:∀ c xs,H c=some (.tup xs)->c≠x:=fun c xs r z=>by subst z;rw [r] at mu;exact mu
 by_cases hb:b=x
 ·subst hb;rw [aw] at q;cases q;exact new
 ·rw [ak hb] at q
  by_cases j:b=e
  ·have q':H b=some (.own x):=by
    rcases he with z | z
    ·exact absurd (j.trans z) hb
    ·rw [j];exact z
   rw [q] at q';cases q';obtain ⟨v,G⟩:=F;exact ⟨v,by rw [j];exact G⟩
  ·refine (ok b u q).stay (fun c v B r=>k c v ?_ r) (fun c r=>by rw [ak (nown c b r)];exact r) fun c xs r=>by rw [ak (ntup c xs r)];exact r
   rcases B with rfl | B
   ·exact j
   ·rintro rfl
    rcases he with z | z
    ·exact nown c b B z
    ·rw [B] at z;cases z;exact hb rfl
end
structure Un (fs ex:List Addr) (H H':Hp) (h h':Heap):Prop where
 keep:∀ b o,h.get? b=some o->H b=none->b∉fs->b∉ex->h'.get? b=some o
 slot:∀ b o,h.get? b=some o->H b=none->b∈fs->b∉ex -> ∃ sl,h'.get? b=some { o with slots:=sl }
 free:∀ b o,h.get? b=some o->H b=none->b∉ex->H' b=none
 there:∀ b o,h.get? b=some o->b∉ex -> ∃ o',h'.get? b=some o'
 tups:∀ b xs,H b=some (.tup xs)->H' b=some (.tup xs)
 frzs:∀ b o u,H b=some (.frz o u)->H' b=some (.frz o u)
 tbls:∀ b ps,H b=some (.tbl ps) -> ∃ more,H' b=some (.tbl (ps++more))
section
variable {fs fs' ex ex':List Addr} {H H1 H2:Hp} {h h1 h2 h':Heap} {a x e:Addr} {o:HO}
theorem Un.any (u:Un fs ex H H1 h h1) {b:Addr} {ob:Obj} (q:h.get? b=some ob) (n:H b=none) (hx:b∉ex):∃ sl,h1.get? b=some { ob with slots:=sl }:=by
 by_cases j:b∈fs
 ·exact u.slot b ob q n j hx
 ·exact ⟨ob.slots,u.keep b ob q n j hx⟩
theorem Un.kept (k:∀ b u,h.get? b=some u->h'.get? b=some u):Un fs ex H H h h' :=
 ⟨fun b ob q _ _ _=>k b ob q,fun b ob q _ _ _=>⟨ob.slots,k b ob q⟩,fun _ _ _ n _=>n,fun b ob q _=>⟨ob,k b ob q⟩,fun _ _ q=>q,fun _ _ _ q=>q,fun _ ps q=>⟨#[],by rw [q];simp⟩⟩
theorem Un.refl:Un fs ex H H h h:=Un.kept fun _ _ q=>q
theorem Un.laid (k:∀ b u,h.get? b=some u->h'.get? b=some u) (z:h.objs.size<=a) (j:H a=none):Un fs ex H (upd H a o) h h' where
 keep:=fun b u q _ _ _=>k b u q
 slot:=fun b u q _ _ _=>⟨u.slots,k b u q⟩
 free:=fun b u q n _=>by rw [ak (HQ (HI (Hb q) z))];exact n
 there:=fun b u q _=>⟨u,k b u q⟩
 tups:=fun b xs q=>by rw [ak (aV q j)];exact q
 frzs:=fun b u xs q=>by rw [ak (aV q j)];exact q
 tbls:=fun b ps q=>⟨#[],by rw [ak (aV q j),q];simp⟩
theorem Un.write (mu:Mut (H x)) (he:e=x∨H e=some (.own x)) (k:∀ b u,b≠e->h.get? b=some u->h'.get? b=some u) (B:∃ u,h'.get? e=some u):Un fs ex H (upd H x o) h h':=by
 have hx:∀ b,H b=none->b≠x:=fun b n z=>by subst z;rw [n] at mu;exact mu
 have F:∀ b,H b=none->b≠e:=fun b n z=>by
  subst z
  rcases he with r | r
  ·exact hx b n r
  ·rw [n] at r;cases r
 have hm:∀ b u,H b=some u -> ¬ Mut (some u)->b≠x:=fun b u q nm z=>by subst z;rw [q] at mu;exact nm mu
 refine ⟨fun b u q n _ _=>k b u (F b n) q,fun b u q n _ _=>⟨u.slots,k b u (F b n) q⟩,fun b u q n _=>by rw [ak (hx b n)];exact n,fun b u q _ => ?_,
  fun b xs q=>by rw [ak (hm b _ q fun z=>z)];exact q,fun b u xs q=>by rw [ak (hm b _ q fun z=>z)];exact q,fun b ps q=>⟨#[],by rw [ak (hm b _ q fun z=>z),q];simp⟩⟩
 by_cases j:b=e
 ·subst j;exact B
 ·exact ⟨u,k b u j q⟩
end
noncomputable def trk (h:Heap) (H:Hp):List Addr:=(Hi h.objs.size).filter fun a=>(H a).isSome
noncomputable def fh (h:Heap) (H:Hp):Heap:=PySem.W.hideAll h (trk h H)
theorem tY (h:Heap) (H:Hp):(fh h H).objs.size=h.objs.size:=PySem.W.hideAll_size _ _
theorem wD {h:Heap} {H:Hp} {b:Addr} {o:Obj} (e:h.get? b=some o) (n:H b=none):(fh h H).get? b=some o :=
 PySem.W.hideAll_get _ e fun hm=>by
  have q:(H b).isSome=true:=(Lc.mp hm).2;rw [n] at q;simp at q
theorem zF {h:Heap} {H:Hp} {b:Addr} {o:Obj} (e:(fh h H).get? b=some o):h.get? b=some o/\H b=none:=by
 have e':h.get? b=some o:=PySem.W.of_hideAll (trk h H) e;refine ⟨e', ?_⟩
 cases q:H b with
 | none=>rfl
 | some x =>
   have hm:b∈trk h H:=Lc.mpr ⟨HG.mpr (Hb e'),by simp [q]⟩
   have z:(fh h H).get? b=none:=PySem.W.hideAll_none (trk h H) hm;rw [z] at e;cases e
noncomputable def zG (g h:Heap) (L:Addr):List (Addr×Obj):=(Hi h.objs.size).filterMap fun a=>if a=L∨(g.get? a).isSome=true then none else (h.get? a).map fun o=>(a,o)
noncomputable def rest (g h:Heap) (L d:Addr):List (Addr×Obj):=(zG g h L).filter fun p=>decide (p.1≠d)
end
section
structure Mod (K:Frag) (mg:Str->Option h7) (base:Heap):Prop where
 kin:K.In base
 glob:base.Ns IZ mg
 blt:∃ mb,base.Ns QR mb /\ ∀ x:Str,x ≠ "__name__" -> mb x=JE x
 nolimit:base.NoLimit
structure Cx where
 prog:Hu
 w:HW
 K:Frag
 mg:Str->Option h7
 base:Heap
 A:Ib
 N:List Str
 s₀:D0
 H₀:Hp
 env:Env
 outer:List Env
 stack:List Env
 ex:List Addr
 fn:Str->Bool
 calm:Bool
 pn:List (Addr×Obj)
 xe:h7->D0->Prop
noncomputable def frs (l:List Env):List Addr:=l.filterMap (·.frame)
noncomputable abbrev Cx.fs (X:Cx):List Addr:=frs X.outer
def Vis (sc:Scope) (x:Str):Prop:=sc.names.lookup x=some .local∨sc.names.lookup x=some .cell∨sc.names.lookup x=some .free
def Loc (sc:Scope) (x:Str):Prop:=sc.names.lookup x=some .local∨sc.names.lookup x=some .cell
def Eb (env:Env) (h:Heap) (m:Str->Option h7) (x:Str) (u:h7):Prop :=
 (env.kindOf x=some .local/\m x=some u)∨((env.kindOf x=some .cell∨env.kindOf x=some .free) /\ ∃ c,env.cells.lookup x=some c/\h.IsCell c (some u))
structure Cx.Ok (X:Cx):Prop where
 mod:Mod X.K X.mg X.base
 kind:X.env.scope.kind = .function
 glob:X.env.globals=IZ
 blt:X.env.builtins=QR
 above:X.s₀.heap.objs.size<=X.env.locals
 inj:∀ x y c,X.env.cells.lookup x=some c->X.env.cells.lookup y=some c->x=y
 has:∀ x,(X.env.kindOf x=some .cell∨X.env.kindOf x=some .free) -> ∃ c,X.env.cells.lookup x=some c
 cab:∀ x c,X.fn x=true->X.env.cells.lookup x=some c->X.s₀.heap.objs.size<=c
 hd:X.calm=true->X.A.handled=none
 frames:X.A.frames=some X.stack
 stk:X.stack=X.outer∨(X.stack=X.env::X.outer/\X.env.frame=some X.env.locals)
 exf:∀ b∈X.ex,b≠X.env.locals /\ ∀ x c,X.env.cells.lookup x=some c->c≠b
 bs:∀ b o,X.base.get? b=some o->X.s₀.heap.get? b=some o/\X.H₀ b=none
 bsz:X.base.objs.size<=X.s₀.heap.objs.size
 noex:∀ b o,X.base.get? b=some o->b∉X.ex
 exfs:∀ b∈X.ex,b∉X.fs
 funs:X.s₀.heap.FunFrames X.base X.outer
 frf:∀ b∈X.fs,X.H₀ b=none
structure Inv (X:Cx) (pins:List (Addr×Obj)) (σ:List (Option V)) (H:Hp) (s:D0):Prop where
 ok:X.Ok
 os:s.os=X.s₀.os
 bare:Nl s.gens
 base:Un X.fs X.ex X.H₀ H X.s₀.heap s.heap
 loc:∃ m,s.heap.Ns X.env.locals m /\ ∀ (i:Nat) (x:Str) (v:V),X.N[i]? = some x -> σ[i]? = some (some v)->Vis X.env.scope x -> ∃ u,RelV v u/\Eb X.env s.heap m x u
 cell:∀ x c,X.env.cells.lookup x=some c -> ∃ v,s.heap.IsCell c v
 free:H X.env.locals=none
 freeC:∀ x c,X.env.cells.lookup x=some c->H c=none
 pin:∀ p∈X.pn++pins,s.heap.get? p.1=some p.2/\H p.1=none/\p.1≠X.env.locals/\p.1∉X.fs /\ ∀ v,p.2.data ≠ .cell v
 hok:HOk X.prog X.w H s.heap
 len : σ.length=X.N.length
section
variable {X:Cx} {pins:List (Addr×Obj)} {σ:List (Option V)} {H H':Hp} {s:D0} {h':Heap}
theorem Cx.Ok.nofr (ok:X.Ok) {b:Addr} {o:Obj} (e:X.base.get? b=some o):b∉X.fs:=fun j=>by
 have:=(ok.funs.mem j).1;rw [e] at this;cases this
theorem Inv.bs (I:Inv X pins σ H s):∀ b o,X.base.get? b=some o->s.heap.get? b=some o/\H b=none:=fun b o e =>
 ⟨I.base.keep b o (I.ok.bs b o e).1 (I.ok.bs b o e).2 (I.ok.nofr e) (I.ok.noex b o e),I.base.free b o (I.ok.bs b o e).1 (I.ok.bs b o e).2 (I.ok.noex b o e)⟩
theorem Inv.bk (I:Inv X pins σ H s):∀ b o,X.base.get? b=some o->s.heap.get? b=some o:=fun b o e=>(I.bs b o e).1
theorem Inv.mod (I:Inv X pins σ H s):Mod X.K X.mg X.base:=I.ok.mod
theorem Inv.kIn (I:Inv X pins σ H s):X.K.In s.heap:=I.ok.mod.kin.keeps I.bk
theorem Inv.lt (I:Inv X pins σ H s):X.env.locals < s.heap.objs.size:=let ⟨_,j,_⟩:=I.loc;j.lt
theorem Inv.sz (I:Inv X pins σ H s):X.s₀.heap.objs.size<=s.heap.objs.size:=IV I.ok.above (KO I.lt)
theorem Inv.nofs (I:Inv X pins σ H s) {a:Addr} (h:s.heap.objs.size<=a):a∉X.fs:=fun j=>by
 obtain ⟨_,o,ho,_⟩:=I.ok.funs.mem j;exact absurd (HI (Hb ho) (IV I.sz h)) (IT _)
theorem Inv.cne (I:Inv X pins σ H s):∀ x c,X.env.cells.lookup x=some c->c≠X.env.locals:=fun x c e z=>by
 obtain ⟨v,o,ho,hd⟩:=I.cell x c e;obtain ⟨m,⟨o',es,ep,j,q,_⟩,_⟩:=I.loc;rw [z,j] at ho;cases ho;rw [q] at hd;cases hd
theorem Inv.funs (I:Inv X pins σ H s):s.heap.FunFrames X.base X.outer:=by
 have all:∀ (l:List Env),(∀ b∈frs l,b∈X.fs)->X.s₀.heap.FunFrames X.base l->s.heap.FunFrames X.base l:=by
  intro l
  induction l with
  | nil=>intro _ _;trivial
  | cons env r ih =>
    intro hs B;obtain ⟨F,⟨L,o,hf,G,ho,hd⟩,J⟩:=B;have j:L∈X.fs:=hs L (by unfold frs;rw [Mx,hf];exact Ir)
    obtain ⟨sl,e⟩:=I.base.slot L o ho (I.ok.frf L j) j fun z=>I.ok.exfs L z j;exact ⟨F,⟨L,_,hf,G,e,hd⟩,ih (fun b q=>hs b (by unfold frs;rw [Mx,hf];exact HE _ q)) J⟩
 exact all X.outer (fun _ q=>q) I.ok.funs
theorem Inv.stack (I:Inv X pins σ H s):s.heap.FunFrames X.base X.stack:=by
 rcases I.ok.stk with e | ⟨e,hf⟩
 ·rw [e];exact I.funs
 ·rw [e];obtain ⟨m,j,_⟩:=I.loc;refine .cons (by rw [I.ok.kind];decide) hf j ?_ I.funs
  exact Heap.get?_none_of_le (IV I.ok.bsz I.ok.above)
theorem Inv.stkSub (I:Inv X pins σ H s):∀ b∈frs X.stack,b∈X.env.locals::X.fs:=fun b j=>by
 rcases I.ok.stk with e | ⟨e,hf⟩
 ·rw [e] at j;exact HE _ j
 ·rw [e] at j;unfold frs at j;rw [Mx,hf] at j;exact j
theorem Inv.stkFree (I:Inv X pins σ H s):∀ b∈frs X.stack,H b=none:=fun b j=>by
 rcases Ha.mp (I.stkSub b j) with e | j
 ·rw [e];exact I.free
 ·obtain ⟨_,o,ho,_⟩:=I.ok.funs.mem j;exact I.base.free b o ho (I.ok.frf b j) fun z=>I.ok.exfs b z j
theorem Inv.step {g':Array GenState} {t':Nat} {d':Drawn} {ch:List Addr} (I:Inv X pins σ H s)
 (j:∀ b∈ch,(b∈X.ex∨X.s₀.heap.objs.size<=b)/\b≠X.env.locals/\(∀ x c,X.env.cells.lookup x=some c->c≠b) /\ ∀ p∈X.pn++pins,p.1≠b)
 (keep:∀ b o,b≠X.env.locals->b∉X.fs->b∉ch->s.heap.get? b=some o->H b=none->h'.get? b=some o)
 (slot:∀ b o,b≠X.env.locals->b∈X.fs->b∉ch->s.heap.get? b=some o->H b=none -> ∃ sl,h'.get? b=some { o with slots:=sl }) (free:∀ b o,b∉ch->s.heap.get? b=some o->H b=none->H' b=none)
 (there:∀ b o,b∉ch->s.heap.get? b=some o -> ∃ o',h'.get? b=some o')
 (tups:∀ b xs,H b=some (.tup xs)->H' b=some (.tup xs)) (frzs:∀ b o u,H b=some (.frz o u)->H' b=some (.frz o u)) (tbls:∀ b ps,H b=some (.tbl ps) -> ∃ more,H' b=some (.tbl (ps++more)))
 (ns:∀ m,s.heap.Ns X.env.locals m->h'.Ns X.env.locals m) (hok:HOk X.prog X.w H' h') (J:Nl g') :
 Inv X pins σ H' { s with heap:=h',gens:=g',drawn:=d',toks:=t' }:=by
 have neL:∀ b o,X.s₀.heap.get? b=some o->b≠X.env.locals:=fun b o e=>HQ (HI (Hb e) I.ok.above);have neC:∀ b o,X.s₀.heap.get? b=some o->b∉X.ex->b∉ch:=fun b o e hx B=>by
  rcases (j b B).1 with z | z
  ·exact hx z
  ·exact absurd (HI (Hb e) z) (IT _)
 have cellK:∀ x c,X.env.cells.lookup x=some c -> ∀ v,s.heap.IsCell c v->h'.IsCell c v:=fun x c e v ⟨o,ho,hd⟩=>by
  have nch:c∉ch:=fun z=>(j c z).2.2.1 x c e rfl
  by_cases F:c∈X.fs
  ·obtain ⟨sl,q⟩:=slot c o (I.cne x c e) F nch ho (I.freeC x c e);exact ⟨_,q,hd⟩
  ·exact ⟨o,keep c o (I.cne x c e) F nch ho (I.freeC x c e),hd⟩
 refine ⟨I.ok,I.os,J,⟨fun b o e n B hx => ?_,fun b o e n B hx => ?_,fun b o e n hx => ?_,fun b o e hx => ?_,fun b xs e=>tups b xs (I.base.tups b xs e),fun b o xs e=>frzs b o xs (I.base.frzs b o xs e),fun b ps e => ?_⟩, ?_,fun x c e => ?_, ?_,fun x c e => ?_,fun p G => ?_,hok,I.len⟩
 ·exact keep b o (neL b o e) B (neC b o e hx) (I.base.keep b o e n B hx) (I.base.free b o e n hx)
 ·obtain ⟨sl,e1⟩:=I.base.slot b o e n B hx;obtain ⟨sl',e2⟩:=slot b _ (neL b o e) B (neC b o e hx) e1 (I.base.free b o e n hx);exact ⟨sl',e2⟩
 ·obtain ⟨o',e1⟩:=I.base.there b o e hx;exact free b o' (neC b o e hx) e1 (I.base.free b o e n hx)
 ·obtain ⟨o',e1⟩:=I.base.there b o e hx;exact there b o' (neC b o e hx) e1
 ·obtain ⟨L,e1⟩:=I.base.tbls b ps e;obtain ⟨O,e2⟩:=tbls b _ e1;exact ⟨L++O,by rw [e2,Array.append_assoc]⟩
 ·obtain ⟨m,U,Y⟩:=I.loc;refine ⟨m,ns m U,fun i x v e1 e2 Z => ?_⟩;obtain ⟨u,r,l⟩:=Y i x v e1 e2 Z;refine ⟨u,r, ?_⟩
  rcases l with l | ⟨k,c,e,z⟩
  ·exact .inl l
  ·exact .inr ⟨k,c,e,cellK x c e _ z⟩
 ·obtain ⟨v,z⟩:=I.cell x c e;exact ⟨v,cellK x c e v z⟩
 ·obtain ⟨m,⟨o,_,_,ho,_⟩,_⟩:=I.loc;exact free _ o (fun z=>(j _ z).2.1 rfl) ho I.free
 ·obtain ⟨v,o,ho,hd⟩:=I.cell x c e;exact free c o (fun z=>(j c z).2.2.1 x c e rfl) ho (I.freeC x c e)
 ·obtain ⟨e,n,ne,nf,d⟩:=I.pin p G;have nch:p.1∉ch:=fun z=>(j p.1 z).2.2.2 p G rfl;exact ⟨keep p.1 p.2 ne nf nch e n,free p.1 p.2 nch e n,ne,nf,d⟩
theorem Inv.un {t':Nat} (I:Inv X pins σ H s) (u:Un X.fs [] H H' s.heap h') (hok:HOk X.prog X.w H' h'):Inv X pins σ H' { s with heap:=h',toks:=t' }:=by
 obtain ⟨m,⟨o,es,ep,ho,r⟩,_⟩:=id I.loc;obtain ⟨sl,B⟩:=u.any ho I.free (by simp)
 exact I.step (g':=s.gens) (d':=s.drawn) (ch := []) (fun _ z=>nomatch z) (fun b o _ q _ e n=>u.keep b o e n q (by simp)) (fun b o _ q _ e n=>u.slot b o e n q (by simp)) (fun b o _ e n=>u.free b o e n (by simp)) (fun b o _ e=>u.there b o e (by simp)) u.tups u.frzs u.tbls (fun m' hm=>by
  obtain ⟨o',es',ep',j,r'⟩:=hm;rw [ho] at j;cases j;exact ⟨_,es',ep',B,r'⟩) hok I.bare
theorem Inv.call {g':Array GenState} {t':Nat} {d':Drawn} {ch:List Addr} (I:Inv X pins σ H s) (u:Un (frs X.stack) ch H H' s.heap h') (hok:HOk X.prog X.w H' h') (G:Nl g')
 (q:∀ b∈ch,(b∈X.ex∨X.s₀.heap.objs.size<=b)/\b≠X.env.locals/\(∀ x c,X.env.cells.lookup x=some c->c≠b) /\ ∀ p∈X.pn++pins,p.1≠b) :
 Inv X pins σ H' { s with heap:=h',gens:=g',drawn:=d',toks:=t' }:=by
 obtain ⟨m,⟨o,es,ep,ho,r⟩,_⟩:=id I.loc;obtain ⟨sl,F⟩:=u.any ho I.free fun z=>(q _ z).2.1 rfl;exact I.step (ch:=ch) q (fun b o F J j e n=>u.keep b o e n (fun z=>(Ha.mp (I.stkSub b z)).elim F J) j) (fun b o _ _ j e n=>u.any e n j) (fun b o j e n=>u.free b o e n j) (fun b o j e=>u.there b o e j) u.tups u.frzs u.tbls (fun m' hm=>by
  obtain ⟨o',es',ep',B,r'⟩:=hm;rw [ho] at B;cases B;exact ⟨_,es',ep',F,r'⟩) hok G
theorem Inv.turned {t':Nat} {it:Addr} (I:Inv X pins σ H s) (k:∀ b o,b≠it->s.heap.get? b=some o->h'.get? b=some o) (F:H it=none) (B:it≠X.env.locals)
 (h1:it∈X.ex∨X.s₀.heap.objs.size<=it) (h2:∀ x c,X.env.cells.lookup x=some c->c≠it) (G:∀ p∈X.pn++pins,p.1≠it):Inv X pins σ H { s with heap:=h',toks:=t' }:=by
 have nit:∀ b u,H b=some u->b≠it:=fun b u e z=>by rw [z,F] at e;cases e
 refine I.step (g':=s.gens) (d':=s.drawn) (ch := [it]) (fun b J => ?_) (fun b o _ _ j e _=>k b o (fun z=>j (by simp [z])) e) (fun b o _ _ j e _=>⟨o.slots,k b o (fun z=>j (by simp [z])) e⟩) (fun _ _ _ _ n=>n)
  (fun b o j e=>⟨o,k b o (fun z=>j (by simp [z])) e⟩) (fun _ _ e=>e) (fun _ _ _ e=>e) (fun b ps e=>⟨#[],by rw [e];simp⟩) (fun m hm => ?_) (fun b u e => ?_) I.bare
 ·have e:b=it:=by simpa using J
  subst e;exact ⟨h1,B,h2,G⟩
 ·obtain ⟨o,es,ep,ho,r⟩:=hm;exact ⟨o,es,ep,k _ o (Ne.symm B) ho,r⟩
 ·refine (I.hok b u e).stay (fun c v j q=>k c v ?_ q) (fun _ q=>q) fun _ _ q=>q
  rcases j with z | z
  ·rw [z];exact nit b u e
  ·exact nit c _ z
theorem Inv.tok (I:Inv X pins σ H s) (t:Nat):Inv X pins σ H { s with toks:=t }:=I.un (h':=s.heap) (t':=t) Un.refl I.hok
theorem Inv.kept {t':Nat} (I:Inv X pins σ H s) (k:∀ b u,s.heap.get? b=some u->h'.get? b=some u):Inv X pins σ H { s with heap:=h',toks:=t' }:=I.un (Un.kept k) (I.hok.kept k)
theorem Inv.laid {a:Addr} {o:HO} {t':Nat} (I:Inv X pins σ H s) (k:∀ b u,s.heap.get? b=some u->h'.get? b=some u) (j:s.heap.objs.size<=a) (new:ObjOk X.prog X.w (upd H a o) h' a o) :
 Inv X pins σ (upd H a o) { s with heap:=h',toks:=t' }:=I.un (Un.laid k j (I.hok.fresh j)) (I.hok.laid k j new)
theorem Inv.write {x e:Addr} {o:HO} {t':Nat} (I:Inv X pins σ H s) (mu:Mut (H x)) (he:e=x∨H e=some (.own x)) (k:∀ b u,b≠e->s.heap.get? b=some u->h'.get? b=some u) (j:∃ u,h'.get? e=some u)
 (new:ObjOk X.prog X.w (upd H x o) h' x o):Inv X pins σ (upd H x o) { s with heap:=h',toks:=t' }:=I.un (Un.write mu he k j) (I.hok.write mu he k j new)
theorem Inv.pins_of {pins':List (Addr×Obj)} (I:Inv X pins σ H s) (h:∀ p∈pins',s.heap.get? p.1=some p.2/\H p.1=none/\p.1≠X.env.locals/\p.1∉X.fs /\ ∀ v,p.2.data ≠ .cell v):Inv X pins' σ H s :=
 ⟨I.ok,I.os,I.bare,I.base,I.loc,I.cell,I.free,I.freeC,fun p j=>(Hj.mp j).elim (fun z=>I.pin p (Im _ z)) (h p),I.hok,I.len⟩
theorem mV {N:List Str} (q:N.Nodup) {i j:Nat} {x:Str} (a:N[i]? = some x) (b:N[j]? = some x):i=j:=by
 obtain ⟨h1,e1⟩:=Ho.mp a;obtain ⟨h2,e2⟩:=Ho.mp b;exact (List.getElem_inj q).mp (e1.trans e2.symm)
theorem tZ {M:LO} {A:Ib} {E:h7->D0->Prop} {i:Nat} {x:Str} {v:V} {u:h7} {Q:Unit->D0->Prop} (I:Inv X pins σ H s) (hN:X.N.Nodup) (hi:X.N[i]? = some x) (hx:Loc X.env.scope x) (r:RelV v u)
 (h:∀ s',Inv X pins (σ.set i (some v)) H s'->(∃ a,IJ a s.heap s'.heap/\(a=X.env.locals∨X.env.cells.lookup x=some a))->Q () s') (hf:X.fn x=true∨X.env.scope.names.lookup x=some .local:=by first | exact .inl rfl | exact .inr rfl | assumption):Hd M A (storeName X.env x u) Q E s:=by
 obtain ⟨m,hn,hl⟩:=id I.loc;have U:(X.env.scope.kind == .class || (X.env.scope.kind == .module&&X.env.locals != X.env.globals))=false:=by rw [I.ok.kind];rfl
 have Y:i < σ.length:=by rw [I.len];exact (Ho.mp hi).1
 have cne:=I.cne;have tracked:∀ {a:Addr} {h':Heap},(∃ o,s.heap.get? a=some o/\H a=none)->IJ a s.heap h'->HOk X.prog X.w H h':=fun {a h'} ha hs b ob e=>by
  obtain ⟨_,_,F⟩:=ha;refine (I.hok b ob e).stay (fun c w' B q=>(hs.2 c ?_).trans q) (fun _ q=>q) fun _ _ q=>q;rintro rfl
  rcases B with rfl | B
  ·rw [F] at e;cases e
  ·rw [F] at B;cases B
 rcases hx with G | G
 ·refine wpAny_storeName_local G hn (fun h' EM hs => ?_) U;obtain ⟨oL,_,_,EN,_⟩:=id hn;refine h _ ⟨I.ok,I.os,I.bare,⟨fun b o e n J hx => ?_,fun b o e n J hx => ?_,I.base.free,fun b o e hx => ?_,I.base.tups,I.base.frzs,I.base.tbls⟩,⟨_,EM,fun j y v' e1 e2 e3 => ?_⟩,fun y c e => ?_,I.free,I.freeC,fun p hp => ?_,tracked ⟨oL,EN,I.free⟩ hs,by simpa using I.len⟩ ⟨_,hs, .inl rfl⟩
  ·exact (hs.2 b (HQ (HI (Hb e) I.ok.above))).trans (I.base.keep b o e n J hx)
  ·obtain ⟨sl,e1⟩:=I.base.slot b o e n J hx;exact ⟨sl,(hs.2 b (HQ (HI (Hb e) I.ok.above))).trans e1⟩
  ·obtain ⟨o',e1⟩:=I.base.there b o e hx;exact ⟨o',(hs.2 b (HQ (HI (Hb e) I.ok.above))).trans e1⟩
  ·by_cases L:j=i
   ·subst L;rw [hi] at e1;cases e1;rw [Kf Y] at e2
    cases e2
    exact ⟨u,r, .inl ⟨G,by simp⟩⟩
   ·rw [Mk (Ne.symm L)] at e2;obtain ⟨u',r',q⟩:=hl j y v' e1 e2 e3;refine ⟨u',r', ?_⟩
    rcases q with ⟨k,e⟩ | ⟨k,c,e,z⟩
    ·refine .inl ⟨k, ?_⟩;have:y≠x:=fun e=>L (mV hN e1 (e ▸ hi));simp [this,e]
    ·exact .inr ⟨k,c,e,z.sameBut hs (cne y c e)⟩
  ·obtain ⟨w',z⟩:=I.cell y c e;exact ⟨w',z.sameBut hs (cne y c e)⟩
  ·obtain ⟨e,n,ne,nf,d⟩:=I.pin p hp;exact ⟨(hs.2 p.1 ne).trans e,n,ne,nf,d⟩
 ·have O:X.fn x=true:=by
   rcases hf with z | z
   ·exact z
   ·rw [z] at G;cases G
  obtain ⟨c,B⟩:=I.ok.has x (.inl G);obtain ⟨w',z⟩:=I.cell x c B;refine wpAny_storeName_cell I.ok.kind G B z (fun h' Z hs => ?_);obtain ⟨oc,EJ,EK⟩:=id z;refine h { s with heap:=h' } ⟨I.ok,I.os,I.bare,⟨fun b o e n J hx => ?_,fun b o e n J hx => ?_,I.base.free,fun b o e hx => ?_,I.base.tups,I.base.frzs,I.base.tbls⟩,⟨m,hn.sameBut hs (Ne.symm (cne x c B)),fun j y v' e1 e2 e3 => ?_⟩,fun y c' e => ?_,I.free,I.freeC,fun p hp => ?_,tracked ⟨oc,EJ,I.freeC x c B⟩ hs,by simpa using I.len⟩ ⟨c,hs, .inr B⟩
  ·exact (hs.2 b (HQ (HI (Hb e) (I.ok.cab x c O B)))).trans (I.base.keep b o e n J hx)
  ·obtain ⟨sl,e1⟩:=I.base.slot b o e n J hx;exact ⟨sl,(hs.2 b (HQ (HI (Hb e) (I.ok.cab x c O B)))).trans e1⟩
  ·obtain ⟨o',e1⟩:=I.base.there b o e hx;exact ⟨o',(hs.2 b (HQ (HI (Hb e) (I.ok.cab x c O B)))).trans e1⟩
  ·by_cases L:j=i
   ·subst L;rw [hi] at e1;cases e1;rw [Kf Y] at e2
    cases e2
    exact ⟨u,r, .inr ⟨.inl G,c,B,Z⟩⟩
   ·rw [Mk (Ne.symm L)] at e2;obtain ⟨u',r',q⟩:=hl j y v' e1 e2 e3;refine ⟨u',r', ?_⟩
    rcases q with q | ⟨k,c',e,z'⟩
    ·exact .inl q
    ·refine .inr ⟨k,c',e,z'.sameBut hs ?_⟩;rintro rfl;exact L (mV hN e1 (I.ok.inj _ _ _ e B ▸ hi))
  ·by_cases EL:c'=c
   ·subst EL;exact ⟨_,Z⟩
   ·obtain ⟨w2,z2⟩:=I.cell y c' e;exact ⟨w2,z2.sameBut hs EL⟩
  ·obtain ⟨e,n,ne,nf,d⟩:=I.pin p hp;refine ⟨(hs.2 p.1 ?_).trans e,n,ne,nf,d⟩;intro q;rw [q,EJ] at e;have q':oc=p.2:=Jo.inj e;exact d w' (by rw [<- q'];exact EK)
theorem fj {M:LO} {A:Ib} {E:h7->D0->Prop} {i:Nat} {x:Str} {v:V} {u:h7} {Q:Unit->D0->Prop} (I:Inv X pins σ H s) (j:X.N.Nodup) (hi:X.N[i]? = some x) (hx:Loc X.env.scope x) (r:RelV v u)
 (h:∀ s',Inv X pins (σ.set i (some v)) H s'->Q () s') (hf:X.fn x=true∨X.env.scope.names.lookup x=some .local:=by first | exact .inl rfl | exact .inr rfl | assumption):Hd M A (storeName X.env x u) Q E s :=
 tZ I j hi hx r (fun s' I' _=>h s' I') hf
theorem Inv.call' {s':D0} {ch:List Addr} (I:Inv X pins σ H s) (ho:s'.os=s.os) (u:Un (frs X.stack) ch H H' s.heap s'.heap) (hok:HOk X.prog X.w H' s'.heap) (q:Nl s'.gens)
 (j:∀ b∈ch,(b∈X.ex∨X.s₀.heap.objs.size<=b)/\b≠X.env.locals/\(∀ x c,X.env.cells.lookup x=some c->c≠b) /\ ∀ p∈X.pn++pins,p.1≠b):Inv X pins σ H' s':=by
 obtain ⟨h',g',d',t',o'⟩:=s';have e:o'=s.os:=ho;subst e;exact I.call (g':=g') (t':=t') (d':=d') u hok q j
end
noncomputable abbrev XK:=h7->Option Addr->Hp->Prop
noncomputable abbrev St:=List (Option V)
noncomputable abbrev VK:=V->Hp->Prop
noncomputable abbrev TE:=St->Hp->VK->Prop
noncomputable abbrev TT:=St->Hp->(Bool->Hp->Prop)->Prop
noncomputable abbrev TA:=St->Hp->(List V->Hp->Prop)->Prop
structure bC where
 nx:St->Hp->Prop
 rt:VK
 bk:St->Hp->Prop:=fun _ _=>False
 ct:St->Hp->Prop:=fun _ _=>False
noncomputable abbrev TS:=bC->St->Hp->Prop
def EP (X:Cx) (pins:List (Addr×Obj)) (σ:St) (Q:VK) (u:h7) (s':D0):Prop := ∃ v H',Inv X pins σ H' s'/\RelV v u/\Q v H'
def TP (X:Cx) (pins:List (Addr×Obj)) (σ:St) (Q:Bool->Hp->Prop) (b:Bool) (s':D0):Prop := ∃ H',Inv X pins σ H' s'/\Q b H'
def AP (X:Cx) (pins:List (Addr×Obj)) (σ:St) (Q:List V->Hp->Prop) (us:List h7) (s':D0):Prop := ∃ vs H',Inv X pins σ H' s'/\Vals vs us/\Q vs H'
def SP (X:Cx) (pins:List (Addr×Obj)) (D:bC) (f:Flow) (s':D0):Prop :=
 match f with
 | .next => ∃ σ' H',Inv X pins σ' H' s'/\D.nx σ' H'
 | .brk => ∃ σ' H',Inv X pins σ' H' s'/\D.bk σ' H'
 | .cont => ∃ σ' H',Inv X pins σ' H' s'/\D.ct σ' H'
 | .ret u => ∃ v σ' H',Inv X pins σ' H' s'/\RelV v u/\D.rt v H'
def PE (X:Cx) (e:Expr) (t:TE):Prop :=
 ∀ (pins:List (Addr×Obj)) (s:D0) (σ:St) (H:Hp) (Q:VK),Inv X pins σ H s->t σ H Q->Hd (model X.prog X.w) X.A (eval e X.env) (EP X pins σ Q) X.xe s
def PT (X:Cx) (e:Expr) (t:TT):Prop :=
 ∀ (pins:List (Addr×Obj)) (s:D0) (σ:St) (H:Hp) (Q:Bool->Hp->Prop),Inv X pins σ H s->t σ H Q->Hd (model X.prog X.w) X.A (isTrue e X.env (eval e X.env)) (TP X pins σ Q) X.xe s
def PW (X:Cx) (e:Expr) (t:TT):Prop :=
 ∀ (whole:Sem h7) (pins:List (Addr×Obj)) (s:D0) (σ:St) (H:Hp) (Q:Bool->Hp->Prop),Inv X pins σ H s->t σ H Q->Hd (model X.prog X.w) X.A (isTrue e X.env whole) (TP X pins σ Q) X.xe s
theorem PW.pt {X:Cx} {e:Expr} {t:TT} (h:PW X e t):PT X e t:=h _
def PA (X:Cx) (es:List Expr) (t:TA):Prop :=
 ∀ (pos:Pos) (pins:List (Addr×Obj)) (s:D0) (σ:St) (H:Hp) (Q:List V->Hp->Prop),Inv X pins σ H s->t σ H Q->Hd (model X.prog X.w) X.A (spliced (L3 pos (Hv es X.env))) (AP X pins σ Q) X.xe s
def PS (X:Cx) (st:Stmt) (t:TS):Prop :=
 ∀ (pins:List (Addr×Obj)) (s:D0) (σ:St) (H:Hp) (D:bC),Inv X pins σ H s->t D σ H->Hd (model X.prog X.w) X.A (exec st X.env) (SP X pins D) X.xe s
def PSs (X:Cx) (st:List Stmt) (t:TS):Prop :=
 ∀ (pins:List (Addr×Obj)) (s:D0) (σ:St) (H:Hp) (D:bC),Inv X pins σ H s->t D σ H->Hd (model X.prog X.w) X.A (execs st X.env) (SP X pins D) X.xe s
theorem thn {α:Type} {t:Sem α} {Q Q' : α -> D0->Prop} {M:LO} {A:Ib} {E:h7->D0->Prop} {s:D0} (h:Hd M A t Q E s) (j:∀ a s,Q a s->Q' a s):Hd M A t Q' E s:=Jf h j fun _ _ x=>x
end
section
section
variable {X:Cx}
noncomputable def Ec (i:Nat):TE:=fun σ H Q => ∃ v, σ[i]? = some (some v)/\Q v H
noncomputable def tC (v:V):TE:=fun _ H Q=>Q v H
theorem Bt {i:Nat} {x:Str} {pos:Pos} (F:X.N[i]? = some x) (G:Vis X.env.scope x) (hd:(x==("__debug__":Str))=false:=by decide) (z:(x==("__classdict__":Str))=false:=by decide):PE X (.Name x pos) (Ec i):=by
 intro pins s σ H Q I h;obtain ⟨v,e,h⟩:=h;obtain ⟨m,J,L⟩:=I.loc;obtain ⟨u,r,l⟩:=L i x v F e G;have fin:EP X pins σ Q u s:=⟨v,H,I,r,h⟩
 rcases l with ⟨q,hm⟩ | ⟨q,c,B,j⟩
 ·exact QS (Ou I.ok.kind q J hm fin) hd
 ·rcases q with q | q
  ·exact QS (OW I.ok.kind q B j fin) hd
  ·exact QS (wpAny_loadName_free I.ok.kind q B j fin z) hd
theorem Bu {i j pos}:PE X (.Constant (.int i) j pos) (tC (.int i)):=fun _ _ _ H _ I h=>wpAny_Constant_int ⟨.int i,H,I.tok _,⟨_,rfl⟩,h⟩
theorem Di {b j pos}:PE X (.Constant (.bool b) j pos) (tC (.bl b)):=fun _ _ _ H _ I h=>Constant_bool ⟨.bl b,H,I,rfl,h⟩
theorem Bv {j pos}:PE X (.Constant .none j pos) (tC .non):=fun _ _ _ H _ I h=>Constant_none ⟨.non,H,I,rfl,h⟩
def Gl (X:Cx) (x:Str):Prop:=X.env.kindOf x=some .globalImplicit
theorem jY {E:h7->D0->Prop} {pins:List (Addr×Obj)} {s:D0} {σ:St} {H:Hp} {x:Str} {u:h7} {pos:Pos} {Q:h7->D0->Prop} (I:Inv X pins σ H s) (j:Gl X x) (hm:X.mg x=some u) (h:Q u s)
 (hd:(x==("__debug__":Str))=false:=by decide):Hd (model X.prog X.w) X.A (eval (.Name x pos) X.env) Q E s :=
 MP I.ok.kind j (Calls.loadGlobal_global (by rw [I.ok.glob];exact I.mod.glob.keeps I.bk) hm h) hd
theorem dM {E:h7->D0->Prop} {pins:List (Addr×Obj)} {s:D0} {σ:St} {H:Hp} {x:Str} {u:h7} {pos:Pos} {Q:h7->D0->Prop} (I:Inv X pins σ H s) (j:Gl X x) (hm:X.mg x=none) (q:JE x=some u) (h:Q u s)
 (z:x ≠ "__name__" := by decide) (hd:(x==("__debug__":Str))=false:=by decide):Hd (model X.prog X.w) X.A (eval (.Name x pos) X.env) Q E s:=by
 obtain ⟨mb,h1,h2⟩:=I.mod.blt;exact MP I.ok.kind j (Calls.loadGlobal_builtin (by rw [I.ok.glob];exact I.mod.glob.keeps I.bk) hm (by rw [I.ok.blt];exact h1.keeps I.bk) ((h2 x z).trans q) h) hd
theorem zH {x:Str} {v:V} {u:h7} {pos:Pos} (j:Gl X x) (hm:X.mg x=some u) (r:RelV v u) (hd:(x==("__debug__":Str))=false:=by decide):PE X (.Name x pos) (tC v) :=
 fun _ _ _ H _ I h=>jY I j hm ⟨v,H,I,r,h⟩ hd
theorem jZ {x:Str} {v:V} {u:h7} {pos:Pos} (j:Gl X x) (hm:X.mg x=none) (q:JE x=some u) (r:RelV v u) (z:x ≠ "__name__" := by decide) (hd:(x==("__debug__":Str))=false:=by decide):PE X (.Name x pos) (tC v) :=
 fun _ _ _ H _ I h=>dM I j hm q ⟨v,H,I,r,h⟩ z hd
variable {a b:Expr} {ta tb:TE} {pos:Pos}
variable {tA tB':TT} {rest:List Expr}
noncomputable def Ed (t u:TT):TT:=fun σ H Q=>t σ H fun c H1=>if c=true then u σ H1 Q else Q false H1
noncomputable def tOr (t u:TT):TT:=fun σ H Q=>t σ H fun c H1=>if c=true then Q true H1 else u σ H1 Q
noncomputable def Ee (t:TT):TT:=fun σ H Q=>t σ H fun c H1=>Q (!c) H1
theorem zI (j:PT X a tA):PW X (.BoolOp .And [a] pos) tA:=by
 intro wh pins s σ H Q I h;refine isTrue_and (thn (j pins s σ H Q I h) fun c s1 e => ?_)
 cases c with
 | true=>exact isTrue_and_nil e
 | false=>exact e
theorem Bw (j:PT X a tA):PW X (.BoolOp .Or [a] pos) tA:=by
 intro wh pins s σ H Q I h;refine isTrue_or (thn (j pins s σ H Q I h) fun c s1 e => ?_)
 cases c with
 | false=>exact isTrue_or_nil e
 | true=>exact e
theorem By (z:PT X a tA) (B:PW X (.BoolOp .And (b::rest) pos) tB'):PW X (.BoolOp .And (a::b::rest) pos) (Ed tA tB'):=by
 intro wh pins s σ H Q I h;refine isTrue_and (thn (z pins s σ H _ I h) fun c s1 ⟨H1,j,q⟩ => ?_)
 cases c with
 | true=>exact B wh pins s1 σ H1 Q j q
 | false=>exact ⟨H1,j,q⟩
theorem Dj (z:PT X a tA) (B:PW X (.BoolOp .Or (b::rest) pos) tB'):PW X (.BoolOp .Or (a::b::rest) pos) (tOr tA tB'):=by
 intro wh pins s σ H Q I h;refine isTrue_or (thn (z pins s σ H _ I h) fun c s1 ⟨H1,j,q⟩ => ?_)
 cases c with
 | true=>exact ⟨H1,j,q⟩
 | false=>exact B wh pins s1 σ H1 Q j q
theorem Bz (j:PT X a tA):PT X (.UnaryOp .Not a pos) (Ee tA):=by
 intro pins s σ H Q I h;exact isTrue_not (j pins s σ H (fun c H1=>Q (!c) H1) I h)
noncomputable def Dl (ta tb:TE):TE:=fun σ H Q=>ta σ H fun x H1 => ∃ c,x = .bl c/\if c=true then tb σ H1 Q else Q (.bl false) H1
noncomputable def Ef (ta tb:TE):TE:=fun σ H Q=>ta σ H fun x H1 => ∃ c,x = .bl c/\if c=true then Q (.bl true) H1 else tb σ H1 Q
noncomputable def Dm (ta:TE):TE:=fun σ H Q=>ta σ H fun x H1 => ∃ c,x = .bl c/\Q (.bl (!c)) H1
theorem BA {op} {t:TE} (h:PE X a t):PE X (.BoolOp op [a] pos) t:=fun pins s σ H Q I hw=>BoolOp_one (h pins s σ H Q I hw)
theorem BB (z:PE X a ta) (B:PE X (.BoolOp .And (b::rest) pos) tb):PE X (.BoolOp .And (a::b::rest) pos) (Dl ta tb):=by
 intro pins s σ H Q I h;refine BoolOp_and (thn (z pins s σ H _ I h) fun v s1 ⟨x,H1,q,F,j⟩ => ?_);obtain ⟨c,rfl,j⟩:=j
 cases F
 refine IP ?_
 cases c with
 | true=>exact B pins s1 σ H1 Q q j
 | false=>exact ⟨.bl false,H1,q,rfl,j⟩
theorem Dn (z:PE X a ta) (B:PE X (.BoolOp .Or (b::rest) pos) tb):PE X (.BoolOp .Or (a::b::rest) pos) (Ef ta tb):=by
 intro pins s σ H Q I h;refine BoolOp_or (thn (z pins s σ H _ I h) fun v s1 ⟨x,H1,q,F,j⟩ => ?_);obtain ⟨c,rfl,j⟩:=j
 cases F
 refine IP ?_
 cases c with
 | false=>exact B pins s1 σ H1 Q q j
 | true=>exact ⟨.bl true,H1,q,rfl,j⟩
theorem BC (q:PE X a ta):PE X (.UnaryOp .Not a pos) (Dm ta):=by
 intro pins s σ H Q I h;refine UnaryOp_ (thn (q pins s σ H _ I h) fun v s1 ⟨x,H1,z,B,j⟩ => ?_);obtain ⟨c,rfl,j⟩:=j
 cases B
 exact not_of (IP ⟨.bl (!c),H1,z,rfl,j⟩)
noncomputable def tIf (t:TT) (ta tb:TE):TE:=fun σ H Q=>t σ H fun c H1=>if c=true then ta σ H1 Q else tb σ H1 Q
theorem wF {c:Expr} (z:PT X c tA) (B:PE X a ta) (F:PE X b tb):PE X (.IfExp c a b pos) (tIf tA ta tb):=by
 intro pins s σ H Q I h;refine wpAny_IfExp (thn (z pins s σ H _ I h) fun d s1 ⟨H1,j,q⟩ => ?_)
 cases d with
 | true=>exact B pins s1 σ H1 Q j q
 | false=>exact F pins s1 σ H1 Q j q
end
end
section
def SqL (K:Frag) (H:Hp) (a:Addr) (xs:List V):Prop :=
 Rd H a (.lst xs) ∨
  ∃ (o:Obj) (its:Array h7) (n:Nat),K.lookup a=some o/\o.cls = .type "list" /\ o.dict=none/\o.data = .seq its n/\its.size<=GX/\Vals xs its.toList
def SqT (K:Frag) (H:Hp) (a:Addr) (xs:List V):Prop :=
 Rd H a (.tup xs) ∨
  ∃ (o:Obj) (its:Array h7) (n:Nat),K.lookup a=some o/\o.cls = .type "tuple" /\ o.data = .seq its n/\its.size<=GX/\Vals xs its.toList
noncomputable def Eg:h7->Option V
 | .none=>some .non
 | .bool b=>some (.bl b)
 | .int i _=>some (.int i)
 | .str x _=>some (.str x)
 | .bytes b _=>some (.byt b)
 | .float b _=>some (.flt b)
 | .ref a=>some (.ref a)
 | .type n=>some (.ty n)
 | _=>none
theorem RelV.abs {x:V} {u:h7} (r:RelV x u):Eg u=some x:=by
 cases x with
 | non=>cases r;rfl
 | bl _=>cases r;rfl
 | int _=>obtain ⟨t,rfl⟩:=r;rfl
 | str _=>obtain ⟨t,rfl⟩:=r;rfl
 | byt _=>obtain ⟨t,rfl⟩:=r;rfl
 | flt _=>obtain ⟨t,rfl⟩:=r;rfl
 | ref _=>cases r;rfl
 | ty _=>cases r;rfl
theorem RelV.inj {x y:V} {u:h7} (r:RelV x u) (q:RelV y u):x=y:=Jo.inj (r.abs.symm.trans q.abs)
theorem Vals.inj:∀ {xs ys:List V} {us:List h7},Vals xs us->Vals ys us->xs=ys
 | _,_,_, .nil, .nil=>rfl
 | _,_,_, .cons r t, .cons r' t'=>by rw [r.inj r',Vals.inj t t']
section
variable {X:Cx} {pins:List (Addr×Obj)} {σ:St} {H:Hp} {s:D0} {a:Addr} {xs ys:List V}
theorem SqL.of {K:Frag} (h:H a=some (.lst xs)):SqL K H a xs := .inl (.inl h)
theorem SqT.of {K:Frag} (h:H a=some (.tup xs)):SqT K H a xs := .inl (.inl h)
theorem Inv.list (I:Inv X pins σ H s) (h:SqL X.K H a xs):∃ its:List h7,Vals xs its/\PlainL s.heap a its.toArray/\xs.length<=GX:=by
 rcases h with h | ⟨o,its,n,j,q,hd,hs,B,r⟩
 ·obtain ⟨z,its,n,r,e⟩:=h.ok I.hok;exact ⟨its,r,⟨_,n,e,rfl,rfl,rfl⟩,z⟩
 ·refine ⟨its.toList,r,⟨o,n,I.kIn a o j,q,hd,by simpa using hs⟩, ?_⟩
  have e:=r.length;simp only [Hw] at e;omega
theorem Inv.tuple (I:Inv X pins σ H s) (h:SqT X.K H a xs):∃ its:List h7,Vals xs its/\IsTup s.heap a its.toArray/\xs.length<=GX:=by
 rcases h with h | ⟨o,its,n,j,q,hs,B,r⟩
 ·obtain ⟨z,its,r,p⟩:=h.ok I.hok;exact ⟨its,r,p,z⟩
 ·refine ⟨its.toList,r,⟨o,I.kIn a o j,q,n,by simpa using hs⟩, ?_⟩
  have e:=r.length;simp only [Hw] at e;omega
theorem Inv.list_inj (I:Inv X pins σ H s) (h:SqL X.K H a xs) (h':SqL X.K H a ys):xs=ys:=by
 obtain ⟨its,r,⟨o,n,e,_,_,d⟩,_⟩:=I.list h;obtain ⟨its',r',⟨o',n',e',_,_,d'⟩,_⟩:=I.list h';rw [e] at e';cases e';rw [d] at d'
 injection d' with d1 _
 have:its=its':=by simpa using congrArg NU d1
 subst this;exact r.inj r'
theorem Inv.tuple_inj (I:Inv X pins σ H s) (h:SqT X.K H a xs) (h':SqT X.K H a ys):xs=ys:=by
 obtain ⟨its,r,⟨o,e,_,n,d⟩,_⟩:=I.tuple h;obtain ⟨its',r',⟨o',e',_,n',d'⟩,_⟩:=I.tuple h';rw [e] at e';cases e';rw [d] at d'
 injection d' with d1 _
 have:its=its':=by simpa using congrArg NU d1
 subst this;exact r.inj r'
end
noncomputable abbrev Cx.wish (X:Cx) (E:h7->D0->Prop):Cx := { X with xe:=E }
noncomputable abbrev Cx.nox (X:Cx):Cx:=X.wish fun _ _=>False
theorem Cx.Ok.wish {X:Cx} (ok:X.Ok) (E:h7->D0->Prop):(X.wish E).Ok :=
 ⟨ok.mod,ok.kind,ok.glob,ok.blt,ok.above,ok.inj,ok.has,ok.cab,ok.hd,ok.frames,ok.stk,ok.exf,ok.bs,ok.bsz,ok.noex,ok.exfs,ok.funs,ok.frf⟩
theorem Cx.Ok.unwish {X:Cx} {E:h7->D0->Prop} (ok:(X.wish E).Ok):X.Ok :=
 ⟨ok.mod,ok.kind,ok.glob,ok.blt,ok.above,ok.inj,ok.has,ok.cab,ok.hd,ok.frames,ok.stk,ok.exf,ok.bs,ok.bsz,ok.noex,ok.exfs,ok.funs,ok.frf⟩
section
variable {X:Cx} {pins:List (Addr×Obj)} {σ:St} {H:Hp} {s:D0} {E:h7->D0->Prop}
theorem Inv.wish (I:Inv X pins σ H s) (E:h7->D0->Prop):Inv (X.wish E) pins σ H s:=⟨I.ok.wish E,I.os,I.bare,I.base,I.loc,I.cell,I.free,I.freeC,I.pin,I.hok,I.len⟩
theorem Inv.unwish (I:Inv (X.wish E) pins σ H s):Inv X pins σ H s:=⟨I.ok.unwish,I.os,I.bare,I.base,I.loc,I.cell,I.free,I.freeC,I.pin,I.hok,I.len⟩
theorem SP.unwish {D:bC} {f:Flow} {s':D0} (h:SP (X.wish E) pins D f s'):SP X pins D f s':=by
 cases f with
 | next=>obtain ⟨σ',H',I,q⟩:=h;exact ⟨σ',H',I.unwish,q⟩
 | brk=>obtain ⟨σ',H',I,q⟩:=h;exact ⟨σ',H',I.unwish,q⟩
 | cont=>obtain ⟨σ',H',I,q⟩:=h;exact ⟨σ',H',I.unwish,q⟩
 | ret u=>obtain ⟨v, σ',H',I,r,q⟩:=h;exact ⟨v, σ',H',I.unwish,r,q⟩
theorem PSs.nox {st:List Stmt} {t:TS} (h:PSs X.nox st t):PSs X st t:=fun pins s σ H D I hw =>
 Jf (h pins s σ H D (I.wish _) hw) (fun _ _ q=>q.unwish) fun _ _ z=>False.elim z
end
section
variable {X:Cx} {st:Stmt} {rest:List Stmt} {t u:TS} {e:Expr} {te:TE} {pos:Pos}
noncomputable def rM:TS:=fun D σ H=>D.nx σ H
noncomputable def BD (t u:TS):TS:=fun D σ H=>t { D with nx:=u D } σ H
theorem zJ:PSs X [] rM:=fun _ _ σ H _ I h=>Og ⟨σ,H,I,h⟩
theorem wG (h1:PS X st t) (h2:PSs X rest u):PSs X (st::rest) (BD t u):=by
 intro pins s σ H D I h;refine wpAny_execs_cons (thn (h1 pins s σ H { D with nx:=u D } I h) fun f s1 q => ?_)
 cases f with
 | next =>
   obtain ⟨σ',H',I',q⟩:=q;exact h2 pins s1 σ' H' D I' q
 | ret v=>exact q
 | brk=>exact q
 | cont=>exact q
noncomputable def u5:TS:=fun D σ H=>D.bk σ H
noncomputable def yP:TS:=fun D σ H=>D.ct σ H
theorem zK:PS X (.Pass pos) rM:=fun _ _ σ H _ I h=>wpAny_Pass ⟨σ,H,I,h⟩
theorem wH:PS X (.Break pos) u5:=fun _ _ σ H _ I h=>wpAny_Break ⟨σ,H,I,h⟩
theorem qc:PS X (.Continue pos) yP:=fun _ _ σ H _ I h=>wpAny_Continue ⟨σ,H,I,h⟩
theorem Inv.quiet {pins:List (Addr×Obj)} {σ:St} {H:Hp} {s:D0} (I:Inv X pins σ H s):interactive X.env=false:=by simp [interactive,I.ok.kind]
noncomputable def yQ (te:TE):TS:=fun D σ H=>te σ H fun _ H1=>D.nx σ H1
theorem zL (he:PE X e te) (hs:Lq e none pos.line X.env=pure false:=by rfl):PS X (.Expr e pos) (yQ te):=by
 intro pins s σ H D I h;exact wpAny_Expr_any (thn (he pins s σ H _ I h) fun v s1 ⟨x,H1,j,z,q⟩=>⟨σ,H1,j,q⟩) I.quiet hs
noncomputable def BE (te:TE):TS:=fun D σ H=>te σ H D.rt
theorem BG (he:PE X e te):PS X (.Return (some e) pos) (BE te):=by
 intro pins s σ H D I h;exact wpAny_Return_some (thn (he pins s σ H _ I h) fun v s1 ⟨x,H1,j,q,z⟩=>⟨x, σ,H1,j,q,z⟩)
noncomputable def BH (c:TT) (t u:TS):TS:=fun D σ H=>c σ H fun b H1=>if b=true then t D σ H1 else u D σ H1
theorem Do {c:Expr} {a b:List Stmt} {tc:TT} (z:PT X c tc) (B:PSs X a t) (F:PSs X b u):PS X (.If c a b pos) (BH tc t u):=by
 intro pins s σ H D I h;refine wpAny_If (thn (z pins s σ H _ I h) fun d s1 ⟨H1,j,q⟩ => ?_)
 cases d with
 | true=>exact B pins s1 σ H1 D j q
 | false=>exact F pins s1 σ H1 D j q
end
noncomputable abbrev TG:=V->St->Hp->(St->Hp->Prop)->Prop
noncomputable abbrev TGs:=List V->St->Hp->(St->Hp->Prop)->Prop
def PG (X:Cx) (target:Expr) (t:TG):Prop :=
 ∀ (pins:List (Addr×Obj)) (s:D0) (σ:St) (H:Hp) (v:V) (u:h7) (Q:St->Hp->Prop),Inv X pins σ H s->RelV v u->t v σ H Q ->
  Hd (model X.prog X.w) X.A (assign target X.env u) (fun _ s' => ∃ σ' H',Inv X pins σ' H' s'/\Q σ' H') X.xe s
def PGs (X:Cx) (ts:List Expr) (t:TGs):Prop :=
 ∀ (pins:List (Addr×Obj)) (s:D0) (σ:St) (H:Hp) (vs:List V) (us:List h7) (Q:St->Hp->Prop),Inv X pins σ H s->Vals vs us->t vs σ H Q ->
  Hd (model X.prog X.w) X.A (P4 ((Jg ts X.env).map (·.2)) us) (fun _ s' => ∃ σ' H',Inv X pins σ' H' s'/\Q σ' H') X.xe s
noncomputable abbrev ka:=V->V->V->Hp->(Hp->Prop)->Prop
def PSet (X:Cx) (t:ka):Prop :=
 ∀ (pins:List (Addr×Obj)) (s:D0) (σ:St) (H:Hp) (o i v:V) (ov iv u:h7) (Q:Hp->Prop),Inv X pins σ H s->RelV o ov->RelV i iv->RelV v u->t o i v H Q ->
  Hd (model X.prog X.w) X.A (OT ov iv u) (fun _ s' => ∃ H',Inv X pins σ H' s'/\Q H') X.xe s
noncomputable abbrev TIp:=V->V->Hp->VK->Prop
def PIp (X:Cx) (op:KG) (t:TIp):Prop :=
 ∀ (pins:List (Addr×Obj)) (s:D0) (σ:St) (H:Hp) (x y:V) (v u:h7) (Q:VK),Inv X pins σ H s->RelV x v->RelV y u->t x y H Q ->
  Hd (model X.prog X.w) X.A (JK op v u) (EP X pins σ Q) X.xe s
section
variable {X:Cx} {pos:Pos}
noncomputable def iW (i:Nat):TG:=fun v σ H Q=>Q (σ.set i (some v)) H
theorem qp {i:Nat} {x:Str} (j:X.N.Nodup) (hi:X.N[i]? = some x) (hx:Loc X.env.scope x) (hf:X.fn x=true∨X.env.scope.names.lookup x=some .local:=by first | exact .inl rfl | exact .inr rfl | assumption):PG X (.Name x pos) (iW i):=by
 intro pins s σ H v u Q I r h;exact wpAny_assign_Name (fj I j hi hx r (fun s' I'=>⟨_,H,I',h⟩) hf)
noncomputable def Eh:TGs:=fun vs σ H Q=>vs=[]/\Q σ H
noncomputable def Dp (t:TG) (u:TGs):TGs:=fun vs σ H Q => ∃ v r,vs=v::r/\t v σ H fun σ' H'=>u r σ' H' Q
theorem zM:PGs X [] Eh:=by
 intro pins s σ H vs us Q I r h;obtain ⟨e,h⟩:=h;subst e
 cases r
 exact Py ⟨σ,H,I,h⟩
theorem wJ {e:Expr} {es:List Expr} {t:TG} {u:TGs} (h1:PG X e t) (h2:PGs X es u)
 (hs:(Jg (e::es) X.env).map (·.2)=assign e X.env::(Jg es X.env).map (·.2):=by rfl):PGs X (e::es) (Dp t u):=by
 intro pins s σ H vs us Q I r h;obtain ⟨v,vr,e1,h⟩:=h;subst e1
 cases r with
 | cons r rr =>
   rw [hs];refine MQ (thn (h1 pins s σ H _ _ _ I r h) fun _ s1 ⟨σ1,H1,j,q⟩ => ?_);exact h2 pins s1 σ1 H1 _ _ Q j rr q
noncomputable def Ei (K:Frag) (n:Nat) (t:TGs):TG:=fun v σ H Q => ∃ a xs,v = .ref a/\SqT K H a xs/\xs.length=n/\t xs σ H Q
theorem BI {es:List Expr} {k:Nat} {t:TGs} {n:Nat} (q:X.calm=true) (h:PGs X es t)
 (z:(Jg es X.env).length=n:=by rfl) (j:(Jg es X.env).findIdx? (·.1)=none:=by rfl):PG X (.Tuple es k pos) (Ei X.K n t):=by
 intro pins s σ H v u Q I r hw;obtain ⟨a,xs,e1,B,F,hw⟩:=hw;subst e1
 cases r
 obtain ⟨its,rv,G,L⟩:=I.tuple B;refine assign_Tuple_tuple (I.ok.hd q) G (by simp [z, <- F,rv.length]) j fun h' hx => ?_
 have J:Inv X pins σ H { s with heap:=h' }:=I.kept (t':=s.toks) fun b o e=>hx b o (HQ (Hb e)) e
 exact h pins _ σ H xs _ Q J (by simpa using rv) hw
noncomputable def Ej (to ti:TE) (t:ka):TG:=fun v σ H Q=>to σ H fun o H1=>ti σ H1 fun i H2=>t o i v H2 fun H3=>Q σ H3
theorem BJ {o i:Expr} {to ti:TE} {t:ka} (ho:PE X o to) (hi:PE X i ti) (hs:PSet X t)
 (j:∀ v,assign (.Subscript o i pos) X.env v=(do
   let ov <- holding [v] (eval o X.env)
   let iv <- holding [v,ov] (eval i X.env)
   Nm pos
   holding [v,ov,iv] (OT ov iv v)
   release [v,ov,iv] []):=by intro _;rfl):PG X (.Subscript o i pos) (Ej to ti t):=by
 intro pins s σ H v u Q I r h;rw [j];refine gV (Ii (thn (ho pins s σ H _ I h) fun ov s1 ⟨x,H1,q,z,B⟩ => ?_));refine gV (Ii (thn (hi pins s1 σ H1 _ q B) fun iv s2 ⟨y,H2,F,G,J⟩ => ?_));refine gV (Kr (gV (Ii (thn (hs pins s2 σ H2 x y v ov iv u _ F z G r J) fun _ s3 ⟨L,O,U⟩ => ?_))));exact wpAny_release ⟨σ,L,O,U⟩
noncomputable def rN (te:TE) (g:TG):TS:=fun D σ H=>te σ H fun x H1=>g x σ H1 D.nx
theorem u6 {tg e:Expr} {te:TE} {g:TG} (he:PE X e te) (j:PG X tg g) (hs:L6 [tg] e pos.line X.env=pure false:=by rfl) (hw:JY [tg] e X.env=pure none:=by rfl)
 (h1:(Jg [tg] X.env).map (·.2)=[assign tg X.env]:=by rfl):PS X (.Assign [tg] e pos) (rN te g):=by
 intro pins s σ H D I h;refine wpAny_Assign_stores (thn (he pins s σ H _ I h) fun v s1 ⟨x,H1,z,B,F⟩ => ?_) hs hw;rw [h1];exact thn (j pins s1 σ H1 x v _ z B F) fun _ s2 q=>q
noncomputable def BK (i j:Nat) (ta:TA):TS:=fun D σ H=>ta σ H fun vs H1 => ∃ v w,vs=[v,w]/\D.nx ((σ.set i (some v)).set j (some w)) H1
theorem BL {i j:Nat} {x y:Str} {a b:Expr} {ta:TA} {px py pt:Pos} {kt G z} (hc:X.calm=true) (U:X.N.Nodup) (hi:X.N[i]? = some x) (hj:X.N[j]? = some y) (J:i≠j)
 (hx:X.env.scope.names.lookup x=some .local) (Y:X.env.scope.names.lookup y=some .local) (ha:PA X [a,b] ta)
 (hw:JY [.Tuple [.Name x px, .Name y py] kt pt] (.Tuple [a,b] G z) X.env=pure (some [x,y]))
 (hs:L6 [.Tuple [.Name x px, .Name y py] kt pt] (.Tuple [a,b] G z) pos.line X.env=pure false:=by rfl) :
 PS X (.Assign [.Tuple [.Name x px, .Name y py] kt pt] (.Tuple [a,b] G z) pos) (BK i j ta):=by
 intro pins s σ H D I h;rw [exec_Assign_arm];refine gV (Kr ?_);rw [hs];refine gV (tv ?_);rw [if_neg (by decide)]
 refine gV (Tuple_ (thn (ha _ pins s σ H _ I h) fun us s1 ⟨vs,H1,I1,r1,L⟩ => ?_));obtain ⟨v,w,e1,L⟩:=L;subst e1;obtain ⟨B,F,rfl,rv,rw'⟩:∃ B F,us=[B,F]/\RelV v B/\RelV w F:=by
  cases r1 with
  | cons p q =>
    cases q with
    | cons p' q' =>
      cases q'
      exact ⟨_,_,rfl,p,p'⟩
 refine IQ ?_ (by show 2<=GX;decide)
 have I2:Inv X pins σ H1 { s1 with heap:=s1.heap.push { cls := .type "tuple",data := .seq [B,F].toArray } }:=I1.kept (t':=s1.toks) fun b o e=>q7 _ e
 rw [hw];refine gV (tv ?_);show Hd (model X.prog X.w) X.A (do rule "assign.swapped-stores";let items <- unpackItems (.ref s1.heap.objs.size) 2 none;P4 [fun v=>QT X.env y v,fun v=>QT X.env x v] items.reverse;pure Flow.next) _ _ _
 refine gV (IG (gV (unpackItems_tuple (items := #[B,F]) (I.ok.hd hc) (LS s1.heap _) fun h' O => ?_)));have I3:=I2.kept (h':=h') (t':=s1.toks) fun b o e=>O b o (HQ (Hb e)) e;show Hd _ _ (P4 [fun v=>QT X.env y v,fun v=>QT X.env x v] [F,B] >>= fun _=>pure Flow.next) _ _ _;refine gV (MQ (wpAny_bindName (fj I3 U hj (.inl Y) rw' (fun s2 I4 => ?_) (.inr Y))));refine MQ (wpAny_bindName (fj I4 U hi (.inl hx) rv (fun s3 Z=>Py (tv ?_)) (.inr hx)));rw [List.set_comm _ _ (Ne.symm J)] at Z;exact ⟨_,H1,Z,L⟩
noncomputable def Ek (i:Nat) (te:TE) (ti:TIp):TS:=fun D σ H => ∃ x, σ[i]? = some (some x)/\te σ H fun y H1=>ti x y H1 fun z H2=>D.nx (σ.set i (some z)) H2
theorem BM {i:Nat} {x:Str} {e:Expr} {te:TE} {op:KG} {ti:TIp} {pos':Pos} (B:X.N.Nodup) (hi:X.N[i]? = some x) (hx:Loc X.env.scope x) (he:PE X e te) (ho:PIp X op ti) (hf:X.fn x=true∨X.env.scope.names.lookup x=some .local:=by first | exact .inl rfl | exact .inr rfl | assumption) :
 PS X (.AugAssign (.Name x pos') op e pos) (Ek i te ti):=by
 intro pins s σ H D I h;obtain ⟨v,e1,h⟩:=h;obtain ⟨m,F,G⟩:=I.loc;have vis:Vis X.env.scope x:=by rcases hx with k | k;exact .inl k;exact .inr (.inl k)
 obtain ⟨u,r,l⟩:=G i x v hi e1 vis;refine wpAny_AugAssign_Name ?_;have go:Hd (model X.prog X.w) X.A (eval e X.env) (fun w s₂ => Hd (model X.prog X.w) X.A (JK op u w) (fun r s₃ => Hd (model X.prog X.w) X.A (storeName X.env x r) (fun _=>SP X pins D .next) X.xe s₃) X.xe s₂) X.xe s:=by
  refine thn (he pins s σ H _ I h) fun w s1 ⟨y,H1,J,L,O⟩ => ?_;refine thn (ho pins s1 σ H1 v y u w _ J r L O) fun z s2 ⟨zv,H2,U,Y,Z⟩ => ?_;exact fj U B hi hx Y (fun s3 I3=>⟨_,H2,I3,Z⟩) hf
 rcases l with ⟨j,hm⟩ | ⟨j,c,hc,q⟩
 ·exact Ou I.ok.kind j F hm go
 ·rcases j with j | j
  ·exact OW I.ok.kind j hc q go
  ·rcases hx with k | k
   ·have:X.env.scope.names.lookup x=some .free:=j;rw [k] at this;cases this
   ·have:X.env.scope.names.lookup x=some .free:=j;rw [k] at this;cases this
noncomputable def Dq (to ti te:TE) (tget:V->V->Hp->VK->Prop) (tip:TIp) (tset:ka):TS:=fun D σ H=>to σ H fun o H1=>ti σ H1 fun i H2=>tget o i H2 fun x H3=>te σ H3 fun y H4=>tip x y H4 fun z H5=>tset o i z H5 fun H6=>D.nx σ H6
def BN (X:Cx) (t:V->V->Hp->VK->Prop):Prop :=
 ∀ (pins:List (Addr×Obj)) (s:D0) (σ:St) (H:Hp) (o i:V) (ov iv:h7) (Q:VK),Inv X pins σ H s->RelV o ov->RelV i iv->t o i H Q ->
  Hd (model X.prog X.w) X.A (Np ov iv) (EP X pins σ Q) X.xe s
theorem zN {o i e:Expr} {to ti te:TE} {tget:V->V->Hp->VK->Prop} {tip:TIp} {tset:ka} {op:KG} {tpos:Pos} (ho:PE X o to) (hi:PE X i ti) (F:BN X tget) (he:PE X e te) (G:PIp X op tip) (hs:PSet X tset)
 (J:∀ ov iv new,augStore i ov iv new=(do holding [new,ov,iv] (OT ov iv new);release [new,ov,iv] [];pure .next):=by intros;rfl):PS X (.AugAssign (.Subscript o i tpos) op e pos) (Dq to ti te tget tip tset):=by
 intro pins s σ H D I h;refine wpAny_AugAssign_SubscriptAny (thn (ho pins s σ H _ I h) fun ov s1 ⟨j,H1,L,q,O⟩ => ?_) J;refine thn (hi pins s1 σ H1 _ L O) fun iv s2 ⟨z,H2,U,B,Y⟩ => ?_;refine thn (F pins s2 σ H2 j z ov iv _ U q B Y) fun old s3 ⟨Z,H3,I3,r3,q3⟩ => ?_;refine thn (he pins s3 σ H3 _ I3 q3) fun v s4 ⟨x4,H4,I4,r4,q4⟩ => ?_;refine thn (G pins s4 σ H4 Z x4 old v _ I4 r3 r4 q4) fun new s5 ⟨x5,H5,I5,r5,q5⟩ => ?_;exact thn (hs pins s5 σ H5 j z x5 ov iv new _ I5 q B r5 q5) fun _ s6 ⟨H6,I6,q6⟩=>⟨σ,H6,I6,q6⟩
end
section
variable {X:Cx} {pos:Pos}
noncomputable def u7 (c:TT) (tb:TS):TS:=fun D σ H => ∃ W:Nat->St->Hp->Prop,(∃ m,W m σ H) /\ ∀ m σ H,W m σ H ->
 c σ H fun b H1=>if b=true then ∃ N:St->Hp->Prop,(∀ σ' H',N σ' H' -> ∃ m',m' < m/\W m' σ' H')/\tb { D with nx:=N,ct:=N,bk:=D.nx } σ H1 else D.nx σ H1
theorem wK {c:Expr} {body:List Stmt} {tc:TT} {tb:TS} (J:PassesOwn (model X.prog X.w) X.A X.env X.xe) (U:PT X c tc) (Y:PSs X body tb):PS X (.While c body [] pos) (u7 tc tb):=by
 intro pins s σ H D I h;obtain ⟨W,⟨m0,Z⟩,turn⟩:=h;refine wpAny_While (codeAny_whileLoop (fun n s' => ∃ σ' H',Inv X pins σ' H' s'/\W n σ' H') ?_ m0 ⟨σ,H,I,Z⟩);rintro n s1 ⟨σ1,H1,I1,w1⟩;refine JR J (thn (U pins s1 σ1 H1 _ I1 (turn n σ1 H1 w1)) fun b s2 ⟨H2,L,q⟩ => ?_)
 cases b with
 | true =>
   obtain ⟨N,O,q⟩:=q;rw [if_pos rfl];refine JR J (thn (Y pins s2 σ1 H2 _ L q) fun f s3 z => ?_)
   cases f with
   | next =>
     obtain ⟨σ3,j,B,F⟩:=z;obtain ⟨m',hm,G⟩:=O σ3 j F;exact ⟨m',hm, σ3,j,B,G⟩
   | cont =>
     obtain ⟨σ3,j,B,F⟩:=z;obtain ⟨m',hm,G⟩:=O σ3 j F;exact ⟨m',hm, σ3,j,B,G⟩
   | brk=>exact z
   | ret v=>exact z
 | false =>
   rw [if_neg H0];exact Og ⟨σ1,H2,L,q⟩
end
structure It where
 go:Nat->Hp->Prop
 yld:Nat->Hp->V->Hp->Prop
 stop:Nat->Hp->Prop
def bZ (X:Cx) (pins:List (Addr×Obj)) (H:Hp) (b:Addr):Prop :=
 H b=none/\b≠X.env.locals/\b∉X.fs/\(b∈X.ex∨X.s₀.heap.objs.size<=b)/\(∀ x c,X.env.cells.lookup x=some c->c≠b) /\ ∀ p∈X.pn++pins,p.1≠b
theorem Inv.fpOk {X:Cx} {pins:List (Addr×Obj)} {σ:St} {H H':Hp} {s:D0} {b:Addr} (I:Inv X pins σ H s) (j:s.heap.objs.size<=b) (B:H' b=none):bZ X pins H' b:=by
 refine ⟨B,IW (HI I.lt j),I.nofs j, .inr (IV I.sz j),fun x c e z => ?_,fun p F z => ?_⟩
 ·obtain ⟨v,q⟩:=I.cell x c e;exact absurd (HI q.lt (by rw [z];exact j)) (IT _)
 ·exact absurd (HI (Hb (I.pin p F).1) (by rw [z];exact j)) (IT _)
structure fo (P:Hu) (w:HW) (K:Frag) (tg:Expr) (J:It) (fp:List Addr) (it:Addr) (tn:Nat->Heap->Prop):Prop where
 mem:it∈fp
 obj:∀ i h,tn i h -> ∀ b∈fp, ∃ o,h.get? b=some o /\ ∀ v,o.data ≠ .cell v
 keep:∀ i h h',tn i h->(∀ b∈fp, ∀ o,h.get? b=some o->h'.get? b=some o)->tn i h'
 item:∀ (X:Cx),X.prog=P->X.w=w->X.K=K->X.calm=true -> ∀ (i:Nat) (pins:List (Addr×Obj)) (s:D0) (σ:St) (H:Hp) (E:h7->D0->Prop),Inv X pins σ H s->(∀ b∈fp,bZ X pins H b)->tn i s.heap->J.go i H ->
  Hd (model P w) X.A (Kt (.ref it)) (fun r s1 => ∃ u,r=some u /\
   Hd (model P w) X.A (Mp tg (.ref it) u) (fun _ s2 => ∃ x H',Inv X pins σ H' s2/\RelV x u/\J.yld i H x H'/\tn (i+1) s2.heap /\ ∀ b∈fp,H' b=none) E s1) E s
 done:∀ (X:Cx),X.prog=P->X.w=w->X.K=K->X.calm=true -> ∀ (i:Nat) (pins:List (Addr×Obj)) (s:D0) (σ:St) (H:Hp) (E:h7->D0->Prop),Inv X pins σ H s->(∀ b∈fp,bZ X pins H b)->tn i s.heap->J.stop i H ->
  Hd (model P w) X.A (Kt (.ref it)) (fun r s1=>r=none/\Inv X pins σ H s1) E s
 self:∀ (A:Ib) (i:Nat) (s:D0) (Q:h7->D0->Prop) (E:h7->D0->Prop),tn i s.heap->Q (.ref it) s->Hd (model P w) A (Pg (.ref it)) Q E s
noncomputable abbrev TI:=St->Hp->(It->Hp->Prop)->Prop
def PIE (X:Cx) (pins:List (Addr×Obj)) (σ:St) (tg:Expr) (R:It->Hp->Prop) (itv:h7) (s2:D0):Prop :=
 ∃ (it:Addr) (fp:List Addr) (tn:Nat->Heap->Prop) (J:It) (H':Hp),itv = .ref it/\Inv X pins σ H' s2/\fo X.prog X.w X.K tg J fp it tn/\tn 0 s2.heap/\(∀ b∈fp,bZ X pins H' b)/\R J H'
def PI (X:Cx) (tg iter:Expr) (wi:TI):Prop :=
 ∀ (pins:List (Addr×Obj)) (s:D0) (σ:St) (H:Hp) (R:It->Hp->Prop),Inv X pins σ H s->wi σ H R ->
  Hd (model X.prog X.w) X.A (eval iter X.env) (fun v s1=>Hd (model X.prog X.w) X.A (Pg v) (PIE X pins σ tg R) X.xe s1) X.xe s
theorem mG {M:LO} {A:Ib} {E:h7->D0->Prop} {s:D0} {tg:Expr} {it:Addr} {u:h7} {o:Obj} {n:String} {vs:Array h7} {Q:Unit->D0->Prop} (ho:s.heap.get? it=some o) (q:o.cls = .type n) (hd:o.data = .fields vs)
 (z : ["enumerate", "zip", "dict_itemiterator", "dict_reverseitemiterator", "odict_iterator", "itertools.zip_longest", "itertools.pairwise"].contains n=false) (j:Q () s):Hd M A (Mp tg (.ref it) u) Q E s:=by
 unfold Mp
 cases tg <;> first
  | exact tv j
  | (cases u <;> first
      | exact tv j
      | (refine gV (wpAny_load ho ?_)
         rw [q,hd];show Hd M A (if (["enumerate", "zip", "dict_itemiterator", "dict_reverseitemiterator", "odict_iterator", "itertools.zip_longest", "itertools.pairwise"].contains n&&vs[0]? == some (Lu _))=true then _ else _) Q E s
         rw [if_neg (by intro h;rw [z,MR] at h;cases h)]
         exact tv j))
noncomputable def Itl (K:Frag) (a:Addr):It :=
 ⟨fun i H => ∃ xs x,SqL K H a xs/\xs[i]? = some x,fun i H x H'=>H'=H /\ ∀ xs,SqL K H a xs->xs[i]? = some x,fun i H => ∃ xs,SqL K H a xs/\xs.length<=i⟩
noncomputable def Itt (K:Frag) (a:Addr):It :=
 ⟨fun i H => ∃ xs x,SqT K H a xs/\xs[i]? = some x,fun i H x H'=>H'=H /\ ∀ xs,SqT K H a xs->xs[i]? = some x,fun i H => ∃ xs,SqT K H a xs/\xs.length<=i⟩
noncomputable def Itr (lo:Int) (n:Nat):It:=⟨fun i _=>i < n,fun i H x H'=>H'=H/\x = .int (lo+i),fun i _=>n<=i⟩
theorem u8 {P:Hu} {w:HW} {K:Frag} {tg:Expr} (a it:Addr):fo P w K tg (Itl K a) [it] it (fun i h=>h.IsListIter it a i) where
 mem:=by simp
 obj:=fun i h st b j=>by
  have e:b=it:=by simpa using j
  subst e;obtain ⟨o,e,c,d⟩:=st;exact ⟨o,e,fun v z=>by rw [d] at z;cases z⟩
 keep:=fun i h h' st k=>st.at fun o e=>k it (by simp) o e
 item:=by
  intro X B hw F L i pins s σ H E I hf st hg;subst B hw F;obtain ⟨xs,x,q,hx⟩:=hg;obtain ⟨its,rv,p,O⟩:=I.list q;obtain ⟨u,U,ru⟩:=rv.get hx;obtain ⟨f0,f1,f2,G,f4,J⟩:=hf it (by simp)
  refine NV st p.isList (x:=u) (by simpa using U) fun h' st' sb => ?_
  have Y:Inv X pins σ H { s with heap:=h' }:=I.turned (t':=s.toks) (fun b o j e=>(sb.2 b j).trans e) f0 f1 G f4 J
  obtain ⟨o,e,c,d⟩:=id st';exact ⟨u,rfl,mG (s := { s with heap:=h' }) e c d (by decide) ⟨x,H,Y,ru,⟨rfl,fun ys Z=>by rw [I.list_inj Z q];exact hx⟩,st',fun b j=>(hf b j).1⟩⟩
 done:=by
  intro X B hw F L i pins s σ H E I hf st hg;subst B hw F;obtain ⟨xs,q,hx⟩:=hg;obtain ⟨its,rv,p,O⟩:=I.list q;obtain ⟨f0,f1,f2,G,f4,J⟩:=hf it (by simp)
  have hl:=rv.length;exact Om (I.ok.hd L) st p.isList (by simp;omega) fun h' eb=>⟨rfl,I.turned (t':=s.toks) (fun b o j e=>eb b o j e) f0 f1 G f4 J⟩
 self:=fun _ _ _ _ _ st h=>wpAny_pyIter_listiter st h
theorem rO {P:Hu} {w:HW} {K:Frag} {tg:Expr} (a it:Addr):fo P w K tg (Itt K a) [it] it (fun i h=>h.IsTupleIter it a i) where
 mem:=by simp
 obj:=fun i h st b j=>by
  have e:b=it:=by simpa using j
  subst e;obtain ⟨o,e,c,d⟩:=st;exact ⟨o,e,fun v z=>by rw [d] at z;cases z⟩
 keep:=fun i h h' st k=>st.at fun o e=>k it (by simp) o e
 item:=by
  intro X B hw F L i pins s σ H E I hf st hg;subst B hw F;obtain ⟨xs,x,q,hx⟩:=hg;obtain ⟨its,rv,p,O⟩:=I.tuple q;obtain ⟨u,U,ru⟩:=rv.get hx;obtain ⟨f0,f1,f2,G,f4,J⟩:=hf it (by simp)
  refine wpAny_pyNext_tuple_item st (show s.heap.IsTuple a its.toArray from p) (x:=u) (by simpa using U) fun h' st' sb => ?_
  have Y:Inv X pins σ H { s with heap:=h' }:=I.turned (t':=s.toks) (fun b o j e=>(sb.2 b j).trans e) f0 f1 G f4 J
  obtain ⟨o,e,c,d⟩:=id st';exact ⟨u,rfl,mG (s := { s with heap:=h' }) e c d (by decide) ⟨x,H,Y,ru,⟨rfl,fun ys Z=>by rw [I.tuple_inj Z q];exact hx⟩,st',fun b j=>(hf b j).1⟩⟩
 done:=by
  intro X B hw F L i pins s σ H E I hf st hg;subst B hw F;obtain ⟨xs,q,hx⟩:=hg;obtain ⟨its,rv,p,O⟩:=I.tuple q;obtain ⟨f0,f1,f2,G,f4,J⟩:=hf it (by simp)
  have hl:=rv.length;exact wpAny_pyNext_tuple_end (I.ok.hd L) st (show s.heap.IsTuple a its.toArray from p) (by simp;omega) fun h' eb=>⟨rfl,I.turned (t':=s.toks) (fun b o j e=>eb b o j e) f0 f1 G f4 J⟩
 self:=fun _ _ _ _ _ st h=>wpAny_pyIter_tupleiter st h
theorem rP {P:Hu} {w:HW} {K:Frag} {tg:Expr} (it:Addr) (lo:Int) (n:Nat):fo P w K tg (Itr lo n) [it] it (fun i h=>IsRangeIter h it (lo+(i:Nat)*1) ((n:Int) - (i:Nat)) 1) where
 mem:=by simp
 obj:=fun i h st b j=>by
  have e:b=it:=by simpa using j
  subst e;exact ⟨_,st,fun v z=>by
   have z':Data.fields _=Data.cell v:=z
   cases z'⟩
 keep:=fun i h h' st k=>k it (by simp) _ st
 item:=by
  intro X q hw B F i pins s σ H E I hf st hg;subst q hw B;obtain ⟨f0,f1,f2,G,f4,J⟩:=hf it (by simp)
  have W:=Walks.range (prog:=X.prog) (w:=X.w) (I.ok.hd F) it lo 1 n;refine W.item i s _ _ hg st fun v h' tk L st' kk => ?_;obtain ⟨t,rfl⟩:=L;have O:Inv X pins σ H { s with heap:=h',toks:=tk }:=I.turned (fun b o j e=>kk b o (by simpa using j) e) f0 f1 G f4 J
  refine ⟨_,rfl,mG (s := { s with heap:=h',toks:=tk }) (n := "range_iterator") st' rfl rfl (by decide) ⟨.int (lo+i),H,O,⟨t, ?_⟩,⟨rfl,rfl⟩,st',fun b j=>(hf b j).1⟩⟩
  rw [Int.mul_one]
 done:=by
  intro X q hw B F i pins s σ H E I hf st hg;subst q hw B;obtain ⟨f0,f1,f2,G,f4,J⟩:=hf it (by simp)
  exact wpAny_pyNext_range_end (I.ok.hd F) st (by have:n<=i:=hg;omega) fun h' eb=>⟨rfl,I.turned (t':=s.toks) (fun b o j e=>eb b o j e) f0 f1 G f4 J⟩
 self:=fun _ _ _ _ _ st h=>wpAny_pyIter_rangeiter st h
end
section
section
variable {X:Cx} {tg:Expr}
theorem wL {pins:List (Addr×Obj)} {σ:St} {H:Hp} {s:D0} {R:It->Hp->Prop} {E:h7->D0->Prop} {lo hi:Int} {t u v:Tok} {tk:Nat} (I:Inv X pins σ H s) (h1 : -(2 ^ 62)<=lo) (h2:lo < 2 ^ 62) (z : -(2 ^ 62)<=hi) (B:hi < 2 ^ 62)
 (q:R (Itr lo (hi - lo).toNat) H):Hd (model X.prog X.w) X.A (Pg (.ref s.heap.objs.size)) (PIE X pins σ tg R) E { s with heap:=s.heap.push { cls := .type "range",data := .fields #[.int lo t, .int hi u, .int 1 v] },toks:=tk }:=by
 refine wpAny_pyIter_range (IsRange.new ..) (small_one h1 h2 z B) ?_;have j:Inv X pins σ H { s with heap:=s.heap.push { cls := .type "range",data := .fields #[.int lo t, .int hi u, .int 1 v] },toks:=tk }:=I.kept fun b o e=>q7 _ e
 refine ⟨(s.heap.push { cls := .type "range",data := .fields #[.int lo t, .int hi u, .int 1 v] }).objs.size,[(s.heap.push { cls := .type "range",data := .fields #[.int lo t, .int hi u, .int 1 v] }).objs.size],_,_,H,rfl,
  j.kept (t':=tk) fun b o e=>q7 _ e,rP _ lo (hi - lo).toNat, ?_,fun b F => ?_,q⟩
 ·have e1:lo+((0:Nat):Int)*1=lo:=by simp
  have e2:(((hi - lo).toNat:Nat):Int) - ((0:Nat):Int)=Builtin.Range.rangeSize lo hi 1:=by rw [rangeSize_one];split <;> omega
  show IsRangeIter _ _ (lo+((0:Nat):Int)*1) ((((hi - lo).toNat:Nat):Int) - ((0:Nat):Int)) 1;rw [e1,e2];exact GY _ rfl
 ·have e:b=(s.heap.push { cls := .type "range",data := .fields #[.int lo t, .int hi u, .int 1 v] }).objs.size:=by simpa using F
  subst e;exact j.fpOk (Hc _) (j.hok.fresh (Hc _))
noncomputable def Ds (ta:TA):TI:=fun σ H R=>ta σ H fun vs H1 => ∃ j:Int,vs=[.int j] /\ -(2 ^ 62)<=j/\j < 2 ^ 62/\R (Itr 0 j.toNat) H1
theorem u9 {a:Expr} {ta:TA} {p pos:Pos} (B:Gl X "range") (hm:X.mg "range" = none) (F:PA X [a] ta) (hs:Hv [a] X.env=[(false,eval a X.env)]:=by rfl):PI X tg (.Call (.Name "range" p) [a] [] pos) (Ds ta):=by
 intro pins s σ H R I h;refine Call_ (dM I B hm boot_range (J2 (thn (F pos pins s σ H _ I h) fun us s1 ⟨vs,H1,G,J,z⟩ => ?_) hs rfl));obtain ⟨j,e,z,L,q⟩:=z;subst e
 cases J with
 | cons r rr =>
   cases rr
   obtain ⟨t,rfl⟩:=r;exact call_range_1 (wL G (by omega) (by omega) z L (by simpa using q))
noncomputable def BO (wi:TI) (g:TG) (tb:TS):TS:=fun D σ H=>wi σ H fun J H1 => ∃ W:Nat->Nat->St->Hp->Prop,(∃ m,W 0 m σ H1) /\ ∀ i m σ H,W i m σ H ->
 (J.stop i H/\D.nx σ H)∨(J.go i H /\ ∃ N:St->Hp->Prop,(∀ σ' H',N σ' H' -> ∃ m',m' < m/\W (i+1) m' σ' H') /\ ∀ x H',J.yld i H x H'->g x σ H' fun σ2 H2=>tb { D with nx:=N,ct:=N,bk:=D.nx } σ2 H2)
noncomputable def iX (fp:List Addr) (h:Heap):List (Addr×Obj):=fp.filterMap fun b=>(h.get? b).map fun o=>(b,o)
theorem dj {fp:List Addr} {h:Heap} {b:Addr} {o:Obj} (j:b∈fp) (e:h.get? b=some o):(b,o)∈iX fp h:=Ph.mpr ⟨b,j,by rw [e];rfl⟩
theorem ua {fp:List Addr} {h:Heap} {p:Addr×Obj} (j:p∈iX fp h):p.1∈fp/\h.get? p.1=some p.2:=by
 obtain ⟨b,z,e⟩:=Ph.mp j
 cases q:h.get? b with
 | none=>rw [q] at e;cases e
 | some o =>
   rw [q] at e;have e':(b,o)=p:=Jo.inj e;subst e';exact ⟨z,q⟩
theorem Inv.pinned {pins:List (Addr×Obj)} {σ:St} {H:Hp} {s:D0} {fp:List Addr} (I:Inv X pins σ H s) (hf:∀ b∈fp,bZ X pins H b) (ho:∀ b∈fp, ∃ o,s.heap.get? b=some o /\ ∀ v,o.data ≠ .cell v):Inv X (pins++iX fp s.heap) σ H s :=
 I.pins_of fun p q=>(Hj.mp q).elim (fun z=>I.pin p (Hn _ z)) fun z=>by
  obtain ⟨j,e⟩:=ua z;obtain ⟨f0,f1,f2,_⟩:=hf p.1 j;obtain ⟨o,e',d⟩:=ho p.1 j;rw [e] at e';cases e';exact ⟨e,f0,f1,f2,d⟩
theorem Inv.unpinned {pins pl:List (Addr×Obj)} {σ:St} {H:Hp} {s:D0} (I:Inv X (pins++pl) σ H s):Inv X pins σ H s:=I.pins_of fun p j=>I.pin p (Hn _ (Im _ j))
theorem BP {iter:Expr} {body:List Stmt} {wi:TI} {g:TG} {tb:TS} {pos:Pos} (G:PassesOwn (model X.prog X.w) X.A X.env X.xe) (hc:X.calm=true) (hi:PI X tg iter wi) (hg:PG X tg g) (j:PSs X body tb)
 (hs:∀ x,Js iter X.env x=pure x:=by intro _;rfl):PS X (.For tg iter body [] pos) (BO wi g tb):=by
 intro pins s σ H D I h;refine wpAny_For (thn (hi pins s σ H _ I h) fun v s1 h1=>thn h1 fun itv s2 h2 => ?_) hs;obtain ⟨it,fp,tn,J,H2,e,I2,T,Z,f2,W,⟨m0,w0⟩,turn⟩:=h2;subst e;have stat:∀ {H':Hp},(∀ b∈fp,H' b=none) -> ∀ b∈fp,bZ X pins H' b:=fun hn b j=>⟨hn b j,(f2 b j).2⟩;refine codeAny_forLoop_any (fun n s' => ∃ i σ' H',Inv X pins σ' H' s'/\tn i s'.heap/\(∀ b∈fp,H' b=none)/\W i n σ' H') ?_ m0 ⟨0, σ,H2,I2,Z,fun b j=>(f2 b j).1,w0⟩;rintro n s3 ⟨i, σ3,Y,I3,L,O,w3⟩
 rcases turn i n σ3 Y w3 with ⟨stop,qn⟩ | ⟨go,N,hN,step⟩
 ·refine JR G (thn (T.done X rfl rfl rfl hc i pins s3 σ3 Y X.xe I3 (stat O) L stop) fun r s4 ⟨hr,I4⟩ => ?_);subst hr;exact Og ⟨σ3,Y,I4,qn⟩
 ·refine JR G (thn (T.item X rfl rfl rfl hc i pins s3 σ3 Y X.xe I3 (stat O) L go) fun r s4 ⟨u,hr,h4⟩ => ?_);subst hr;refine JR G (thn h4 fun _ s5 ⟨x,H5,I5,r5,y5,F,EJ⟩ => ?_);have EK:=I5.pinned (stat EJ) (T.obj _ _ F);refine JR G (thn (hg _ s5 σ3 H5 x u _ EK r5 (step x H5 y5)) fun _ s6 ⟨σ6,H6,I6,q6⟩ => ?_);refine JR G (thn (j _ s6 σ6 H6 _ I6 q6) fun f s7 B => ?_);have again:∀ {σ7:St} {q:Hp},Inv X (pins++iX fp s5.heap) σ7 q s7->N σ7 q -> ∃ m,m < n /\ ∃ i σ' H',Inv X pins σ' H' s7/\tn i s7.heap/\(∀ b∈fp,H' b=none)/\W i m σ' H':=fun {σ7 q} z U=>by
   obtain ⟨m',hm,w7⟩:=hN σ7 q U;refine ⟨m',hm,i+1, σ7,q,z.unpinned,T.keep _ _ _ F fun b j o e=>(z.pin (b,o) (Hn _ (Hn _ (dj j e)))).1,fun b j => ?_,w7⟩;obtain ⟨o,e,d⟩:=T.obj _ _ F b j;exact (z.pin (b,o) (Hn _ (Hn _ (dj j e)))).2.1
  cases f with
  | next=>obtain ⟨σ7,q,z,U⟩:=B;exact again z U
  | cont=>obtain ⟨σ7,q,z,U⟩:=B;exact again z U
  | brk=>obtain ⟨σ7,q,z,B⟩:=B;exact ⟨σ7,q,z.unpinned,B⟩
  | ret v=>obtain ⟨x7, σ7,q,z,r7,B⟩:=B;exact ⟨x7, σ7,q,z.unpinned,r7,B⟩
end
end
section
noncomputable abbrev R2:=V->V->Hp->VK->Prop
def OpR (X:Cx) (f:h7->h7->Sem h7) (r:R2):Prop :=
 ∀ (pins:List (Addr×Obj)) (s:D0) (σ:St) (H:Hp) (x y:V) (v u:h7) (Q:VK),Inv X pins σ H s->RelV x v->RelV y u->r x y H Q ->
  Hd (model X.prog X.w) X.A (f v u) (EP X pins σ Q) X.xe s
def UnR (X:Cx) (f:h7->Sem h7) (r:V->Hp->VK->Prop):Prop :=
 ∀ (pins:List (Addr×Obj)) (s:D0) (σ:St) (H:Hp) (x:V) (v:h7) (Q:VK),Inv X pins σ H s->RelV x v->r x H Q ->
  Hd (model X.prog X.w) X.A (f v) (EP X pins σ Q) X.xe s
def CallR (X:Cx) (f:h7) (r:List V->Hp->VK->Prop):Prop :=
 ∀ (pins:List (Addr×Obj)) (s:D0) (σ:St) (H:Hp) (xs:List V) (us:List h7) (Q:VK),Inv X pins σ H s->Vals xs us->r xs H Q ->
  Hd (model X.prog X.w) X.A (call f us) (EP X pins σ Q) X.xe s
def El (X:Cx) (r:V->Hp->(Bool->Hp->Prop)->Prop):Prop :=
 ∀ (pins:List (Addr×Obj)) (s:D0) (σ:St) (H:Hp) (x:V) (v:h7) (Q:Bool->Hp->Prop),Inv X pins σ H s->RelV x v->r x H Q ->
  Hd (model X.prog X.w) X.A (truthy v) (TP X pins σ Q) X.xe s
noncomputable def tOp (r:R2) (ta tb:TE):TE:=fun σ H Q=>ta σ H fun x H1=>tb σ H1 fun y H2=>r x y H2 Q
noncomputable def tUn (r:V->Hp->VK->Prop) (ta:TE):TE:=fun σ H Q=>ta σ H fun x H1=>r x H1 Q
noncomputable def rI (C:Int->Int->Prop) (g:Int->Int->V):R2:=fun x y H Q => ∃ i j,x = .int i/\y = .int j/\C i j/\Q (g i j) H
noncomputable def rI0 (g:Int->Int->V):R2:=fun x y H Q => ∃ i j,x = .int i/\y = .int j/\Q (g i j) H
noncomputable def rU (g:Int->V):V->Hp->VK->Prop:=fun x H Q => ∃ i,x = .int i/\Q (g i) H
section
variable {X:Cx} {a b c:Expr} {ta tb tc:TE} {pos:Pos}
theorem wM (j:PE X a ta) (q:PE X b tb) {pins:List (Addr×Obj)} {s:D0} {σ:St} {H:Hp} {R:V->V->Hp->Prop} (I:Inv X pins σ H s)
 (h:ta σ H fun x H1=>tb σ H1 fun y H2=>R x y H2) {Q:h7->D0->Prop} {f:h7->h7->Sem h7}
 (hf:∀ v u s2 x y H2,Inv X pins σ H2 s2->RelV x v->RelV y u->R x y H2->Hd (model X.prog X.w) X.A (f v u) Q X.xe s2) :
 Hd (model X.prog X.w) X.A (eval a X.env) (fun v s₁ => Hd (model X.prog X.w) X.A (eval b X.env) (fun u s₂ => Hd (model X.prog X.w) X.A (f v u) Q X.xe s₂) X.xe s₁) X.xe s:=by
 refine thn (j pins s σ H _ I h) fun v s1 ⟨x,H1,z,B,F⟩ => ?_;refine thn (q pins s1 σ H1 _ z F) fun u s2 ⟨y,H2,G,J,L⟩ => ?_;exact hf v u s2 x y H2 G B J L
theorem Dt {op:KG} {r:R2} (ho:OpR X (IU op) r) (j:PE X a ta) (z:PE X b tb):PE X (.BinOp a op b pos) (tOp r ta tb):=by
 intro pins s σ H Q I h;exact wpAny_BinOp (wM j z I h fun v u s2 x y H2 B rx ry q=>ho pins s2 σ H2 x y v u Q B rx ry q)
theorem Du {op:UnaryOp} {r:V->Hp->VK->Prop} (ho:UnR X (unaryOp op) r) (j:PE X a ta):PE X (.UnaryOp op a pos) (tUn r ta):=by
 intro pins s σ H Q I h;exact UnaryOp_ (thn (j pins s σ H _ I h) fun v s1 ⟨x,H1,q,z,B⟩=>ho pins s1 σ H1 x v Q q z B)
theorem opI {f:h7->h7->Sem h7} {C:Int->Int->Prop} {g:Int->Int->Int}
 (rule:∀ (i j:Int) (t u:Tok) (s:D0) (Q:h7->D0->Prop) (E:h7->D0->Prop),C i j->Q (.int (g i j) s.toks) { s with toks:=s.toks+1 }->Hd (model X.prog X.w) X.A (f (.int i t) (.int j u)) Q E s) :
 OpR X f (rI C fun i j => .int (g i j)):=by
 intro pins s σ H x y v u Q I rx ry h;obtain ⟨i,j,rfl,rfl,z,q⟩:=h;obtain ⟨t,rfl⟩:=rx;obtain ⟨t',rfl⟩:=ry;exact rule i j t t' s _ _ z ⟨.int (g i j),H,I.tok _,⟨_,rfl⟩,q⟩
theorem rQ {f:h7->h7->Sem h7} {g:Int->Int->Int}
 (rule:∀ (i j:Int) (t u:Tok) (s:D0) (Q:h7->D0->Prop) (E:h7->D0->Prop),Q (.int (g i j) s.toks) { s with toks:=s.toks+1 }->Hd (model X.prog X.w) X.A (f (.int i t) (.int j u)) Q E s) :
 OpR X f (rI0 fun i j => .int (g i j)):=by
 intro pins s σ H x y v u Q I rx ry h;obtain ⟨i,j,rfl,rfl,q⟩:=h;obtain ⟨t,rfl⟩:=rx;obtain ⟨t',rfl⟩:=ry;exact rule i j t t' s _ _ ⟨.int (g i j),H,I.tok _,⟨_,rfl⟩,q⟩
theorem rR {f:h7->h7->Sem h7} {g:Int->Int->Bool}
 (rule:∀ (i j:Int) (t u:Tok) (s:D0) (Q:h7->D0->Prop) (E:h7->D0->Prop),Q (.bool (g i j)) s->Hd (model X.prog X.w) X.A (f (.int i t) (.int j u)) Q E s) :
 OpR X f (rI0 fun i j => .bl (g i j)):=by
 intro pins s σ H x y v u Q I rx ry h;obtain ⟨i,j,rfl,rfl,q⟩:=h;obtain ⟨t,rfl⟩:=rx;obtain ⟨t',rfl⟩:=ry;exact rule i j t t' s _ _ ⟨.bl (g i j),H,I,rfl,q⟩
def Em (i j:Int):Prop := 0<=j/\j<=1000000/\i.natAbs < 2 ^ 64
theorem op_add:OpR X (IU .Add) (rI0 fun i j => .int (i+j)):=rQ fun _ _ _ _ _ _ _ q=>add_int q
theorem BQ:OpR X (IU .Sub) (rI0 fun i j => .int (i - j)):=rQ fun _ _ _ _ _ _ _ q=>sub_int q
theorem BR:OpR X (IU .Mod) (rI (fun _ j => 0 < j) fun i j => .int (i % j)):=opI fun i j _ _ _ _ _ z q=>by
 have h1:(0:Int) < j:=z;exact mod_int' (by omega) (by rw [Int.fmod_eq_emod_of_nonneg i (by omega)];exact q)
theorem BS:OpR X (IU .Pow) (rI Em fun i j => .int (i ^ j.toNat)):=opI fun _ _ _ _ _ _ _ z q=>pow_int_small z.1 z.2.1 z.2.2 q
theorem zO:OpR X (JK .Add) (rI0 fun i j => .int (i+j)):=rQ fun _ _ _ _ _ _ _ q=>iadd_int q
theorem zP:OpR X (JK .Sub) (rI0 fun i j => .int (i - j)):=rQ fun _ _ _ _ _ _ _ q=>isub_int q
theorem unI {f:h7->Sem h7} {g:Int->Int}
 (rule:∀ (i:Int) (t:Tok) (s:D0) (Q:h7->D0->Prop) (E:h7->D0->Prop),Q (.int (g i) s.toks) { s with toks:=s.toks+1 }->Hd (model X.prog X.w) X.A (f (.int i t)) Q E s) :
 UnR X f (rU fun i => .int (g i)):=by
 intro pins s σ H x v Q I rx h;obtain ⟨i,rfl,q⟩:=h;obtain ⟨t,rfl⟩:=rx;exact rule i t s _ _ ⟨.int (g i),H,I.tok _,⟨_,rfl⟩,q⟩
theorem BU:UnR X (unaryOp .USub) (rU fun i => .int (-i)):=unI fun _ _ _ _ _ q=>neg_int q
end
section
variable {X:Cx} {a b c:Expr} {ta tb tc:TE} {pos:Pos}
theorem Dv:OpR X (Il .Lt) (rI0 fun i j => .bl (decide (i < j))):=rR fun _ _ _ _ _ _ _ q=>lt_int q
theorem Dw:OpR X (Il .LtE) (rI0 fun i j => .bl (decide (i<=j))):=rR fun _ _ _ _ _ _ _ q=>le_int q
theorem Dx:OpR X (Il .Gt) (rI0 fun i j => .bl (decide (j < i))):=rR fun _ _ _ _ _ _ _ q=>gt_int q
theorem Dy:OpR X (Il .GtE) (rI0 fun i j => .bl (decide (j<=i))):=rR fun _ _ _ _ _ _ _ q=>ge_int q
theorem OpR.or {f:h7->h7->Sem h7} {r r':R2} (h:OpR X f r) (h':OpR X f r'):OpR X f (fun x y H Q=>r x y H Q∨r' x y H Q):=by
 intro pins s σ H x y v u Q I rx ry q
 rcases q with q | q
 ·exact h pins s σ H x y v u Q I rx ry q
 ·exact h' pins s σ H x y v u Q I rx ry q
theorem zQ {op:P5} {r:R2} (ho:OpR X (Il op) r) (j:PE X a ta) (z:PE X b tb) (hm:L8 op b=false):PE X (.Compare a [op] [b] pos) (tOp r ta tb):=by
 intro pins s σ H Q I h;exact wpAny_Compare1 (wM j z I h fun v u s2 x y H2 B rx ry q=>ho pins s2 σ H2 x y v u Q B rx ry q) hm
noncomputable def rS (t:TE):TT:=fun σ H Q=>t σ H fun x H' => ∃ k,x = .bl k/\Q k H'
theorem zR {op:P5} {r:R2} (ho:OpR X (Il op) r) (j:PE X a ta) (q:PE X b tb) (hm:L8 op b=false):PT X (.Compare a [op] [b] pos) (rS (tOp r ta tb)):=by
 intro pins s σ H Q I h;refine wpAny_isTrue_Compare1 (thn (j pins s σ H _ I h) fun v s1 ⟨x,H1,B,F,G⟩=>thn (q pins s1 σ H1 _ B G) fun u s2 ⟨y,H2,J,L,O⟩ =>
  thn (ho pins s2 σ H2 x y v u _ J F L O) fun c s3 ⟨z,U,Y,Z,k,e,q3⟩ => ?_) hm
 subst e
 cases Z
 exact IP ⟨U,Y,q3⟩
noncomputable def mW (r r':R2) (ta tb tc:TE):TE:=fun σ H Q=>ta σ H fun x H1=>tb σ H1 fun y H2=>r x y H2 fun z H3 => ∃ k,z = .bl k /\
 (if k=true then tc σ H3 fun w' H4=>r' y w' H4 Q else Q (.bl false) H3)
theorem wN {op op':P5} {r r':R2} (ho:OpR X (Il op) r) (j:OpR X (Il op') r') (J:PE X a ta) (L:PE X b tb) (O:PE X c tc)
 (hm:ND [op,op'] [b,c]=false:=by with_unfolding_all rfl):PE X (.Compare a [op,op'] [b,c] pos) (mW r r' ta tb tc):=by
 intro pins s σ H Q I h;refine Compare_chain (thn (J pins s σ H _ I h) fun v s1 ⟨x,H1,U,Y,Z⟩=>chain_link (thn (L pins s1 σ H1 _ U Z) fun u s2 ⟨y,H2,I2,q,q2⟩ =>
  thn (ho pins s2 σ H2 x y v u _ I2 Y q q2) fun d s3 ⟨z,B,F,r3,k,e,G⟩ => ?_)) hm
 subst e
 cases r3
 refine IP ?_
 cases k with
 | false=>exact ite_ff ⟨.bl false,B,F,rfl,G⟩
 | true=>exact ite_tt (chain_last (thn (O pins s3 σ B _ F G) fun w' s4 ⟨z',H4,I4,r4,q4⟩=>j pins s4 σ H4 y z' u w' Q I4 q r4 q4))
theorem wP {op op':P5} {r r':R2} (ho:OpR X (Il op) r) (j:OpR X (Il op') r') (J:PE X a ta) (L:PE X b tb) (O:PE X c tc)
 (hm:ND [op,op'] [b,c]=false:=by with_unfolding_all rfl):PT X (.Compare a [op,op'] [b,c] pos) (rS (mW r r' ta tb tc)):=by
 intro pins s σ H Q I h;refine isTrue_chain (thn (J pins s σ H _ I h) fun v s1 ⟨x,H1,U,Y,Z⟩=>test_link (thn (L pins s1 σ H1 _ U Z) fun u s2 ⟨y,H2,I2,q,q2⟩ =>
  thn (ho pins s2 σ H2 x y v u _ I2 Y q q2) fun d s3 ⟨z,B,F,r3,k,e,G⟩ => ?_)) hm
 subst e
 cases r3
 refine IP ?_
 cases k with
 | false =>
   obtain ⟨k',e',q'⟩:=G
   cases e'
   exact ite_ff ⟨B,F,q'⟩
 | true =>
   refine ite_tt (test_last (thn (O pins s3 σ B _ F G) fun w' s4 ⟨z',H4,I4,r4,q4⟩=>thn (j pins s4 σ H4 y z' u w' _ I4 q r4 q4) fun d' s5 ⟨z2,H5,I5,r5,k2,e2,q5⟩ => ?_));subst e2
   cases r5
   exact IP ⟨H5,I5,q5⟩
def wQ (K:Frag) (x:V) (H:Hp) (k:Bool):Prop :=
 match x with
 | .non=>k=false
 | .bl b=>k=b
 | .int i=>k=(i != 0)
 | .str y=>y.length<=GX/\k=((y.length:Int) != 0)
 | .byt y=>y.size<=GX/\k=((y.size:Int) != 0)
 | .ref p=>(∃ xs,SqL K H p xs/\k = !xs.isEmpty)∨(∃ xs,SqT K H p xs/\k = !xs.isEmpty) ∨ ∃ kvs,H p=some (.dK kvs)/\k = !kvs.isEmpty
 | _=>False
theorem rT {κ:Type} {kvs:List (κ × V)} {vs:List (κ × h7)} (r:KV kvs vs):(!vs.isEmpty) = !kvs.isEmpty:=by
 cases r <;> rfl
theorem iY {xs:List V} {its:List h7} (r:Vals xs its):(!its.toArray.isEmpty) = !xs.isEmpty:=by
 cases r <;> simp
theorem eQ:(GX:Nat) < 2 ^ 63:=by rw [GU];decide
theorem BV:El X (fun x H Q => ∃ k,wQ X.K x H k/\Q k H):=by
 intro pins s σ H x v Q I rx h;obtain ⟨k,e,q⟩:=h;have F:=eQ;have hs:GX=16777216:=GU
 cases x with
 | non =>
   cases rx
   have e':k=false:=e;subst e';exact truthy_none ⟨H,I,q⟩
 | bl b =>
   cases rx
   have e':k=b:=e;subst e';exact IP ⟨H,I,q⟩
 | int i =>
   obtain ⟨t,rfl⟩:=rx;have e':k=(i != 0):=e;subst e';exact PySem.P.truthy_int ⟨H,I,q⟩
 | str y =>
   obtain ⟨t,rfl⟩:=rx;obtain ⟨z,e'⟩:y.length<=GX/\k=((y.length:Int) != 0):=e;subst e';exact PySem.P.truthy_str (by omega) ⟨H,I.tok _,q⟩
 | byt y =>
   obtain ⟨t,rfl⟩:=rx;obtain ⟨z,e'⟩:y.size<=GX/\k=((y.size:Int) != 0):=e;subst e';exact PySem.W.truthy_bytes (by omega) ⟨H,I.tok _,q⟩
 | ref p =>
   cases rx
   have e':(∃ xs,SqL X.K H p xs/\k = !xs.isEmpty)∨(∃ xs,SqT X.K H p xs/\k = !xs.isEmpty) ∨ ∃ kvs,H p=some (.dK kvs)/\k = !kvs.isEmpty:=e
   rcases e' with ⟨xs,hx,e'⟩ | ⟨xs,hx,e'⟩ | ⟨kvs,hx,e'⟩
   ·subst e';obtain ⟨its,r,pl,j⟩:=I.list hx;have hlen:=r.length;exact wpAny_truthy_list pl.isList (by simp only [H9];omega) ⟨H,I.tok _,by rw [iY r];exact q⟩
   ·subst e';obtain ⟨its,r,pl,j⟩:=I.tuple hx;have hlen:=r.length;exact truthy_tuple pl (by simp only [H9];omega) ⟨H,I.tok _,by rw [iY r];exact q⟩
   ·subst e';obtain ⟨j,B,vs,r,m⟩:kvs.length<=GX/\(p==Iu)=false /\ ∃ vs,KV kvs vs/\s.heap.DictOf (aI X.prog X.w) p vs:=I.hok p _ hx;have hlen:kvs.length=vs.length:=JX r;exact wpAny_truthy_dict B m (by omega) ⟨H,I.tok _,by rw [rT r];exact q⟩
 | _=>exact (show False from e).elim
theorem wR (j:PE X a ta) (he:∀ whole,isTrue a X.env whole=(do let v <- whole;Nm a.pos;holding [v] (truthy v))) :
 PT X a (fun σ H Q=>ta σ H fun x H' => ∃ k,wQ X.K x H' k/\Q k H'):=by
 intro pins s σ H Q I h;exact isTrue_plain (thn (j pins s σ H _ I h) fun v s1 ⟨x,H1,q,z,B⟩=>BV pins s1 σ H1 x v Q q z B) (he _)
theorem rV:OpR X (IU .Add) (fun x y H Q => ∃ i j,x = .str i/\y = .str j/\i.length+j.length<=GX/\Q (.str (i++j)) H):=by
 intro pins s σ H x y v u Q I rx ry h;obtain ⟨i,j,rfl,rfl,z,q⟩:=h;obtain ⟨t,rfl⟩:=rx;obtain ⟨t',rfl⟩:=ry;exact add_str (fun t' tk=>⟨.str (i++j),H,I.tok _,⟨_,rfl⟩,q⟩) z
theorem eA {x:V} {us:List h7} (r:Vals [x] us):∃ u,us=[u]/\RelV x u:=by
 cases r with
 | cons j q=>cases q;exact ⟨_,rfl,j⟩
theorem mH {x y:V} {us:List h7} (r:Vals [x,y] us):∃ u w',us=[u,w']/\RelV x u/\RelV y w':=by
 cases r with
 | cons j q =>
   cases q with
   | cons z B=>cases B;exact ⟨_,_,rfl,j,z⟩
theorem wU:CallR X (.builtin "abs") (fun xs H Q => ∃ i,xs=[.int i]/\Q (.int (if i < 0 then -i else i)) H):=by
 intro pins s σ H xs us Q I r h;obtain ⟨i,rfl,q⟩:=h;obtain ⟨u,rfl,t,rfl⟩:=eA r;exact call_abs_int fun u tk=>⟨.int (if i < 0 then -i else i),H,I.tok _,⟨_,rfl⟩,q⟩
theorem ub (B:X.calm=true):CallR X (.builtin "min") (fun xs H Q => ∃ i j,xs=[.int i, .int j]/\Q (.int (if j < i then j else i)) H):=by
 intro pins s σ H xs us Q I r h;obtain ⟨i,j,rfl,q⟩:=h;obtain ⟨u,w',rfl,⟨t,rfl⟩,⟨t',rfl⟩⟩:=mH r;refine min_two_ints (I.ok.hd B) fun h' tk k=>⟨_,H,I.kept k, ?_,q⟩
 by_cases z:j < i
 ·rw [if_pos z,if_pos z];exact ⟨_,rfl⟩
 ·rw [if_neg z,if_neg z];exact ⟨_,rfl⟩
theorem uc:CallR X (.type "int") (fun xs H Q=>(∃ i,xs=[.int i]/\Q (.int i) H) ∨ ∃ k,xs=[.bl k]/\Q (.int (if k then 1 else 0)) H):=by
 intro pins s σ H xs us Q I r h
 rcases h with ⟨i,rfl,q⟩ | ⟨k,rfl,q⟩
 ·obtain ⟨u,rfl,t,rfl⟩:=eA r;exact call_int_int ⟨.int i,H,I,⟨_,rfl⟩,q⟩
 ·obtain ⟨u,rfl,j⟩:=eA r
  cases j
  exact call_int_bool ⟨.int (if k then 1 else 0),H,I.tok _,⟨_,rfl⟩,q⟩
def Eo (K:Frag) (x:V) (H:Hp) (n:Nat):Prop :=
 match x with
 | .str y=>y.length<=GX/\n=y.length
 | .byt y=>y.size<=GX/\n=y.size
 | .ref p=>(∃ xs,SqL K H p xs/\n=xs.length) ∨ ∃ xs,SqT K H p xs/\n=xs.length
 | _=>False
theorem wV:CallR X (.builtin "len") (fun xs H Q => ∃ x n,xs=[x]/\Eo X.K x H n/\Q (.int n) H):=by
 intro pins s σ H xs us Q I r h;obtain ⟨x,n,rfl,e,q⟩:=h;obtain ⟨u,rfl,rx⟩:=eA r;have B:=eQ;have hs:GX=16777216:=GU
 cases x with
 | str y =>
   obtain ⟨t,rfl⟩:=rx;obtain ⟨j,e'⟩:y.length<=GX/\n=y.length:=e;subst e';exact len_str (by omega) ⟨.int _,H,I.tok _,⟨_,rfl⟩,q⟩
 | byt y =>
   obtain ⟨t,rfl⟩:=rx;obtain ⟨j,e'⟩:y.size<=GX/\n=y.size:=e;subst e';exact PySem.W.len_bytes (by omega) ⟨.int _,H,I.tok _,⟨_,rfl⟩,q⟩
 | ref p =>
   cases rx
   have e':(∃ xs,SqL X.K H p xs/\n=xs.length) ∨ ∃ xs,SqT X.K H p xs/\n=xs.length:=e
   rcases e' with ⟨xs,hx,e'⟩ | ⟨xs,hx,e'⟩
   ·subst e';obtain ⟨its,r',pl,z⟩:=I.list hx;have hlen:=r'.length;exact Calls.call_len_list pl.isList (by simp only [H9];omega) ⟨.int xs.length,H,I.tok _,⟨_,by simp only [H9];rw [hlen]⟩,q⟩
   ·subst e';obtain ⟨its,r',pl,z⟩:=I.tuple hx;have hlen:=r'.length;exact len_tuple pl (by simp only [H9];omega) ⟨.int xs.length,H,I.tok _,⟨_,by simp only [H9];rw [hlen]⟩,q⟩
 | _=>exact (show False from e).elim
end
end
section
structure ObjM (h:Heap) (x dx C:Addr) (mA:Str->Option h7):Prop where
 obj:h.get? x=some (Of C dx)
 ns:h.Ns1 dx mA
 ne:dx≠x
theorem ud {h:Heap} {dx:Addr} {mA:Str->Option h7} (n:h.Ns1 dx mA):∃ od,h.get? dx=some od /\ ∀ name,Ov name od=some (mA name):=by
 obtain ⟨o,es,ep,ho,hd,B,_,hm⟩:=n;refine ⟨o,ho,fun name => ?_⟩;have e:=hm name;unfold nsFind findBy at e;rw [<- Array.find?_toList] at e;unfold Ov;rw [hd];dsimp only
 split
 ·rename_i y q;rw [q] at e;exact congrArg some e
 ·rename_i q;rw [q] at e;have a:es.toList.any (·.refKey)=false:=by
   rw [List.any_eq_false];intro y F;obtain ⟨z,t,j⟩:=B y (Array.mem_toList_iff.mp F);simp [DictEntry.refKey,j]
  have a' : ¬ es.toList.any (·.refKey)=true:=by rw [a];exact H0
  rw [if_neg a'];exact congrArg some e
theorem ObjM.look {h:Heap} {x dx C:Addr} {mA:Str->Option h7} (I:ObjM h x dx C mA):∃ od,PySem.W.InstAt h x (Of C dx) C (some od) /\ ∀ name,Ov name od=some (mA name) :=
 let ⟨od,ho,j⟩:=ud I.ns
 ⟨od,⟨I.obj,rfl,rfl,ho⟩,j⟩
theorem Rz {v:V} {o:Option h7} (r:RelO (some v) o):∃ u,o=some u/\RelV v u:=by
 cases o with
 | none=>exact (show False from r).elim
 | some u=>exact ⟨u,rfl,r⟩
section
variable {P:Hu} {w:HW} {H H':Hp} {h h':Heap} {a C dx:Addr} {fs fs':List (Str×V)}
theorem zS (hok:HOk P w H h) (e:H a=some (.ins C dx fs)):∃ mA,ObjM h a dx C mA/\(∀ f,RelO (fs.lookup f) (mA f))/\PySem.Within mA (fs.map (·.1))/\fs.length<=1000/\H dx=some (.own a):=by
 obtain ⟨d,z,ne,ob,mA,n,r,q⟩:=(show ObjOk P w H h a (.ins C dx fs) from hok a _ e);exact ⟨mA,⟨ob,n,ne⟩,r,q,z,d⟩
end
structure Cls (K:Frag) (C:Addr):Prop where
 pg:Q4 K C Str.empty=true
 hd:PySem.W.hasDictIn K C=true
 po:PySem.W.plainOver K C=true
 sa:PySem.W.findIn K (.ref C) "__setattr__" = some (some (.builtin "object.__setattr__"))
theorem Cls.get {K:Frag} {C:Addr} (c:Cls K C) (f:Str):Q4 K C f=true:=c.pg
section
variable {X:Cx} {pins:List (Addr×Obj)} {σ:St} {H:Hp} {s:D0} {A:Ib} {E:h7->D0->Prop} {Q:h7->D0->Prop} {c:h7} {b:Bool}
inductive ca (K:Frag) (H:Hp):V->h7->Prop where
 | non:ca K H .non (.type "NoneType")
 | bl (x:Bool):ca K H (.bl x) (.type "bool")
 | int (i:Int):ca K H (.int i) (.type "int")
 | str (x:Str):ca K H (.str x) (.type "str")
 | flt (x:UInt64):ca K H (.flt x) (.type "float")
 | lst {a:Addr} {xs:List V} (e:H a=some (.lst xs)):ca K H (.ref a) (.type "list")
 | frz {a:Addr} {o:Obj} {xs:List V} (e:H a=some (.frz o (.lst xs))):ca K H (.ref a) (.type "list")
 | tup {a:Addr} {xs:List V} (e:SqT K H a xs):ca K H (.ref a) (.type "tuple")
 | dK {a:Addr} {kvs:List (Key×V)} (e:H a=some (.dK kvs)):ca K H (.ref a) (.type "dict")
 | dT {a:Addr} {kvs:List (List Key×V)} (e:H a=some (.dT kvs)):ca K H (.ref a) (.type "dict")
 | ins {a C dx:Addr} {fs:List (Str×V)} (e:H a=some (.ins C dx fs)) (cl:Cls K C) (ha:PySem.W.findIn K (.ref C) "__class__" = some (some (.builtin "object.__class__")))
    (hn:PySem.W.specialIn K (.builtin "object.__class__") "__get__" = some (some (.builtin "getset_descriptor.__get__"))) (htk:PySem.W.takesIn K (.builtin "object.__class__")=some true)
    (hm:PySem.W.mroIn K C (.type "object")=some true):ca K H (.ref a) (.ref C)
theorem ue {x:V} {u t:h7} (I:Inv X pins σ H s) (rx:RelV x u) (ty:ca X.K H x t) (e:PySem.W.kitOne X.K t c=some b) (h:∀ tk,Q (.bool b) { s with toks:=tk }) :
 Hd (model X.prog X.w) A (call (.builtin "isinstance") [u,c]) Q E s:=by
 cases ty with
 | non=>cases (show u=JW from rx);exact II Pz I.kIn IX e (fun z=>nomatch z) h
 | bl y=>cases (show u=NT y from rx);exact II PD I.kIn IX e (fun z=>nomatch z) h
 | int i=>obtain ⟨t,q⟩:=(show ∃ t,u=OR i t from rx);cases q;exact II Q5 I.kIn IX e (fun z=>nomatch z) h
 | str y=>obtain ⟨t,q⟩:=(show ∃ t,u=OS y t from rx);cases q;exact II Q6 I.kIn IX e (fun z=>nomatch z) h
 | flt y=>obtain ⟨t,q⟩:=(show ∃ t,u=Qs y t from rx);cases q;exact II Pj I.kIn IX e (fun z=>nomatch z) h
 | @lst a xs ea =>
  cases (show u=I9 a from rx)
  obtain ⟨_,_,n,_,h1⟩:=(show ObjOk X.prog X.w H s.heap a (.lst xs) from I.hok a _ ea);exact II Lv I.kIn ⟨_,h1,rfl⟩ e (fun z=>nomatch z) h
 | @frz a ob xs ea =>
  cases (show u=I9 a from rx)
  obtain ⟨_,_,_,n,_,h1⟩:=(show ObjOk X.prog X.w H s.heap a (.frz ob (.lst xs)) from I.hok a _ ea);exact II Lv I.kIn ⟨_,h1,rfl⟩ e (fun z=>nomatch z) h
 | @tup a xs ea =>
  cases (show u=I9 a from rx)
  obtain ⟨_,_,p,_⟩:=I.tuple ea;obtain ⟨o,h1,h2,_⟩:=p;exact II Pk I.kIn ⟨o,h1,h2⟩ e (fun z=>nomatch z) h
 | @dK a kvs ea =>
  cases (show u=I9 a from rx)
  obtain ⟨_,_,vs,_,p⟩:=(show ObjOk X.prog X.w H s.heap a (.dK kvs) from I.hok a _ ea);obtain ⟨o,es,ep,h1,h2,_⟩:=p;exact II Lw I.kIn ⟨o,h1,h2.1⟩ e (fun z=>nomatch z) h
 | @dT a kvs ea =>
  cases (show u=I9 a from rx)
  obtain ⟨_,_,xs,_,o,es,ep,h1,h2,_⟩:=(show ObjOk X.prog X.w H s.heap a (.dT kvs) from I.hok a _ ea);exact II Lw I.kIn ⟨o,h1,h2.1⟩ e (fun z=>nomatch z) h
 | @ins a C dx fs ea cl ha hn htk hm =>
  cases (show u=I9 a from rx)
  obtain ⟨mA,O,_⟩:=zS I.hok ea;obtain ⟨od,J,_⟩:=O.look;exact II (PySem.W.kitx_own (cl.get _) cl.hd ha hn htk hm) I.kIn J e (fun z=>nomatch z) h
end
end
section
structure Room (k:Nat) (A:Ib):Prop where
 hd:A.handled=none
 dp:A.depth+3*k+5 < recursionLimit
 un:A.units+16*k+200 < JH
theorem Room.deeper {k:Nat} {A:Ib} (r:Room (k+1) A) (env:Env):Room k (A.deeper env) :=
 ⟨r.hd,by have:=r.dp;show A.depth+1+3*k+5 < _;omega,by have:=r.un;show A.units+3+16*k+200 < _;omega⟩
theorem Room.depth {k:Nat} {A:Ib} (r:Room k A):A.depth < recursionLimit:=by have:=r.dp;omega
theorem Room.units {k:Nat} {A:Ib} (r:Room k A):A.units+64 < JH:=by have:=r.un;omega
noncomputable def BW:TA:=fun _ H Q=>Q [] H
noncomputable def yR (ta:TE) (tr:TA):TA:=fun σ H Q=>ta σ H fun x H1=>tr σ H1 fun xs H2=>Q (x::xs) H2
section
variable {X:Cx} {e:Expr} {es:List Expr} {te:TE} {t:TA} {pos:Pos}
theorem iZ:PA X [] BW:=fun _ _ _ _ H Q I h=>PF ⟨[],H,I, .nil,h⟩
theorem cH (j:PE X e te) (q:PA X es t) (hs:Hv (e::es) X.env=(false,eval e X.env)::Hv es X.env:=by rfl):PA X (e::es) (yR te t):=by
 intro pos pins s σ H Q I h;rw [hs];show Hd _ _ (spliced ((false,eval e X.env)::L3 pos (Hv es X.env))) _ _ s;refine MU (thn (j pins s σ H _ I h) fun u s1 ⟨x,H1,z,B,F⟩ => ?_);exact thn (q pos pins s1 σ H1 _ z F) fun us s2 ⟨xs,H2,G,J,L⟩=>⟨x::xs,H2,G, .cons B J,L⟩
noncomputable def Ep (t:TA):TE:=fun σ H Q=>t σ H fun xs H1=>xs.length<=GX /\ ∀ p,H1 p=none->Q (.ref p) (upd H1 p (.tup xs))
noncomputable def Er (t:TA):TE:=fun σ H Q=>t σ H fun xs H1=>xs.length<=GX /\ ∀ p,H1 p=none->Q (.ref p) (upd H1 p (.lst xs))
theorem uf {B} (h:PA X es t):PE X (.Tuple es B pos) (Ep t):=by
 intro pins s σ H Q I hq;refine wpAny_Tuple_spliced (thn (h pos pins s σ H _ I hq) fun us s1 ⟨xs,H1,j,r,z,q⟩=>⟨by rw [<- r.length];exact z, ?_⟩)
 have hf:H1 s1.heap.objs.size=none:=j.hok.fresh (Hc _);refine ⟨.ref s1.heap.objs.size,upd H1 s1.heap.objs.size (.tup xs),j.laid (t':=s1.toks) (fun b u e=>q7 _ e) (Hc _) ?_,rfl,q _ hf⟩;exact ⟨z,us,r,⟨_,GY _ rfl,rfl,_,rfl⟩⟩
theorem BX (h:PA X es t):PE X (.List es pos) (Er t):=by
 intro pins s σ H Q I hq;refine wpAny_List_spliced (thn (h pos pins s σ H _ I hq) fun us s1 ⟨xs,H1,j,r,z,q⟩=>⟨by rw [<- r.length];exact z, ?_⟩)
 have hf:H1 s1.heap.objs.size=none:=j.hok.fresh (Hc _);refine ⟨.ref s1.heap.objs.size,upd H1 s1.heap.objs.size (.lst xs),j.laid (t':=s1.toks) (fun b u e=>q7 _ e) (Hc _) ?_,rfl,q _ hf⟩;exact ⟨z,us,0,r,GY _ rfl⟩
end
noncomputable abbrev Sp:=List V->Hp->VK->XK->Prop
noncomputable abbrev CXT:=List Env->Hp->D0->XK->h7->D0->Prop
structure rW (P:Hu) (w:HW) (K:Frag) (mg:Str->Option h7) (base:Heap) (A:Ib) (outer:List Env) (s:D0) (H:Hp):Prop where
 frames:A.frames=some outer
 mod:Mod K mg base
 bs:∀ b o,base.get? b=some o->s.heap.get? b=some o/\H b=none
 bsz:base.objs.size<=s.heap.objs.size
 funs:s.heap.FunFrames base outer
 frf:∀ b∈frs outer,H b=none
 hok:HOk P w H s.heap
 bare:Nl s.gens
def CE (outer:List Env) (P:Hu) (w:HW) (H:Hp) (s:D0) (Q:VK) (u:h7) (s':D0):Prop :=
 ∃ v H',s'.os=s.os/\Nl s'.gens/\Un (frs outer) [] H H' s.heap s'.heap/\HOk P w H' s'.heap/\RelV v u/\Q v H'
def CR (CX:CXT) (outer:List Env) (P:Hu) (w:HW) (H:Hp) (s:D0) (Q:VK) (E:XK) (r:Result) (s':D0):Prop :=
 match r with
 | .ok (.ret u)=>CE outer P w H s Q u s'
 | .ok _=>False
 | .error e=>CX outer H s E e s'
structure dN (P:Hu) (w:HW) (K:Frag) (mg:Str->Option h7) (base:Heap) (CX:CXT) (k:Nat) (f:Addr) (fd:KH) (ps:List Str) (sp:Sp):Prop where
 len:∀ vs H Q E,sp vs H Q E->vs.length=ps.length
 run:∀ (A:Ib) (outer:List Env) (s:D0) (H:Hp) (args:Args) (us:List h7) (vs:List V) (Q:VK) (E:XK),Room k A->rW P w K mg base A outer s H->PH s fd args (ps.zip us)->Vals vs us->sp vs H Q E ->
  Mh (model P w) A (.call (.ref f) args) (CR CX outer P w H s Q E) s
section
variable {X:Cx} {pins:List (Addr×Obj)} {σ:St} {H:Hp} {s s':D0}
theorem Inv.env0 (I:Inv X pins σ H s):rW X.prog X.w X.K X.mg X.base X.A X.stack s H :=
 ⟨I.ok.frames,I.ok.mod,I.bs,IV I.ok.bsz I.sz,I.stack,I.stkFree,I.hok,I.bare⟩
theorem Inv.after {Q:VK} {u:h7} (I:Inv X pins σ H s) (h:CE X.stack X.prog X.w H s Q u s'):EP X pins σ Q u s':=by
 obtain ⟨v,H',os,bare,un,hok,r,q⟩:=h;obtain ⟨j,g,d,t,os'⟩:=s';obtain rfl:os'=s.os:=os;exact ⟨v,H',I.call (h':=j) (g':=g) (d':=d) (t':=t) (ch := []) un hok bare (fun b z=>absurd z (by simp)),r,q⟩
end
noncomputable def yS (sp:Sp) (dvs:List V) (E:XK) (t:TA):TE:=fun σ H Q=>t σ H fun vs H1=>sp (vs++dvs) H1 Q E
def Binds (K:Frag) (fd:KH) (ps:List Str) (ds:List h7):Prop :=
 ∀ (s:D0) (us:List h7),K.In s.heap->(us++ds).length=ps.length->PH s fd ⟨us,[]⟩ (ps.zip (us++ds))
theorem Binds.all {K:Frag} {fd:KH} {ps:List Str} (h:∀ us:List h7,us.length=ps.length->bindArgs fd ⟨us,[]⟩=pure (ps.zip us)):Binds K fd ps []:=fun s us _ j=>by
 rw [Ja] at j ⊢;exact .of_eq (h us j)
def j3 (CX:CXT) (X:Cx) (E:XK):Prop := ∀ (pins:List (Addr×Obj)) (σ:St) (H:Hp) (s:D0) (e:h7) (s':D0),Inv X pins σ H s->CX X.stack H s E e s'->X.xe e s'
section
variable {X:Cx} {CX:CXT} {k:Nat} {f C:Addr} {fd:KH} {ps:List Str} {sp:Sp} {dvs:List V} {ds:List h7} {E:XK} {x m:Str} {p pos apos:Pos} {e o:Expr} {es:List Expr} {ta:TE} {t:TA}
theorem ug {pins:List (Addr×Obj)} {σ:St} {H:Hp} {s:D0} {Q:VK} {us:List h7} {vs:List V} (F:dN X.prog X.w X.K X.mg X.base CX k f fd ps sp) (z:Room k X.A) (B:Binds X.K fd ps ds) (hd:Vals dvs ds) (hx:j3 CX X E)
 (I:Inv X pins σ H s) (r:Vals vs us) (h:sp (vs++dvs) H Q E):Hd (model X.prog X.w) X.A (call (.ref f) us) (EP X pins σ Q) X.xe s:=by
 have q:Vals (vs++dvs) (us++ds):=r.append hd;have G:(us++ds).length=ps.length:=by rw [<- q.length];exact F.len _ _ _ _ h
 refine wpAny_call (Lx (F.run X.A X.stack s H ⟨us,[]⟩ (us++ds) (vs++dvs) Q E z I.env0 (B s us I.kIn G) q h) fun r s' j => ?_)
 cases r with
 | error e=>exact hx pins σ H s e s' I j
 | ok fl =>
   cases fl with
   | ret u=>exact I.after j
   | next=>exact False.elim j
   | brk=>exact False.elim j
   | cont=>exact False.elim j
theorem zT (F:dN X.prog X.w X.K X.mg X.base CX k f fd ps sp) (G:Room k X.A) (J:Gl X x) (hm:X.mg x=some (.ref f)) (L:KI X.K (.ref f)=true) (O:Binds X.K fd ps ds) (hd:Vals dvs ds) (hx:j3 CX X E)
 (U:PA X (e::es) t) (j:(x==("__debug__":Str))=false:=by decide) (he:Hv (e::es) X.env=(false,eval e X.env)::Hv es X.env:=by rfl) (z:(L3 pos (Hv es X.env)).any (·.1)=false:=by rfl) :
 PE X (.Call (.Name x p) (e::es) [] pos) (yS sp dvs E t):=by
 intro pins s σ H Q I h;refine Lj (jY I J hm ?_ j);refine PySem.W.callWith_K (h₀ := X.base) I.ok.mod.kin L (thn (U pos pins s σ H _ I h) fun us s1 ⟨vs,H1,B,r,q⟩=>⟨B.kIn, ?_⟩) he z;exact ug F G O hd hx B r q
theorem wW (F:dN X.prog X.w X.K X.mg X.base CX k f fd ps sp) (q:Room k X.A) (z:Gl X x) (hm:X.mg x=some (.ref f)) (B:KI X.K (.ref f)=true) (G:Binds X.K fd ps ds) (hd:Vals dvs ds) (hx:j3 CX X E)
 (j:(x==("__debug__":Str))=false:=by decide):PE X (.Call (.Name x p) [] [] pos) (yS sp dvs E BW):=by
 intro pins s σ H Q I h;refine Lj (jY I z hm ?_ j);exact PySem.W.callWith_K0 I.kIn B (ug (us := []) F q G hd hx I .nil h)
end
structure gI (N P:List Str) (sc:Scope):Prop where
 kind:sc.kind = .function
 co:sc.isCoroutine=false
 gen:sc.isGenerator=false
 nd:N.Nodup
 pre:N.take P.length=P
 par:∀ x∈P,sc.names.lookup x=some .local∨sc.names.lookup x=some .cell
 nofree:∀ y∈sc.names,y.2 ≠ .free
theorem kR {IK:Str->Option K9} {x:Str}:∀ {binds:List (Str×h7)} {m:Str->Option h7},(∀ v,(x,v)∉binds)->QU IK binds m x=m x
 | [],_,_=>rfl
 | (n,v)::r,m,h=>by
  unfold QU;rw [kR fun w hw=>h w (HE _ hw)]
  split
  ·have:x≠n:=by rintro rfl;exact h v Ir
   simp [this]
  ·rfl
theorem kS {IK:Str->Option K9} {x:Str}:∀ {binds:List (Str×h7)} {m:Str->Option h7},(∀ v,(x,v)∉binds)->QV IK binds m x=m x
 | [],_,_=>rfl
 | (n,v)::r,m,h=>by
  unfold QV;rw [kS fun w hw=>h w (HE _ hw)]
  split
  ·rfl
  ·have:x≠n:=by rintro rfl;exact h v Ir
   simp [this]
theorem kT {IK:Str->Option K9} {x:Str} {v:h7}:∀ {P:List Str} {vs:List h7} {i:Nat} {m:Str->Option h7},P.Nodup->P[i]? = some x->vs[i]? = some v->IK x=some .local ->
 QU IK (P.zip vs) m x=some v
 | [],_,_,_,_,h,_,_=>by simp at h
 | _::_,[],_,_,_,_,h,_=>by simp at h
 | p::P,w::vs,0,m,nd,h1,h2,j=>by
   simp at h1 h2;subst h1;subst h2;show QU IK ((p,w)::P.zip vs) m p=_;unfold QU;rw [kR fun v q=>(Jb.mp nd).1 (Mq q).1,if_pos j];simp
 | p::P,w::vs,i+1,m,nd,h1,h2,j=>by
   show QU IK ((p,w)::P.zip vs) m x=_;unfold QU;exact kT (i:=i) (Jb.mp nd).2 (by simpa using h1) (by simpa using h2) j
theorem kU {IK:Str->Option K9} {x:Str} {v:h7}:∀ {P:List Str} {vs:List h7} {i:Nat} {m:Str->Option h7},P.Nodup->P[i]? = some x->vs[i]? = some v->IK x≠some .local ->
 QV IK (P.zip vs) m x=some v
 | [],_,_,_,_,h,_,_=>by simp at h
 | _::_,[],_,_,_,_,h,_=>by simp at h
 | p::P,w::vs,0,m,nd,h1,h2,j=>by
   simp at h1 h2;subst h1;subst h2;show QV IK ((p,w)::P.zip vs) m p=_;unfold QV;rw [kS fun v q=>(Jb.mp nd).1 (Mq q).1,if_neg j];simp
 | p::P,w::vs,i+1,m,nd,h1,h2,j=>by
   show QV IK ((p,w)::P.zip vs) m x=_;unfold QV;exact kU (i:=i) (Jb.mp nd).2 (by simpa using h1) (by simpa using h2) j
noncomputable def cO (N:List Str) (vs:List V):St:=vs.map some++Hm (N.length - vs.length) none
noncomputable def iA (CX:CXT) (P:Hu) (w:HW) (K:Frag) (mg:Str->Option h7) (base:Heap) (N:List Str) (qual:Str) (scope:Scope) (f:Addr) (cd:h7) (A:Ib) (outer:List Env) (s:D0) (H:Hp) (E:XK):Cx where
 prog:=P
 w:=w
 K:=K
 mg:=mg
 base:=base
 A:=A.deeper (Ow qual scope s.heap.objs.size f cd)
 N:=N
 s₀ := s
 H₀ := H
 env:=Ow qual scope s.heap.objs.size f cd
 outer:=outer
 stack:=Ow qual scope s.heap.objs.size f cd::outer
 ex := []
 calm:=true
 fn:=fun _=>true
 pn := []
 xe:=fun e s'=>Hd (model P w) (A.deeper (Ow qual scope s.heap.objs.size f cd)) (leaving (Ow qual scope s.heap.objs.size f cd) e) (fun _ s''=>CX outer H s E e s'') (fun e' s''=>CX outer H s E e' s'') s'
theorem mX {sc:Scope} {n:Nat} {x:Str} (h:sc.names.lookup x=some .cell):∃ c,(Jt n sc.names []).lookup x=some c:=by
 have q:=Ly sc.names n [] (.inl h);exact JZ.mp q
theorem uh {CX:CXT} {P:Hu} {w:HW} {K:Frag} {mg:Str->Option h7} {base:Heap} {N ps:List Str} {qual:Str} {scope:Scope} {f:Addr} {cd:h7} {A:Ib} {outer:List Env} {s s1:D0} {H:Hp} {E:XK} {us:List h7} {vs:List V}
 (S:gI N ps scope) (hd:A.handled=none) (e0:rW P w K mg base A outer s H) (O:vs.length=ps.length) (r:Vals vs us)
 (x:InCallC s s.heap.objs.size (QU (Ow qual scope s.heap.objs.size f cd).kindOf (ps.zip us) fun _=>none) (Jt (s.heap.objs.size+1) scope.names []) (QV (Ow qual scope s.heap.objs.size f cd).kindOf (ps.zip us) fun _=>none) s1) :
 Inv (iA CX P w K mg base N qual scope f cd A outer s H E) [] (cO N vs) H s1:=by
 have J:ps.length<=N.length:=by have:=congrArg KJ S.pre;rw [Hq] at this;omega
 obtain ⟨h1,tk,rfl,F⟩:=x.done;have noA:∀ b:Addr,b∉(iA CX P w K mg base N qual scope f cd A outer s H E).ex:=fun b z=>absurd (show b∈([]:List Addr) from z) (by simp)
 refine ⟨⟨e0.mod,S.kind,rfl,rfl,Hc _,fun y z c h1 h2 => ?_,fun y j => ?_,fun y c _ h => ?_,fun _=>hd,Around.frames_deeper e0.frames, .inr ⟨rfl,rfl⟩,fun b z=>absurd z (noA b),e0.bs,e0.bsz,fun b _ _=>noA b,fun b z=>absurd z (noA b),e0.funs,e0.frf⟩,
  rfl,e0.bare,Un.kept F,⟨_,x.toInCall.ns,fun i y v h1 h2 U => ?_⟩,fun y c h=>⟨_,x.cell y c h⟩,e0.hok.fresh (Hc _),fun y c h => ?_,fun p B=>absurd (show p∈([]:List (Addr×Obj)) from B) (by simp),e0.hok.kept F, ?_⟩
 ·exact name_of_addr x.apart (IM h1) (IM h2)
 ·have j:scope.names.lookup y=some .cell∨scope.names.lookup y=some .free:=j
  rcases j with j | j
  ·exact mX j
  ·exact absurd rfl (S.nofree _ (IM j))
 ·exact KO (x.above y c (IM h))
 ·have hi:i < vs.length:=by
   unfold cO at h2
   by_cases hi:i < vs.length
   ·exact hi
   ·rw [GS (by simpa using hi)] at h2
    rw [NF] at h2
    split at h2 <;> cases h2
  have L:vs[i]? = some v:=by
   unfold cO at h2;rw [Hg (by simpa using hi),HB] at h2
   cases e:vs[i]? with
   | none=>rw [e] at h2;cases h2
   | some a=>rw [e] at h2;cases h2;rfl
  obtain ⟨u,G,rv⟩:=r.get L;have B:ps[i]? = some y:=by
   rw [<- S.pre,L9 (by omega)];exact h1
  have ndP:ps.Nodup:=by rw [<- S.pre];exact S.nd.sublist (List.take_sublist _ _)
  refine ⟨u,rv, ?_⟩
  rcases S.par y (Hy B) with k | k
  ·exact .inl ⟨k,kT ndP B G k⟩
  ·obtain ⟨c,e⟩:=mX (n:=s.heap.objs.size+1) k;refine .inr ⟨.inl k,c,e, ?_⟩;have q:=x.cell y c e;rw [kU ndP B G (by show scope.names.lookup y≠_;rw [k];decide)] at q
   exact q
 ·exact e0.hok.fresh (KO (x.above y c (IM h)))
 ·unfold cO;show _=N.length;rw [GR,D2,List.length_replicate];omega
theorem Dz {CX:CXT} {P:Hu} {w:HW} {K:Frag} {mg:Str->Option h7} {base:Heap} {k:Nat} {f:Addr} {name qual:Str} {params:Arguments} {body:List Stmt} {scope:Scope} {dV kV doc pm cdv ct oc:h7} {an od:Option Addr}
 {osl:Array (Option h7)} {N ps:List Str} {sp:Sp} (lk:K.lookup f=some ⟨oc,od, .func (Kg name qual params body scope dV kV doc pm an cdv ct),osl⟩) (F:MV K cdv qual=true) (S:gI N ps scope)
 (len:∀ vs H Q E,sp vs H Q E->vs.length=ps.length)
 (j:∀ (A:Ib) (outer:List Env) (s:D0) (H:Hp) (vs:List V) (Q:VK) (E:XK),Room k (A.deeper (Ow qual scope s.heap.objs.size f cdv))->sp vs H Q E ->
   ∃ t,PSs (iA CX P w K mg base N qual scope f cdv A outer s H E) body t/\t { nx:=fun _ H'=>Q .non H',rt:=Q } (cO N vs) H) :
 dN P w K mg base CX (k+1) f (Kg name qual params body scope dV kV doc pm an cdv ct) ps sp:=by
 refine ⟨len,fun A outer s H args us vs Q E G e0 L r B => ?_⟩;have O:=len _ _ _ _ B;have KX:K.In s.heap:=e0.mod.kin.keeps fun b o e=>(e0.bs b o e).1;have lim:s.heap.NoLimit:=e0.mod.nolimit.keeps fun b o e=>(e0.bs b o e).1;have z:∀ y∈ps.zip us,scope.names.lookup y.1=some .local∨(scope.names.lookup y.1=some .cell/\((Jt (s.heap.objs.size+1) scope.names []).lookup y.1).isSome=true):=fun ⟨n,v⟩ hy=>by
  rcases S.par n (Mq hy).1 with q | q
  ·exact .inl q
  ·exact .inr ⟨q,Ly _ _ _ (.inl q)⟩
 refine codeAny_call_function G.depth (KX _ _ lk) rfl S.co S.gen rfl (PySem.W.codeRec_of KX F) (L _ _ _ _ ?_);refine wpAny_newFunctionEnv_cells S.kind z fun env he s1 x => ?_;subst he;refine ⟨lim.keeps x.toInCall.keep,codeAny_func ?_⟩;obtain ⟨t,U,Y⟩:=j A outer s H vs Q E (G.deeper _) B;have I:Inv (iA CX P w K mg base N qual scope f cdv A outer s H E) [] (cO N vs) H s1:=uh S G.hd e0 O r x;refine Jf (U [] s1 (cO N vs) H _ I Y) (fun fl s' hs => ?_) fun e s' hs=>hs;have fin:∀ {σ':St} {H':Hp} {v:V} {u:h7},Inv (iA CX P w K mg base N qual scope f cdv A outer s H E) [] σ' H' s'->RelV v u->Q v H'->CE outer P w H s Q u s' :=
  fun {σ' H' v u} J rv q=>⟨v,H',J.os,J.bare,J.base,J.hok,rv,q⟩
 cases fl with
 | ret u =>
   obtain ⟨v, σ',H',J,rv,q⟩:=hs;exact fin J rv q
 | next =>
   obtain ⟨σ',H',J,q⟩:=hs;exact fin (v:=V.non) (u:=JW) J rfl q
 | brk =>
   obtain ⟨_,_,_,q⟩:=hs;exact False.elim q
 | cont =>
   obtain ⟨_,_,_,q⟩:=hs;exact False.elim q
end
section
section
variable {X:Cx} {x:Str} {p pos:Pos} {e:Expr} {es:List Expr} {t:TA} {id T:String} {r:List V->Hp->VK->Prop}
noncomputable def tCB (r:List V->Hp->VK->Prop) (t:TA):TE:=fun σ H Q=>t σ H fun vs H1=>r vs H1 Q
theorem ci (z:CallR X (.builtin id) r) (B:Gl X x) (hm:X.mg x=none) (F:JE x=some (.builtin id)) (G:PA X (e::es) t) (J:x ≠ "__name__" := by decide) (j:(x==("__debug__":Str))=false:=by decide)
 (he:Hv (e::es) X.env=(false,eval e X.env)::Hv es X.env:=by rfl) (q:(L3 pos (Hv es X.env)).any (·.1)=false:=by rfl):PE X (.Call (.Name x p) (e::es) [] pos) (tCB r t):=by
 intro pins s σ H Q I h;refine Lj (dM I B hm F ?_ J j);exact PyProof.Rows.callWith_builtin1 (thn (G pos pins s σ H _ I h) fun us s1 ⟨vs,H1,L,O,U⟩=>z pins s1 σ H1 vs us Q L O U) he q
theorem eB (z:CallR X (.type T) r) (B:Gl X x) (hm:X.mg x=none) (F:JE x=some (.type T)) (G:PA X (e::es) t) (J:x ≠ "__name__" := by decide) (j:(x==("__debug__":Str))=false:=by decide)
 (he:Hv (e::es) X.env=(false,eval e X.env)::Hv es X.env:=by rfl) (q:(L3 pos (Hv es X.env)).any (·.1)=false:=by rfl):PE X (.Call (.Name x p) (e::es) [] pos) (tCB r t):=by
 intro pins s σ H Q I h;refine Lj (dM I B hm F ?_ J j);exact J2 (thn (G pos pins s σ H _ I h) fun us s1 ⟨vs,H1,L,O,U⟩=>z pins s1 σ H1 vs us Q L O U) he q
end
end
end L2
namespace HT
open PySem PyProof.Rows
section
variable {prog:Hu} {w:HW} {A:Ib} {E:h7->D0->Prop} {s:D0}
theorem cat_tup {t b:Addr} {vs ws:List h7} {Q:h7->D0->Prop} (U:IsTup s.heap t vs.toArray) (Y:IsTup s.heap b ws.toArray) (G:vs≠[])
 (h1:ws=[]->Q (.ref t) s) (h2:ws≠[]->Q (.ref s.heap.objs.size) { s with heap:=s.heap.push { cls := .type "tuple",data := .seq (vs++ws).toArray } })
 (hsz:vs.length+ws.length<=GX):Hd (model prog w) A (IU .Add (.ref t) (.ref b)) Q E s:=by
 obtain ⟨⟨cls,dd,data,sl⟩,ho,J,n,hd⟩:=id U;obtain ⟨⟨L,q,data2,z⟩,j,B,O,hd2⟩:=id Y;simp only at J hd B hd2;subst J hd B hd2;have e:vs.toArray++ws.toArray=(vs++ws).toArray:=by simp
 by_cases hw:ws=[]
 ·exact PJ ⟨_,ho,rfl⟩ ⟨_,j,rfl⟩ NG P6 Lz Lr (La _ _)
   (tuple_addW1 t b vs.toArray ws.toArray n O dd q sl z (by simpa using G) (by simp [hw])) ⟨ho,j,h1 hw⟩
 ·refine PJ ⟨_,ho,rfl⟩ ⟨_,j,rfl⟩ NG P6 Lz Lr (La _ _)
   (tuple_addW2 t b vs.toArray ws.toArray n O dd q sl z (by simpa using G) (by simpa using hw) (by rw [H9,H9];exact hsz)) ⟨ho,j, ?_⟩
  rw [e];exact h2 hw
noncomputable def sIx (n d:Nat):Option Int->Nat
 | none=>d
 | some v=>if v < 0 then (v+(n:Int)).toNat else min v.toNat n
theorem BY (n d:Nat) (hd:d<=n) (o:Option Int):sIx n d o<=n:=by
 cases o with
 | none=>exact hd
 | some v =>
   show (if v < 0 then (v+(n:Int)).toNat else min v.toNat n)<=n
   by_cases hv:v < 0
   ·rw [if_pos hv];omega
   ·rw [if_neg hv];exact Nat.min_le_right _ _
theorem qq (v:Int) (n d:Nat):(if v < 0 then max (v+(n:Int)) 0 else min v (n:Int))=((sIx n d (some v):Nat):Int):=by
 show (if v < 0 then max (v+(n:Int)) 0 else min v (n:Int))=(((if v < 0 then (v+(n:Int)).toNat else min v.toNat n):Nat):Int)
 by_cases hv:v < 0
 ·simp only [if_pos hv];omega
 ·simp only [if_neg hv];omega
theorem rX (lo hi:Option Int) (n:Nat):KZ lo hi 1 (n:Int)=(((sIx n 0 lo:Nat):Int),((sIx n n hi:Nat):Int)):=by
 have h1 : ¬ ((1:Int) < 0):=by omega
 unfold KZ;simp only [h1,if_false];refine Prod.ext ?_ ?_
 ·cases lo with
  | none=>rfl
  | some v=>exact qq v n 0
 ·cases hi with
  | none=>rfl
  | some v=>exact qq v n n
theorem rY (i j:Nat):JQ (i:Int) (j:Int) 1=j - i:=by
 unfold JQ;have h1:(1:Int) > 0:=by omega
 simp only [h1,if_true,Int.ediv_one]
 split <;> omega
theorem j4 {v:h7} {o:Option Int} {Q:Option Int->D0->Prop} (p:NW v o) (h:Q o s):Hd (model prog w) A (Builtin.Slice.slicePartIndex v) Q E s:=by
 cases p with
 | none=>exact slicePart_none h
 | int i t=>exact slicePart_int h
theorem dO {sl:Addr} {vl vu:h7} {lo hi:Option Int} {n:Nat} {Q:Int×Int×Nat->D0->Prop} (hs:s.heap.IsSliceOf sl vl vu .none) (pl:NW vl lo) (pu:NW vu hi)
 (h:Q (((sIx n 0 lo:Nat):Int),1,sIx n n hi - sIx n 0 lo) s):Hd (model prog w) A (MW (.ref sl) (pure (n:Int))) Q E s:=by
 obtain ⟨os,j,z,q⟩:=id hs;unfold MW Builtin.Slice.sliceFields;refine gV (gV (HH j q (x:=vl) rfl (gV (HH j q (x:=vu) rfl (gV (HH j q (x := .none) rfl (tv ?_)))))));refine gV (slicePart_none ?_);show Hd _ _ (if ((1:Int)==0)=true then _ else _) _ _ s
 rw [if_neg (by decide)]
 refine gV (j4 pl (gV (j4 pu (gV (tv ?_)))));show Hd _ _ (match KZ lo hi 1 (n:Int) with | (lo,hi)=>pure (lo,(1:Int),JQ lo hi 1)) _ _ s
 rw [rX lo hi n];show Hd _ _ (pure (((sIx n 0 lo:Nat):Int),(1:Int),JQ ((sIx n 0 lo:Nat):Int) ((sIx n n hi:Nat):Int) 1)) _ _ s;rw [rY];exact tv h
theorem wX (xs:Array h7) (i k:Nat):((Hi k).filterMap fun (m:Nat)=>xs[((i:Int)+(m:Int)*1).toNat]?).toArray=((xs.toList.drop i).take k).toArray:=by
 have e:(fun (m:Nat)=>xs[((i:Int)+(m:Int)*1).toNat]?)=fun m=>xs[i+m]? := by
  funext m
  have:((i:Int)+(m:Int)*1).toNat=i+m:=by omega
  rw [this]
 rw [e];have:=pick_run xs i k;rw [List.filterMap_map] at this;have e2:((fun x=>xs[x]?) ∘ fun x=>i+x)=fun m=>xs[i+m]? := rfl;rw [e2] at this;rw [this]
theorem getItem_tuple_cut {t sl:Addr} {items:Array h7} {vl vu:h7} {lo hi:Option Int} {Q:h7->D0->Prop} (z:IsTup s.heap t items) (hs:s.heap.IsSliceOf sl vl vu .none) (pl:NW vl lo) (pu:NW vu hi)
 (hw : ¬ (sIx items.size 0 lo=0/\sIx items.size items.size hi=items.size))
 (h:Q (.ref s.heap.objs.size) { s with heap:=s.heap.push { cls := .type "tuple",data := .seq ((items.toList.drop (sIx items.size 0 lo)).take (sIx items.size items.size hi - sIx items.size 0 lo)).toArray } })
 (hsz:items.size<=GX):Hd (model prog w) A (Np (.ref t) (.ref sl)) Q E s:=by
 have j:sizeOk (.seq ((items.toList.drop (sIx items.size 0 lo)).take (sIx items.size items.size hi - sIx items.size 0 lo)).toArray):=by
  show ((items.toList.drop (sIx items.size 0 lo)).take (sIx items.size items.size hi - sIx items.size 0 lo)).toArray.size<=GX;rw [H9,Hq,J0,Hw];omega
 have O:sIx items.size items.size hi<=items.size:=BY _ _ (Hc _) hi;obtain ⟨os,B,F,L⟩:=id hs;have G:s.TypeIs (.ref sl) "slice" := ⟨os,B,F⟩;unfold Np
 try with_reducible refine Ii ?_
 first | refine gV (tv ?_) | skip
 refine gV (PM z.typeIs (by decide) ?_)
 refine gV (HN (name:=Ic "__getitem__") z.typeIs Je
  (HX Je z.typeIs OX ?_ (Pm _ _)))
 show Hd _ _ (MX (.ref t) >>= _) _ _ s;refine gV (tupleItemsOf_ z ?_);refine gV (JF G ?_);rw [if_pos (by decide)]
 refine gV (dO hs pl pu ?_);have J : ¬ ((((sIx items.size 0 lo:Nat):Int)==0&&(1:Int)==1&&(sIx items.size items.size hi - sIx items.size 0 lo)==items.size)=true):=by
  intro q;rw [z4,z4] at q;have U:((sIx items.size 0 lo:Nat):Int)=0:=Ka q.1.1;have Y:sIx items.size items.size hi - sIx items.size 0 lo=items.size:=Ka q.2;exact hw ⟨by omega,by omega⟩
 show Hd _ _ (if (((sIx items.size 0 lo:Nat):Int)==0&&(1:Int)==1&&(sIx items.size items.size hi - sIx items.size 0 lo)==items.size)=true then _ else _) _ _ s
 rw [if_neg J,wX]
 first
  | exact gV (m:=K0 _) (IQ (tv ⟨_,rfl,tv h⟩) j)
  | exact gV (m:=K0 _) (IQ (gV (tv (tv ⟨_,rfl,tv h⟩))) j)
  | exact gV (gV (m:=K0 _) (IQ (tv (tv ⟨_,rfl,tv h⟩)) j))
  | exact gV (gV (m:=K0 _) (IQ (tv ⟨_,rfl,tv h⟩) j))
end
end HT
namespace L2
open PySem PySem.Spec PyProof.Rows
section
noncomputable abbrev TO:=St->Hp->(Option Int->Hp->Prop)->Prop
def PO (X:Cx) (e:Option Expr) (t:TO):Prop :=
 ∀ (pins:List (Addr×Obj)) (s:D0) (σ:St) (H:Hp) (Q:Option Int->Hp->Prop),Inv X pins σ H s->t σ H Q ->
  Hd (model X.prog X.w) X.A (evalPart e X.env) (fun u s' => ∃ o H',Inv X pins σ H' s'/\NW u o/\Q o H') X.xe s
noncomputable def zU:TO:=fun _ H Q=>Q none H
noncomputable def DA (t:TE):TO:=fun σ H Q=>t σ H fun x H1 => ∃ i,x = .int i/\Q (some i) H1
section
variable {X:Cx} {e:Expr} {te:TE} {lo hi:Option Expr} {tl th:TO} {pos p2:Pos}
theorem zV:PO X none zU:=by
 intro pins s σ H Q I h;rw [evalPart_none];exact tv ⟨none,H,I, .none,h⟩
theorem zW (h:PE X e te):PO X (some e) (DA te):=by
 intro pins s σ H Q I hw;rw [evalPart_some];refine thn (h pins s σ H _ I hw) fun u s1 ⟨x,H1,j,z,B⟩ => ?_;obtain ⟨i,rfl,q⟩:=B;obtain ⟨t,rfl⟩:=z;exact ⟨some i,H1,j, .int i t,q⟩
def SlR (X:Cx) (r:V->Option Int->Option Int->Hp->VK->Prop):Prop :=
 ∀ (pins:List (Addr×Obj)) (s:D0) (σ:St) (H:Hp) (x:V) (v vl vu:h7) (lo hi:Option Int) (sl:Addr) (Q:VK),Inv X pins σ H s->RelV x v->s.heap.IsSliceOf sl vl vu .none->NW vl lo->NW vu hi->r x lo hi H Q ->
  ∃ T id,Pn (.type T) "__getitem__" = pure (some (.builtin id))/\s.TypeIs v T/\Hd (model X.prog X.w) X.A (Np v (.ref sl)) (EP X pins σ Q) X.xe s
theorem SlR.or {r r':V->Option Int->Option Int->Hp->VK->Prop} (h:SlR X r) (h':SlR X r'):SlR X (fun x lo hi H Q=>r x lo hi H Q∨r' x lo hi H Q):=by
 intro pins s σ H x v vl vu lo hi sl Q I rx hs pl pu q
 rcases q with q | q
 ·exact h pins s σ H x v vl vu lo hi sl Q I rx hs pl pu q
 ·exact h' pins s σ H x v vl vu lo hi sl Q I rx hs pl pu q
noncomputable def tSl (r:V->Option Int->Option Int->Hp->VK->Prop) (te:TE) (tl th:TO):TE:=fun σ H Q=>te σ H fun x H1=>tl σ H1 fun l H2=>th σ H2 fun u H3=>r x l u H3 Q
theorem wY {r:V->Option Int->Option Int->Hp->VK->Prop} (z:SlR X r) (he:PE X e te) (B:PO X lo tl) (F:PO X hi th):PE X (.Subscript e (.Slice lo hi none p2) pos) (tSl r te tl th):=by
 intro pins s σ H Q I h;refine Subscript_ (thn (he pins s σ H _ I h) fun v s1 ⟨x,H1,G,J,L⟩ => ?_);refine wpAny_Slice (thn (B pins s1 σ H1 _ G L) fun vl s2 ⟨l,H2,O,pl,U⟩=>thn (F pins s2 σ H2 _ O U) fun vu s3 ⟨u,j,Y,pu,Z⟩ => ?_);rw [evalPart_none];refine tv ?_;have I4:Inv X pins σ j { s3 with heap:=s3.heap.push { cls := .type "slice",data := .fields #[vl,vu, .none] } }:=Y.kept (t':=s3.toks) fun b ob q=>q7 _ q
 obtain ⟨T,id,hT,ht,hg⟩:=z pins { s3 with heap:=s3.heap.push { cls := .type "slice",data := .fields #[vl,vu, .none] } } σ j x v vl vu l u s3.heap.objs.size Q I4 J (Heap.IsSliceOf.new ..) pl pu Z
 show Hd (model X.prog X.w) X.A (subscriptTail e (.Slice lo hi none p2) v (.ref s3.heap.objs.size)) (EP X pins σ Q) X.xe { s3 with heap:=s3.heap.push { cls := .type "slice",data := .fields #[vl,vu, .none] } }
 exact tail_any (ops := [.ref s3.heap.objs.size,v]) ht hT hg (by with_unfolding_all rfl)
noncomputable def fT (xs:List V) (lo hi:Option Int):List V:=(xs.drop (HT.sIx xs.length 0 lo)).take (HT.sIx xs.length xs.length hi - HT.sIx xs.length 0 lo)
theorem ii (xs:List V) (lo hi:Option Int):(fT xs lo hi).length<=xs.length:=by
 unfold fT;rw [Hq,J0];omega
noncomputable def Es (K:Frag):V->Option Int->Option Int->Hp->VK->Prop:=fun x lo hi H Q => ∃ a xs,x = .ref a/\SqT K H a xs /\
 ¬ (HT.sIx xs.length 0 lo=0/\HT.sIx xs.length xs.length hi=xs.length) /\ ∀ p,H p=none->Q (.ref p) (upd H p (.tup (fT xs lo hi)))
theorem sl_tup:SlR X (Es X.K):=by
 intro pins s σ H x v vl vu lo hi sl Q I rx hs pl pu h;obtain ⟨a,xs,rfl,hx,hw,q⟩:=h
 cases rx
 obtain ⟨its,r,j,z⟩:=I.tuple hx;have hlen:its.toArray.size=xs.length:=by rw [H9];exact r.length.symm
 refine ⟨"tuple",_,PyProof.Rows.slot_tuple_getitem.lookup,j.typeIs, ?_⟩;refine HT.getItem_tuple_cut j hs pl pu (by rw [hlen];exact hw) ?_ (by rw [hlen];exact z)
 rw [hlen];refine ⟨.ref s.heap.objs.size,_,I.laid (t':=s.toks) (o := .tup (fT xs lo hi)) (fun b ob q=>q7 _ q) (Hc _) ?_,rfl,q _ (I.hok.fresh (Hc _))⟩;exact ⟨IV (ii xs lo hi) z,_,(r.drop (HT.sIx xs.length 0 lo)).take (HT.sIx xs.length xs.length hi - HT.sIx xs.length 0 lo),LS _ _⟩
noncomputable def yT (K:Frag):R2:=fun x y H Q => ∃ a b xs ys,x = .ref a/\y = .ref b/\SqT K H a xs/\SqT K H b ys/\xs≠[]/\xs.length+ys.length<=GX /\
 (ys=[]->Q (.ref a) H)/\(ys≠[] -> ∀ p,H p=none->Q (.ref p) (upd H p (.tup (xs++ys))))
theorem Vals.nil_iff {xs:List V} {us:List h7} (r:Vals xs us):us=[]↔xs=[]:=by
 cases r with
 | nil=>simp
 | cons _ _=>simp
theorem op_catT:OpR X (IU .Add) (yT X.K):=by
 intro pins s σ H x y v u Q I rx ry h;obtain ⟨a,b,xs,ys,rfl,rfl,J,L,hx,F,O,U⟩:=h
 cases rx
 cases ry
 obtain ⟨its,B,p1,_⟩:=I.tuple J;obtain ⟨G,j,p2,_⟩:=I.tuple L;refine HT.cat_tup p1 p2 (fun z=>hx (B.nil_iff.mp z)) (fun z=>⟨.ref a,H,I,rfl,O (j.nil_iff.mp z)⟩) (fun z => ?_) (by rw [<- B.length, <- j.length];exact F)
 refine ⟨.ref s.heap.objs.size,_,I.laid (t':=s.toks) (o := .tup (xs++ys)) (fun b ob q=>q7 _ q) (Hc _) ?_,rfl,U (fun w=>z (j.nil_iff.mpr w)) _ (I.hok.fresh (Hc _))⟩;exact ⟨by rw [GR];exact F,_,B.append j,LS _ _⟩
end
end
section
noncomputable def ixN (n:Nat) (i:Int):Option Nat:=if 0<=i then (if i < n then some i.toNat else none) else if -(n:Int)<=i then some (i+n).toNat else none
noncomputable def atI {α:Type} (xs:List α) (i:Int):Option α := (ixN xs.length i).bind fun j=>xs[j]?
theorem qr {n:Nat} {i:Int} {j:Nat} (h:ixN n i=some j):seqIndex? i n=some j/\j < n /\ -(n:Int)<=i/\i < n:=by
 unfold ixN at h
 by_cases h0 : 0<=i
 ·rw [if_pos h0] at h
  by_cases h1:i < n
  ·rw [if_pos h1] at h;have e:i.toNat=j:=Jo.inj h;exact ⟨by rw [Ox h0 h1,e],by omega,by omega,h1⟩
  ·rw [if_neg h1] at h;cases h
 ·rw [if_neg h0] at h
  by_cases h1 : -(n:Int)<=i
  ·rw [if_pos h1] at h;have e:(i+n).toNat=j:=Jo.inj h;exact ⟨by rw [NX (by omega) h1,e],by omega,h1,by omega⟩
  ·rw [if_neg h1] at h;cases h
theorem kb {α:Type} {xs:List α} {i:Int} {v : α} (h:atI xs i=some v):∃ j,seqIndex? i xs.length=some j/\xs[j]? = some v/\j < xs.length /\ -(xs.length:Int)<=i/\i < xs.length:=by
 unfold atI at h
 cases e:ixN xs.length i with
 | none=>rw [e] at h;cases h
 | some j =>
   rw [e] at h;obtain ⟨h1,h2,q,z⟩:=qr e;exact ⟨j,h1,h,h2,q,z⟩
def kc (b:Expr):Prop := ∀ o i,subscripted b false o i=operate [o,i] (Np o i)
def IxR (X:Cx) (r:R2):Prop :=
 ∀ (value slice:Expr) (pins:List (Addr×Obj)) (s:D0) (σ:St) (H:Hp) (x y:V) (v u:h7) (Q:VK),Inv X pins σ H s->RelV x v->RelV y u->r x y H Q ->
  subscripted slice false v u=operate [v,u] (Np v u)->Hd (model X.prog X.w) X.A (subscriptTail value slice v u) (EP X pins σ Q) X.xe s
def MtR (X:Cx) (id:String) (r:V->List V->Hp->VK->Prop):Prop :=
 ∀ (pins:List (Addr×Obj)) (s:D0) (σ:St) (H:Hp) (x:V) (xs:List V) (v:h7) (us:List h7) (Q:VK),Inv X pins σ H s->RelV x v->Vals xs us->r x xs H Q ->
  Hd (model X.prog X.w) X.A (call (.builtin id) (v::us)) (EP X pins σ Q) X.xe s
section
variable {X:Cx} {a b:Expr} {ta tb:TE} {pos:Pos}
theorem IxR.or {r r':R2} (h:IxR X r) (h':IxR X r'):IxR X (fun x y H Q=>r x y H Q∨r' x y H Q):=by
 intro value slice pins s σ H x y v u Q I rx ry q hs
 rcases q with q | q
 ·exact h value slice pins s σ H x y v u Q I rx ry q hs
 ·exact h' value slice pins s σ H x y v u Q I rx ry q hs
theorem DB {r:R2} (j:IxR X r) (z:PE X a ta) (B:PE X b tb) (hs:kc b):PE X (.Subscript a b pos) (tOp r ta tb):=by
 intro pins s σ H Q I h;exact Subscript_ (wM z B I h fun v u s2 x y H2 F rx ry q=>j a b pins s2 σ H2 x y v u Q F rx ry q (hs _ _))
noncomputable def Et (K:Frag):R2:=fun x y H Q => ∃ p xs i v,x = .ref p/\y = .int i/\SqL K H p xs/\atI xs i=some v/\Q v H
noncomputable def Eu (K:Frag):R2:=fun x y H Q => ∃ p xs i v,x = .ref p/\y = .int i/\SqT K H p xs/\atI xs i=some v/\Q v H
theorem ix_list:IxR X (Et X.K):=by
 intro value slice pins s σ H x y v u Q I rx ry h hs;obtain ⟨p,xs,i,z,rfl,rfl,F,he,q⟩:=h
 cases rx
 obtain ⟨t,rfl⟩:=ry;obtain ⟨its,r,pl,O⟩:=I.list F;obtain ⟨j,h1,h2,U,G,J⟩:=kb he;obtain ⟨w,ew,rw'⟩:=r.get h2;have L:=r.length;have Y:=eQ;have fin:EP X pins σ Q w s:=⟨z,H,I,rw',q⟩
 by_cases h0 : 0<=i
 ·have B:i.toNat=j:=by
   rw [Ox h0 J] at h1;exact Jo.inj h1
  exact item_listR pl.isList h0 (by omega) (by rw [B];simpa using ew) fin hs
 ·have B:(i+(its.toArray.size:Int)).toNat=j:=by
   rw [NX (by omega) G] at h1
   rw [H9, <- L];exact Jo.inj h1
  exact NY (x:=w) pl.isList.typeIs slot_list_getitem.lookup
   (NZ (Q:=fun r s'=>r=w/\EP X pins σ Q r s') pl.isList (by omega) (by rw [H9] <;> omega) (by omega) (by rw [B];simpa using ew) ⟨rfl,fin⟩) hs
theorem ix_tup:IxR X (Eu X.K):=by
 intro value slice pins s σ H x y v u Q I rx ry h hs;obtain ⟨p,xs,i,z,rfl,rfl,B,he,q⟩:=h
 cases rx
 obtain ⟨t,rfl⟩:=ry;obtain ⟨its,r,pl,G⟩:=I.tuple B;obtain ⟨j,h1,h2,J,L,O⟩:=kb he;obtain ⟨w,ew,rw'⟩:=r.get h2;have F:=r.length;have U:=eQ;have fin:EP X pins σ Q w s:=⟨z,H,I,rw',q⟩;exact NY (x:=w) pl.typeIs slot_tuple_getitem.lookup
  (getItem_tuple (j:=j) (Q:=fun r s'=>r=w/\EP X pins σ Q r s') pl (by omega) (by omega) (by rw [H9, <- F];exact h1) (by simpa using ew) ⟨rfl,fin⟩) hs
theorem rZ (its:List h7) (n j:Nat) (u:h7):K1 (·.setIfInBounds j u) { cls := .type "list",data := .seq its.toArray n } = { cls := .type "list",data := .seq (its.set j u).toArray n }:=by
 simp [K1]
theorem Inv.lst {pins:List (Addr×Obj)} {σ:St} {H:Hp} {s:D0} {p:Addr} {xs:List V} (I:Inv X pins σ H s) (h:H p=some (.lst xs)) :
 ∃ (its:List h7) (n:Nat),Vals xs its/\s.heap.get? p=some { cls := .type "list",data := .seq its.toArray n }/\xs.length<=GX:=by
 obtain ⟨z,its,n,r,e⟩:=I.hok p _ h;exact ⟨its,n,r,e,z⟩
theorem Inv.lstUpd {pins:List (Addr×Obj)} {σ:St} {H:Hp} {s:D0} {p:Addr} {xs ys:List V} {its its':List h7} {n n':Nat} {f:Obj->Obj} (I:Inv X pins σ H s) (h:H p=some (.lst xs))
 (ho:s.heap.get? p=some { cls := .type "list",data := .seq its.toArray n }) (hf:f { cls := .type "list",data := .seq its.toArray n } = { cls := .type "list",data := .seq its'.toArray n' }) (r:Vals ys its') (j:ys.length<=GX) (t:Nat) :
 Inv X pins σ (upd H p (.lst ys)) { s with heap:=s.heap.update p f,toks:=t }:=by
 have e:(s.heap.update p f).get? p=some { cls := .type "list",data := .seq its'.toArray n' }:=by
  rw [LP f ho (by rw [hf] <;> rfl),hf]
 refine I.write (x:=p) (e:=p) (by rw [h];trivial) (.inl rfl) (fun b u z q=>(O0 _ _ (Ne.symm z)).trans q) ⟨_,e⟩ ?_
 exact ⟨j,its',n',r,e⟩
noncomputable def yU:V->V->V->Hp->(Hp->Prop)->Prop:=fun o i v H Q => ∃ p xs k j,o = .ref p/\i = .int k/\H p=some (.lst xs)/\ixN xs.length k=some j/\Q (upd H p (.lst (xs.set j v)))
theorem mY:PSet X yU:=by
 intro pins s σ H o i v ov iv u Q I ro ri rv h;obtain ⟨p,xs,k,j,rfl,rfl,F,L,q⟩:=h
 cases ro
 obtain ⟨t,rfl⟩:=ri;obtain ⟨its,n,r,ho,O⟩:=I.lst F;obtain ⟨h1,h2,G,J⟩:=qr L;have z:=r.length;have U:=eQ;have I':Inv X pins σ (upd H p (.lst (xs.set j v))) { s with heap:=s.heap.update p (K1 (·.setIfInBounds j u)) } :=
  I.lstUpd F ho (rZ its n j u) (r.set rv j) (by rw [QC];exact O) s.toks
 by_cases h0 : 0<=k
 ·have B:k.toNat=j:=by
   rw [Ox h0 J] at h1;exact Jo.inj h1
  exact PySem.W.ki_setAt ho h0 (by omega) (by rw [H9, <- z];exact J) (by rw [B];exact ⟨_,I',q⟩)
 ·have B:(k+(its.toArray.size:Int)).toNat=j:=by
   rw [NX (by omega) G] at h1
   rw [H9, <- z];exact Jo.inj h1
  exact PySem.W.ki_setBack ho (by omega) (by rw [H9, <- z];exact G) (by omega) (by rw [B];exact ⟨_,I',q⟩)
theorem mZ (lo hi:Option Int) (n:Nat):(Ls lo hi none n).1=((HT.sIx n 0 lo:Nat):Int)/\(Ls lo hi none n).2.1=((HT.sIx n n hi:Nat):Int)/\(Ls lo hi none n).2.2=1:=by
 refine ⟨?_, ?_,rfl⟩
 ·cases lo with
  | none=>simp [Ls,HT.sIx]
  | some i =>
    simp only [Ls,HT.sIx,Q7,show (1:Int) > 0 by decide,if_true]
    by_cases h:i < 0
    ·simp only [h,if_true] <;> omega
    ·simp only [h,if_false] <;> omega
 ·cases hi with
  | none=>simp [Ls,HT.sIx]
  | some i =>
    simp only [Ls,HT.sIx,Q7,show (1:Int) > 0 by decide,if_true]
    by_cases h:i < 0
    ·simp only [h,if_true] <;> omega
    ·simp only [h,if_false] <;> omega
theorem mz (its:List h7) (lo hi:Option Int):slicePick its.toArray lo hi none=((its.drop (HT.sIx its.length 0 lo)).take (HT.sIx its.length its.length hi - HT.sIx its.length 0 lo)).toArray:=by
 obtain ⟨h1,h2,j⟩:=mZ lo hi its.toArray.size;unfold slicePick;rw [h1,h2,j];simp only [sliceRange_one,pick_run,H9] <;> rfl
noncomputable def Ev (K:Frag):V->Option Int->Option Int->Hp->VK->Prop:=fun x lo hi H Q => ∃ a xs,x = .ref a/\SqL K H a xs /\ ∀ p,H p=none->Q (.ref p) (upd H p (.lst (fT xs lo hi)))
theorem sl_list:SlR X (Ev X.K):=by
 intro pins s σ H x v vl vu lo hi sl Q I rx hs pl pu h;obtain ⟨a,xs,rfl,hx,q⟩:=h
 cases rx
 obtain ⟨its,r,j,z⟩:=I.list hx;have hlen:=r.length;refine ⟨"list",_,slot_list_getitem.lookup,j.isList.typeIs, ?_⟩;refine wpAny_getItem_list_slice j.isList hs pl pu .none (by simp) ?_ (by rw [H9] <;> omega)
 rw [mz, <- hlen];refine ⟨.ref s.heap.objs.size,_,I.laid (t':=s.toks) (o := .lst (fT xs lo hi)) (fun b ob q=>q7 _ q) (Hc _) ?_,rfl,q _ (I.hok.fresh (Hc _))⟩;exact ⟨IV (ii xs lo hi) z,_,0,(r.drop (HT.sIx xs.length 0 lo)).take (HT.sIx xs.length xs.length hi - HT.sIx xs.length 0 lo),GY _ rfl⟩
theorem n0:CallR X (.type "list") (fun xs H Q => ∃ p ys,xs=[.ref p]/\(SqL X.K H p ys∨SqT X.K H p ys) /\ ∀ l,H l=none->Q (.ref l) (upd H l (.lst ys))):=by
 intro pins s σ H xs us Q I r h;obtain ⟨p,ys,rfl,j,q⟩:=h;obtain ⟨u,rfl,rx⟩:=eA r
 cases rx
 have fin:∀ (its:List h7),Vals ys its->ys.length<=GX -> ∀ (h':Heap) (c':Nat),(∀ b o',s.heap.get? b=some o'->h'.get? b=some o') ->
  h'.get? s.heap.objs.size=some { cls := .type "list",dict:=none,data := .seq its.toArray c',slots := #[] }->EP X pins σ Q (.ref s.heap.objs.size) { s with heap:=h' }:=fun its r' z h' c' kp e =>
  ⟨.ref s.heap.objs.size,_,I.laid (t':=s.toks) kp (Hc _) (show ObjOk X.prog X.w _ h' _ (.lst ys) from ⟨z,its,c',r',e⟩),rfl,q _ (I.hok.fresh (Hc _))⟩
 rcases j with j | j
 ·obtain ⟨its,r',pl,z⟩:=I.list j;have hlen:=r'.length;obtain ⟨o,ho,B,n,hd⟩:=pl.isList;exact call_list_seq p (.inl rfl) ho B hd (fun h' c' kp e=>fin its r' z h' c' kp e) (by simp only [H9] <;> omega)
 ·obtain ⟨its,r',pl,z⟩:=I.tuple j;have hlen:=r'.length;obtain ⟨o,ho,B,n,hd⟩:=pl;exact call_list_seq p (.inr rfl) ho B hd (fun h' c' kp e=>fin its r' z h' c' kp e) (by simp only [H9] <;> omega)
theorem mC:CallR X (.type "tuple") (fun xs H Q => ∃ p ys,xs=[.ref p]/\((SqL X.K H p ys /\ ∀ l,H l=none->Q (.ref l) (upd H l (.tup ys)))∨(SqT X.K H p ys/\Q (.ref p) H))):=by
 intro pins s σ H xs us Q I r h;obtain ⟨p,ys,rfl,h⟩:=h;obtain ⟨u,rfl,rx⟩:=eA r
 cases rx
 rcases h with ⟨j,q⟩ | ⟨j,q⟩
 ·obtain ⟨its,r',pl,z⟩:=I.list j;have hlen:=r'.length;refine call_tuple_list pl.isList (fun h' kp => ?_) (by simp only [H9] <;> omega)
  have B:Inv X pins σ H { s with heap:=h' }:=I.kept (t':=s.toks) kp
  have F:Inv X pins σ (upd H h'.objs.size (.tup ys)) { s with heap:=h'.push { cls := .type "tuple",data := .seq its.toArray } } :=
   B.laid (t':=s.toks) (fun b o e=>q7 _ e) (Hc _) (show ObjOk X.prog X.w _ _ _ (.tup ys) from ⟨z,its,r',LS _ _⟩)
  exact ⟨.ref h'.objs.size,_,F,rfl,q _ (B.hok.fresh (Hc _))⟩
 ·obtain ⟨its,r',pl,z⟩:=I.tuple j;exact call_tuple_same pl ⟨.ref p,H,I,rfl,q⟩
def tyV (K:Frag) (T:String) (x:V) (H:Hp):Prop:=match x with
 | .str _=>T = "str"
 | .int _=>T = "int"
 | .ref p=>(T = "list" /\ ∃ xs,SqL K H p xs)∨(T = "tuple" /\ ∃ o,K.lookup p=some o/\o.cls = .type "tuple" /\ o.dict=none) ∨
  (T = "dict" /\ ((∃ kvs,H p=some (.dK kvs)) ∨ ∃ kvs,H p=some (.dT kvs)))∨(T = "set" /\ ∃ S n,H p=some (.set S n))
 | _=>False
theorem ui {pins:List (Addr×Obj)} {σ:St} {H:Hp} {s:D0} {T:String} {x:V} {v:h7} (I:Inv X pins σ H s) (r:RelV x v) (ty:tyV X.K T x H) :
 s.TypeIs v T /\ ∀ a,v = .ref a -> ∃ ob,s.heap.get? a=some ob/\ob.dict=none:=by
 cases x with
 | str z =>
   obtain ⟨t,rfl⟩:=r
   cases (show T = "str" from ty)
   exact ⟨typeIs_str s z t,fun _ e=>nomatch e⟩
 | int i =>
   obtain ⟨t,rfl⟩:=r
   cases (show T = "int" from ty)
   exact ⟨O8 s i t,fun _ e=>nomatch e⟩
 | ref p =>
   cases r
   rcases ty with ⟨rfl,xs,q⟩ | ⟨rfl,o,j,B,hd⟩ | ⟨rfl,j⟩ | ⟨rfl,S,n,j⟩
   ·obtain ⟨its,_,pl,_⟩:=I.list q;refine ⟨pl.isList.typeIs,fun a e => ?_⟩
    cases e
    obtain ⟨o,n,e,c,hd,_⟩:=pl;exact ⟨o,e,hd⟩
   ·refine ⟨⟨o,I.kIn p o j,B⟩,fun a e => ?_⟩
    cases e
    exact ⟨o,I.kIn _ o j,hd⟩
   ·have z:∃ o,s.heap.get? p=some o/\o.ExactDict:=by
     rcases j with ⟨kvs,j⟩ | ⟨kvs,j⟩
     ·obtain ⟨_,_,_,_,o,_,_,e,ex,_⟩:=I.hok p _ j;exact ⟨o,e,ex⟩
     ·obtain ⟨_,_,_,_,o,_,_,e,ex,_⟩:=I.hok p _ j;exact ⟨o,e,ex⟩
    obtain ⟨o,e,ex⟩:=z;refine ⟨⟨o,e,ex.1⟩,fun a e2 => ?_⟩
    cases e2
    exact ⟨o,e,ex.2.1⟩
   ·obtain ⟨o,_,_,_,e,ex,_⟩:=I.hok p _ j;refine ⟨⟨o,e,ex.1⟩,fun a e2 => ?_⟩
    cases e2
    exact ⟨o,e,ex.2.1⟩
 | _=>exact False.elim ty
noncomputable def BZ (K:Frag) (T:String) (r:V->List V->Hp->VK->Prop) (to:TE):TE:=fun σ H Q=>to σ H fun x H1=>tyV K T x H1/\r x [] H1 Q
noncomputable def tBM (K:Frag) (T:String) (r:V->List V->Hp->VK->Prop) (to:TE) (t:TA):TE:=fun σ H Q=>to σ H fun x H1=>tyV K T x H1/\t σ H1 fun xs H2=>r x xs H2 Q
variable {o e:Expr} {es:List Expr} {to:TE} {t:TA} {name:Str} {apos cpos:Pos} {T id:String} {r:V->List V->Hp->VK->Prop}
theorem uj (pa:PlainAttrs T) (slot:Slot T name id) (z:typeOf (.builtin id)=pure (.type "method_descriptor")) (hm:MtR X id r) (ho:PE X o to)
 (j:Nv o name X.env (eval o X.env)=eval o X.env:=by rfl) (q:(apos.endLine==cpos.line)=true:=by rfl):PE X (.Call (.Attribute o name apos) [] [] cpos) (BZ X.K T r to):=by
 intro pins s σ H Q I h;refine wpAny_Call_method0_late j q (thn (ho pins s σ H _ I h) fun v s1 ⟨x,H1,B,F,ty,G⟩ => ?_);obtain ⟨h1,h2⟩:=ui B F ty;exact ⟨T,id,pa,slot,z,h1,h2,LA rfl (PySem.evalArgs_none (hm pins s1 σ H1 x [] v [] Q B F .nil G))⟩
theorem yV (pa:PlainAttrs T) (slot:Slot T name id) (F:typeOf (.builtin id)=pure (.type "method_descriptor")) (hm:MtR X id r) (ho:PE X o to) (O:PA X (e::es) t)
 (q:Nv o name X.env (eval o X.env)=eval o X.env:=by rfl)
 (B:((L3 cpos (Hv (e::es) X.env)).all (fun x => !x.1)&&(QW cpos (Oy [] X.env)).all (fun x=>x.1.isSome)
   && decide ((e::es).length+([]:List MA).length+(if ([]:List MA).isEmpty then 0 else 1) < 30))=true:=by rfl)
 (z:(apos.endLine==cpos.line)=true:=by rfl) (hs:Hv (e::es) X.env=(false,eval e X.env)::Hv es X.env:=by rfl) (j:(L3 cpos (Hv es X.env)).any (·.1)=false:=by rfl) :
 PE X (.Call (.Attribute o name apos) (e::es) [] cpos) (tBM X.K T r to t):=by
 intro pins s σ H Q I h;refine wpAny_Call_method_late q B z rfl (thn (ho pins s σ H _ I h) fun v s1 ⟨x,H1,G,J,ty,U⟩ => ?_);obtain ⟨h1,h2⟩:=ui G J ty;refine ⟨T,id,pa,slot,F,h1,h2, ?_⟩;have L:=O cpos pins s1 σ H1 _ G U;rw [hs] at L ⊢;refine LA (by show (false || (L3 cpos (Hv es X.env)).any (·.1))=false;rw [j] <;> rfl) (Oz ?_)
 exact thn L fun us s2 ⟨vs,H2,Y,Z,q2⟩=>hm pins s2 σ H2 x vs v us Q Y J Z q2
end
end
section
def MtM (X:Cx) (id:String) (r:V->List V->Hp->VK->Prop):Prop :=
 ∀ (pins:List (Addr×Obj)) (s:D0) (σ:St) (H:Hp) (x:V) (xs:List V) (v:h7) (us:List h7) (Q:VK),Inv X pins σ H s->RelV x v->Vals xs us->r x xs H Q ->
  Hd (model X.prog X.w) X.A (call (.builtin id) (v::us)) (EP X pins σ Q) X.xe s
theorem Vals.one:∀ {x:V} {us:List h7},Vals [x] us -> ∃ u,us=[u]/\RelV x u
 | _,_, .cons r .nil=>⟨_,rfl,r⟩
theorem Vals.zero:∀ {us:List h7},Vals [] us->us=[]
 | _, .nil=>rfl
theorem Vals.reverse {xs:List V} {us:List h7} (h:Vals xs us):Vals xs.reverse us.reverse:=by
 induction h with
 | nil=>exact .nil
 | cons r t ih=>rw [Kz,Kz];exact Vals.append ih (.cons r .nil)
theorem Vals.rep {xs:List V} {us:List h7} (h:Vals xs us):∀ k:Nat,Vals (Hm k xs).flatten (Hm k us).flatten
 | 0 => .nil
 | k+1=>by
   rw [IC,IC,Io,Io];exact Vals.append h (Vals.rep h k)
theorem fU (its:List h7):∀ (k:Nat) (acc:List h7),
 LU (fun j q=>j++q) acc.toArray (Hm k its.toArray)=(acc++(Hm k its).flatten).toArray
 | 0,acc=>by simp
 | k+1,acc=>by
   have e:acc.toArray++its.toArray=(acc++its).toArray:=by simp
   have e2:(acc++its)++(Hm k its).flatten=acc++(Hm (k+1) its).flatten:=by
    rw [IC,Io,He]
   rw [<- e2, <- fU its k (acc++its), <- e,IC,Ld]
section
variable {X:Cx} {pins:List (Addr×Obj)} {σ:St} {H:Hp} {s:D0} {l b:Addr} {xs ys zs:List V}
theorem Inv.lset {its its':List h7} {n:Nat} {f:Array h7->Array h7} {t':Nat} (I:Inv X pins σ H s) (j:H l=some (.lst xs))
 (e:s.heap.get? l=some { cls := .type "list",data := .seq its.toArray n }) (hf:f its.toArray=its'.toArray) (z:Vals ys its') (B:ys.length<=GX) :
 Inv X pins σ (upd H l (.lst ys)) { s with heap:=s.heap.update l (K1 f),toks:=t' }:=by
 have q:=PySem.IsL.update e f;rw [hf] at q;refine I.write (x:=l) (e:=l) (by rw [j];exact trivial) (.inl rfl) (fun b' u F G=>(O0 s.heap (K1 f) (Ne.symm F)).trans G) ⟨_,q⟩ ?_
 exact ⟨B,its',_,z,q⟩
theorem Inv.lnew {its:List h7} {t':Nat} (I:Inv X pins σ H s) (j:Vals ys its) (z:ys.length<=GX) :
 Inv X pins σ (upd H s.heap.objs.size (.lst ys)) { s with heap:=s.heap.push { cls := .type "list",data := .seq its.toArray },toks:=t' } :=
 I.laid (fun _ _ q=>q7 _ q) (Hc _) ⟨z,its,0,j,GY _ rfl⟩
theorem Inv.fresh (I:Inv X pins σ H s):H s.heap.objs.size=none:=I.hok.fresh (Hc _)
theorem Inv.lstM (I:Inv X pins σ H s) (j:H l=some (.lst xs)):xs.length<=GX /\ ∃ (its:List h7) (n:Nat),Vals xs its/\xs.length=its.length/\s.heap.get? l=some { cls := .type "list",data := .seq its.toArray n }:=by
 obtain ⟨z,its,n,r,e⟩:=I.hok l _ j;exact ⟨z,its,n,r,r.length,e⟩
theorem n6 {n:Nat} (h:n<=GX):K2 n=false:=by
 unfold K2;exact decide_eq_false (by omega)
end
section
variable {X:Cx}
noncomputable def qt:V->List V->Hp->VK->Prop:=fun x vs H Q => ∃ l xs y,x = .ref l/\vs=[y]/\H l=some (.lst xs)/\xs.length < GX/\Q .non (upd H l (.lst (xs++[y])))
theorem kW:MtM X "list.append" qt:=by
 intro pins s σ H x vs v us Q I rx rv h;obtain ⟨l,xs,y,rfl,rfl,j,B,q⟩:=h
 cases rx
 obtain ⟨u,rfl,ru⟩:=rv.one;obtain ⟨z,its,n,r,G,e⟩:=I.lstM j;refine KL F.slot_list_append ⟨_,e,rfl⟩ F.entry_list_append (F.args_list_append_2 _ _) (PySem.list_append l its.toArray n u (by rw [H9];omega)) ⟨e, ?_⟩
 refine ⟨.non,_,I.lset (its':=its++[u]) j e (by simp) (r.append (.cons ru .nil)) ?_,rfl,q⟩
 rw [GR,HF];omega
noncomputable def n8:V->List V->Hp->VK->Prop:=fun x vs H Q => ∃ l xs,x = .ref l/\vs=[]/\H l=some (.lst xs)/\Q .non (upd H l (.lst xs.reverse))
theorem sd:MtM X "list.reverse" n8:=by
 intro pins s σ H x vs v us Q I rx rv h;obtain ⟨l,xs,rfl,rfl,B,q⟩:=h
 cases rx
 have j:=rv.zero;subst j;obtain ⟨z,its,n,r,G,e⟩:=I.lstM B;refine KL F.slot_list_reverse ⟨_,e,rfl⟩ F.entry_list_reverse (F.args_list_reverse_1 _) (AutoSeq1.list_reverse_list_0 l its.toArray n (by rw [H9];omega)) ⟨e, ?_⟩
 refine ⟨.non,_,I.lset (its':=its.reverse) B e (by simp) r.reverse ?_,rfl,q⟩
 rw [My];omega
noncomputable def uk:V->List V->Hp->VK->Prop:=fun x vs H Q => ∃ l xs,x = .ref l/\vs=[]/\H l=some (.lst xs)/\Q .non (upd H l (.lst []))
theorem wZ:MtM X "list.clear" uk:=by
 intro pins s σ H x vs v us Q I rx rv h;obtain ⟨l,xs,rfl,rfl,B,q⟩:=h
 cases rx
 have j:=rv.zero;subst j;obtain ⟨z,its,n,r,G,e⟩:=I.lstM B;refine KL F.slot_list_clear ⟨_,e,rfl⟩ F.entry_list_clear (F.args_list_clear_1 _) (AutoSeq1.list_clear_list_0 l its.toArray n (by rw [H9];omega)) ⟨e, ?_⟩
 exact ⟨.non,_,I.lset (its' := []) (ys := []) B e rfl .nil (J1 _),rfl,q⟩
noncomputable def Ew:R2:=fun x y H Q => ∃ l b xs zs,x = .ref l/\y = .ref b/\H l=some (.lst xs)/\H b=some (.lst zs)/\xs.length+zs.length<=GX /\ ∀ p,H p=none->Q (.ref p) (upd H p (.lst (xs++zs)))
theorem op_cat:OpR X (IU .Add) Ew:=by
 intro pins s σ H x y v u Q I rx ry h;obtain ⟨l,b,xs,zs,rfl,rfl,B,F,L,q⟩:=h
 cases rx
 cases ry
 obtain ⟨z,its,n,r,O,e⟩:=I.lstM B;obtain ⟨U,j,Y,G,J,e2⟩:=I.lstM F;refine PySem.P.add_list e e2 ?_ (by rw [H9,H9];omega)
 have ea:its.toArray++j.toArray=(its++j).toArray:=by simp
 rw [ea];exact ⟨.ref _,_,I.lnew (t':=s.toks) (r.append G) (by rw [GR];omega),rfl,q _ I.fresh⟩
noncomputable def Ex:R2:=fun x y H Q => ∃ l k xs,x = .ref l/\y = .int k/\H l=some (.lst xs) /\ -(2 ^ 63)<=k/\k < 2 ^ 63/\xs.length*k.toNat<=GX /\
 ∀ p,H p=none->Q (.ref p) (upd H p (.lst (Hm k.toNat xs).flatten))
theorem qu {α:Type} (xs:List α) (k:Nat):(Hm k xs).flatten.length=k*xs.length:=by
 induction k with
 | zero=>simp
 | succ k ih=>rw [IC,Io,GR,ih,J3,Nat.add_comm]
theorem op_rep:OpR X (IU .Mult) Ex:=by
 intro pins s σ H x y v u Q I rx ry h;obtain ⟨l,k,xs,rfl,rfl,Z,h1,h2,Y,q⟩:=h
 cases rx
 obtain ⟨t,rfl⟩:=ry;obtain ⟨z,its,n,r,hl,e⟩:=I.lstM Z;have hlen:its.toArray.size*k.toNat<=GX:=by rw [H9, <- hl];exact Y
 have B : ¬ its.toArray.size*k.toNat > (2 ^ 63 - 1) / 8:=by
  have:(GX:Nat)<=(2 ^ 63 - 1) / 8:=by decide
  omega
 have G : ¬ (!Builtin.List.listFitsIndex k)=true:=by
  rw [fitsIndex_both h1 h2];exact H0
 have j : ¬ K2 (its.toArray.size*k.toNat)=true:=by
  rw [n6 hlen];exact H0
 have J:LU (fun L O=>L++O) #[] (Hm (if its.toArray.isEmpty=true then 0 else k.toNat) its.toArray)=(Hm k.toNat its).flatten.toArray:=by
  have f0:∀ m:Nat,LU (fun L O=>L++O) #[] (Hm m its.toArray)=(Hm m its).flatten.toArray:=fun m=>by
   have:=fU its m [];rw [Le] at this;exact this
  rw [f0]
  cases its with
  | nil=>simp
  | cons a r'=>rw [if_neg (by simp)]
 refine Nf (T := "list") (U := "int") (by decide) ⟨_,e,rfl⟩ (fun s'=>O8 s' k t) noFill_list_mul QE Mr repeat_list F.slot_int_index.lookup
  (KL Mr (O8 s k t) Q8 (PN _ _) (int___rmul___int_list k t l its.toArray n)
    ⟨e,rfl,⟨_,e,rfl⟩,KL F.slot_list_mul ⟨_,e,rfl⟩ F.entry_list_mul (F.args_list_mul_2 _ _) (AutoListH.list___mul___list_int_3 l its.toArray n k t G B j) ⟨e, ?_⟩⟩)
 rw [J];exact ⟨.ref _,_,I.lnew (t':=s.toks) (r.rep k.toNat) (by rw [qu,KP];exact Y),rfl,q _ I.fresh⟩
end
end
end L2
namespace Att
open PySem PySem.W PySem.Calls PyProof.Rows
theorem j5 {P:Params} {h:Heap}:∀ (ns:List Int) (vs:List h7),WellAll P h vs (ns.map WData.int)->QO vs ns:=by
 intro ns
 induction ns with
 | nil =>
   intro vs w;rw [KQ] at w
   cases w
   exact .nil
 | cons n ns ih =>
   intro vs w;rw [Hs] at w
   cases w with
   | cons a b =>
     cases a
     exact .cons _ _ (ih _ b)
theorem um {l:OpenLaw} {n:Nat} (O:l.most=some n) {P:Params} {h:Heap} {args:List WData} {vals:List h7}
 (j:l.row.toRowW.claim.pre args=true) (G:WellAll P h vals args) :
 ∃ a vs ns,vals=[I9 a]/\args=[WData.list (ns.map WData.int)]/\h.get? a=some { cls := .type "list",data := .seq vs.toArray }/\QO vs ns/\ns.length<=n:=by
 have J:WShape.hasAll [] args [.list .int]=true:=(pre_splitW j).1;have L:l.pre.holds [] { args:=args }=true:=(pre_splitW j).2;obtain ⟨d,r,rfl,h1,h2⟩:=hasAllW_cons J;obtain rfl:=hasAllW_nil h2;obtain ⟨xs,rfl,U⟩:=hasW_list h1;obtain ⟨ns,rfl⟩:=items_int U;have hlen:ns.length<=n:=by
  unfold OpenLaw.pre at L;have B:(WTm.not (.lt (.lit (.int (n:Int))) (.len (.arg 0)))).holds [] { args := [.list (ns.map .int)] }=true:=by
   have B:=(holds_andW L).1;rw [O] at B;exact B
  have F:=condW_of B (w_not (w_lt w_lit (w_len_list (w_arg rfl))));rw [D2] at F;refine Nat.le_of_not_lt fun q => ?_;have q':(n:Int) < ((ns.length:Nat):Int):=by omega
  first
   | (rw [decide_eq_true q'] at F;exact absurd F (by decide))
   | (simp at F;omega)
 cases G with
 | cons Y Z =>
   cases Z
   cases Y with
   | list ho z=>exact ⟨_,_,ns,rfl,rfl,ho,j5 ns _ z,hlen⟩
theorem uo (l:OpenLaw) (args:List WData):l.row.toRowW.claim.post args (.bool true) args=true :=
 postW_of (r:=l.row.toRowW) (X:=(true==true))
  (show WShape.has [] (.bool true) .bool=true by first | rfl | decide | simp [WShape.has,WShape.arms,WShape.armsAll])
  (show (WTm.eq .res (.lit (.bool true))).value [] { args:=args,res:=some (.bool true),after:=args }=some (.bool (true==true)) from w_eq_bool (w_res rfl) w_lit) rfl
theorem attach_call {l:OpenLaw} {n:Nat} {q:Hu} {loose:List Str} {XP:(Str->Option h7)->Heap->Prop} {YP:HW->Heap->Prop} {d:DefRec}
 (Z:l.most=some n) (B:d.params.defaults=[])
 (call:∀ (w:HW) (s₀ s₁:D0) (mg mb:Str->Option h7) (fa:Addr) (o:Obj) (pm cd doc:h7) (a:Addr) (vs:List h7) (ns:List Int),
   Ground q loose [] XP w s₀ mg mb s₁.heap->YP w s₁.heap ->
   s₁.heap.get? fa=some o->o.data = .func (docDef d.name d.params d.body d.scope pm cd doc)->s₁.heap.CodeRec cd d.name->mg d.name=some (.ref fa) ->
   s₁.heap.get? a=some { cls := .type "list",data := .seq vs.toArray }->QO vs ns->ns.length<=n->s₁.gens = #[] ->
   Mh (model l.prog w) OU (.call (.ref fa) ⟨[.ref a],[]⟩) (fun r s'=>r = .ok (.ret (.bool true))/\OldK s₁.heap s'.heap/\s'.os=s₁.os/\Nl s'.gens) s₁) :
 WalkO q loose XP YP l.row.toRowW d [] (fun f vs=>QX f vs):=by
 intro w s₀ s₁ mg mb G Y fa o pm cd doc dV kV ho hd F O J hg args vals as j U EJ L EK;obtain rfl:dV = .none:=Dflts.none O B;obtain rfl:kV = .none:=Dflts.noKw O;obtain ⟨a,vs,ns,rfl,rfl,z,hints,hlen⟩:=um Z j L;refine enter_call (Lx (call w s₀ s₁ mg mb fa o pm cd doc a vs ns G Y ho (fd_plain hd) F J z hints hlen hg) fun r s' hq => ?_);obtain ⟨rfl,h2,h3,h4⟩:=hq;exact ⟨.inl ⟨.bool true, .bool true,[],rfl,fun _=>rfl, .bool true,uo l _,fun _=>⟨Nq,fun _ hm=>(nomatch hm)⟩⟩,h2,h3,h4⟩
section
variable {prog:Hu} {w:HW} {A:Ib} {E:h7->D0->Prop} {s:D0} {K:Frag}
noncomputable def EI (h:Heap) (L d:Addr):List (Addr×Obj):=(Hi h.objs.size).filterMap fun a=>if a=L∨a=d then none else (h.get? a).map fun o=>(a,o)
end
end Att
namespace L2
open PySem PySem.Spec PyProof.Rows
section
theorem kX:∀ {vs:List h7} {ns:List Int},QO vs ns->Vals (ns.map V.int) vs
 | _,_, .nil => .nil
 | _,_, .cons n t h => .cons ⟨t,rfl⟩ (kX h)
def se (H:Hp):Prop := ∀ b,H b=none ∨ ∃ o xs,H b=some (.frz o (.lst xs))
theorem xc {P:Hu} {w:HW} {K:Frag} {mg mb:Str->Option h7} {CX:CXT} {k:Nat} {fa a:Addr} {fd:KH} {x:Str} {sp:Sp} {s₁:D0} {vs:List h7} {ns:List Int}
 (KX:K.In s₁.heap) (G:s₁.heap.Ns IZ mg) (j:s₁.heap.Ns QR mb) (Y:∀ x:Str,x ≠ "__name__" -> mb x=JE x) (J:s₁.heap.NoLimit) (hg:s₁.gens = #[])
 (U:s₁.heap.get? a=some { cls := .type "list",data := .seq vs.toArray }) (hi:QO vs ns) (hl:ns.length<=GX) (hr:Room k OU)
 (F:∀ base:Heap,K.In base->base.Ns IZ mg->dN P w K mg base CX k fa fd [x] sp) (B:∀ (s:D0) (u:h7),PH s fd ⟨[u],[]⟩ [(x,u)])
 (Z:∀ H:Hp,se H->SqL K H a (ns.map V.int)->sp [.ref a] H (fun v _=>v = .bl true) fun _ _ _=>False)
 (EJ:∀ H e s',CX [] H s₁ (fun _ _ _=>False) e s'->False) :
 Mh (model P w) OU (.call (.ref fa) ⟨[.ref a],[]⟩) (fun r s'=>r = .ok (.ret (.bool true))/\OldK s₁.heap s'.heap/\s'.os=s₁.os/\Nl s'.gens) s₁ := by
 have rv:=kX hi;have lenV:=hi.length;have core:∀ H:Hp,se H->SqL K H a (ns.map V.int)->HOk P w H s₁.heap->(∀ b,H b≠none->b=a)->(H a≠none->K.lookup a=none) ->
  Mh (model P w) OU (.call (.ref fa) ⟨[.ref a],[]⟩) (fun r s'=>r = .ok (.ret (.bool true))/\OldK s₁.heap s'.heap/\s'.os=s₁.os/\Nl s'.gens) s₁ := by
  intro H hO hS hok hA hK;have base_of:∀ {b:Addr} {o:Obj},s₁.heap.get? b=some o->H b=none->(fh s₁.heap H).get? b=some o:=fun e n=>wD e n;have noA:∀ {b:Addr} {o:Obj} {es:Array JL} {ep:Nat},s₁.heap.get? b=some o->o.data = .dict es ep->H b=none:=fun {b o es ep} e d=>by
   cases q:H b with
   | none=>rfl
   | some u =>
     have e':b=a:=hA b (by rw [q];simp)
     subst e';rw [U] at e;cases e;have d':Ml vs.toArray _=Data.dict es ep:=d
     cases d'
  have nsK:∀ {b:Addr} {m:Str->Option h7},s₁.heap.Ns b m->(fh s₁.heap H).Ns b m:=fun {b m} ⟨o,es,ep,e,d,r⟩=>⟨o,es,ep,base_of e (noA e d),d,r⟩;have L:K.In (fh s₁.heap H):=fun b o e=>base_of (KX b o e) (by
   cases q:H b with
   | none=>rfl
   | some u =>
     have e':b=a:=hA b (by rw [q];simp)
     subst e';rw [hK (by rw [q];simp)] at e;cases e)
  have hM:Mod K mg (fh s₁.heap H):=⟨L,nsK G,⟨mb,nsK j,Y⟩,let ⟨mc,h1,h2⟩:=J; ⟨mc,nsK h1,h2⟩⟩;have e0:rW P w K mg (fh s₁.heap H) OU [] s₁ H:=⟨rfl,hM,fun b o e=>zF e,O9 (tY _ _),trivial,fun b j=>absurd (show b∈([]:List Addr) from j) (by simp),hok, .of_eq hg⟩
  refine Lx ((F _ L (nsK G)).run OU [] s₁ H ⟨[.ref a],[]⟩ [.ref a] [.ref a] _ _ hr e0 (B s₁ (.ref a)) (.cons rfl .nil) (Z H hO hS)) fun r s' h => ?_
  cases r with
  | error e=>exact (EJ H e s' h).elim
  | ok fl =>
    cases fl with
    | next=>exact False.elim h
    | brk=>exact False.elim h
    | cont=>exact False.elim h
    | ret u =>
      obtain ⟨v,H',os,bare,un,O,r',q⟩:=h;have q':v = .bl true:=q;subst q';obtain rfl:u=NT true:=r';refine ⟨rfl,OldK.of_keep fun b o e => ?_,os,bare⟩
      cases q:H b with
      | none=>exact un.keep b o e q (by intro z;exact absurd (show b∈([]:List Addr) from z) (by simp)) (by simp)
      | some u =>
        rcases hO b with z | ⟨ob,xs,z⟩
        ·rw [q] at z;cases z
        ·have z2:=un.frzs b ob _ z;obtain ⟨e1,_⟩:=hok b _ z;obtain ⟨e2,_⟩:=O b _ z2;rw [e] at e1;cases e1;exact e2
 cases hk:K.lookup a with
 | some o =>
   have e:=KX a o hk;rw [U] at e
   cases e
   refine core (fun _=>none) (fun _ => .inl rfl) (.inr ⟨_,vs.toArray,_,hk,rfl,rfl,rfl,by rw [H9,lenV];exact hl,by simpa using rv⟩) (fun b u z=>by have z':(none:Option HO)=some u:=z;cases z') (fun b z=>absurd rfl z) fun z=>absurd rfl z
 | none =>
   refine core (fun b=>if b=a then some (.frz { cls := .type "list",data := .seq vs.toArray } (.lst (ns.map V.int))) else none) (fun b => ?_) (.inl (.inr ⟨{ cls := .type "list",data := .seq vs.toArray },if_pos rfl⟩)) (fun b u z => ?_) (fun b z => ?_) fun _=>hk
   ·by_cases j:b=a
    ·exact .inr ⟨_,_,if_pos j⟩
    ·exact .inl (if_neg j)
   ·by_cases j:b=a
    ·have z':=(if_pos j).symm.trans z
     cases z'
     subst j;exact ⟨U,by rw [D2];exact hl,vs,_,rv,U⟩
    ·have z':=(if_neg j).symm.trans z
     cases z'
   ·by_cases j:b=a
    ·exact j
    ·exact absurd (if_neg j) z
end
section
theorem walk_of {l:Oh} {n k:Nat} {q:Hu} {loose:List Str} {XP:(Str->Option h7)->Heap->Prop} {YP:HW->Heap->Prop} {d:DefRec} {K:Params->Frag} {CX:HW->CXT} {sp:HW->Sp} {x:Str}
 (U:l.most=some n) (z:n<=GX) (B:d.params.defaults=[]) (Z:Room k OU)
 (hY:∀ (w:HW) (h:Heap),YP w h->(K w.params).In h)
 (F:∀ (w:HW) (mg:Str->Option h7) (fa:Addr) (h:Heap),(K w.params).In h->h.Ns IZ mg->mg d.name=some (.ref fa) ->
   ∃ fd:KH,(∀ (s:D0) (u:h7),PH s fd ⟨[u],[]⟩ [(x,u)]) /\
    ∀ base:Heap,(K w.params).In base->base.Ns IZ mg->dN l.prog w (K w.params) mg base (CX w) k fa fd [x] (sp w))
 (J:∀ (w:HW) (H:Hp) (a:Addr) (ns:List Int),ns.length<=n->se H->SqL (K w.params) H a (ns.map V.int)->sp w [.ref a] H (fun v _=>v = .bl true) fun _ _ _=>False)
 (L:∀ (w:HW) (H:Hp) (s:D0) (e:h7) (s':D0),CX w [] H s (fun _ _ _=>False) e s'->False) :
 PySem.W.WalkO q loose XP YP l.row.toRowW d [] (fun f vs=>QX f vs):=by
 refine Att.attach_call U B fun w s₀ s₁ mg mb fa o pm cd doc a vs ns G Y ho hd EJ O j hints hlen hg => ?_;have KX:=hY w _ Y;obtain ⟨fd,hb,hF⟩:=F w mg fa _ KX G.T.g O;exact xc KX G.T.g G.T.b G.T.builtins G.T.nolimit hg j hints (IV hlen z) Z hF hb (fun H hO hS=>J w H a ns hlen hO hS) fun H e s'=>L w H s₁ e s'
end
section
noncomputable def dB (s:Stmt):Arguments:=match s with
 | .FunctionDef _ a _ _ _ _ _ _ _ _=>a
 | _ => { posonlyargs := [],args := [],vararg:=none,kwonlyargs := [],kw_defaults := [],kwarg:=none,defaults := [] }
noncomputable def bV (s:Stmt):List Stmt:=match s with
 | .FunctionDef _ _ b _ _ _ _ _ _ _=>b
 | _ => []
noncomputable def az (s:Stmt):Scope:=match s with
 | .FunctionDef _ _ _ _ _ _ sc _ _ _=>sc
 | _ => { kind := .function,names := [],isGenerator:=false,isCoroutine:=false }
noncomputable abbrev CX0:CXT:=fun _ _ _ _ _ _=>False
noncomputable abbrev E0:XK:=fun _ _ _=>False
theorem yW {X:Cx}:j3 CX0 X E0:=fun _ _ _ _ _ _ _ h=>h.elim
structure Fun (K:Frag) (x qual:Str) (st:Stmt) (f:Addr) (fd:KH):Prop where
 ex:∃ (oc:h7) (od:Option Addr) (kV doc pm:h7) (an:Option Addr) (cdv ct:h7) (osl:Array (Option h7)),
  fd=Kg x qual (dB st) (bV st) (az st) .none kV doc pm an cdv ct/\K.lookup f=some ⟨oc,od, .func fd,osl⟩/\MV K cdv qual=true
 kp:KI K (.ref f)=true
section
variable {P:Hu} {w:HW} {K:Frag} {mg:Str->Option h7} {base:Heap}
theorem Fun.ok {x qual:Str} {st:Stmt} {f:Addr} {fd:KH} {N ps:List Str} {k:Nat} {sp:Sp} (F:Fun K x qual st f fd) (S:gI N ps (az st)) (len:∀ vs H Q E,sp vs H Q E->vs.length=ps.length)
 (j:∀ (cdv:h7) (A:Ib) (outer:List Env) (s:D0) (H:Hp) (vs:List V) (Q:VK) (E:XK),Room k (A.deeper (Ow qual (az st) s.heap.objs.size f cdv))->sp vs H Q E ->
   ∃ t,PSs (iA CX0 P w K mg base N qual (az st) f cdv A outer s H E).nox (bV st) t/\t { nx:=fun _ H'=>Q .non H',rt:=Q } (cO N vs) H):dN P w K mg base CX0 (k+1) f fd ps sp:=by
 obtain ⟨oc,od,kV,doc,pm,an,cdv,ct,osl,rfl,lk,z⟩:=F.ex;refine Dz lk z S len fun A outer s H vs Q E G B => ?_;obtain ⟨t,h,q⟩:=j cdv A outer s H vs Q E G B;exact ⟨t,h.nox,q⟩
theorem Fun.binds {x qual:Str} {st:Stmt} {f:Addr} {fd:KH} {ps:List Str} (F:Fun K x qual st f fd)
 (h:∀ (kV doc pm:h7) (an:Option Addr) (cdv ct:h7) (us:List h7),us.length=ps.length->bindArgs (Kg x qual (dB st) (bV st) (az st) .none kV doc pm an cdv ct) ⟨us,[]⟩=pure (ps.zip us)):Binds K fd ps []:=by
 obtain ⟨oc,od,kV,doc,pm,an,cdv,ct,osl,rfl,lk,j⟩:=F.ex;exact .all (h kV doc pm an cdv ct)
theorem ai {x qual:Str} {st:Stmt} {f:Addr} {oc:h7} {od an:Option Addr} {osl:Array (Option h7)} {kV doc pm cdv ct:h7} (l:K.lookup f=some ⟨oc,od, .func (Kg x qual (dB st) (bV st) (az st) .none kV doc pm an cdv ct),osl⟩)
 (c:MV K cdv qual=true) (k:KI K (.ref f)=true):Fun K x qual st f (Kg x qual (dB st) (bV st) (az st) .none kV doc pm an cdv ct):=⟨⟨oc,od,kV,doc,pm,an,cdv,ct,osl,rfl,l,c⟩,k⟩
end
end
end L2
namespace HT
open PySem PySem.Spec PyProof.Rows
section
variable {prog:Hu} {w:HW} {A:Ib} {E:h7->D0->Prop} {s:D0}
theorem getItem_tuple_whole {t sl:Addr} {items:Array h7} {vl vu:h7} {lo hi:Option Int} {Q:h7->D0->Prop} (j:IsTup s.heap t items) (hs:s.heap.IsSliceOf sl vl vu .none) (pl:NW vl lo) (pu:NW vu hi)
 (hw:sIx items.size 0 lo=0/\sIx items.size items.size hi=items.size) (h:Q (.ref t) s):Hd (model prog w) A (Np (.ref t) (.ref sl)) Q E s:=by
 obtain ⟨os,q,z,G⟩:=id hs;have B:s.TypeIs (.ref sl) "slice" := ⟨os,q,z⟩;unfold Np
 try with_reducible refine Ii ?_
 first | refine gV (tv ?_) | skip
 refine gV (PM j.typeIs (by decide) ?_)
 refine gV (HN (name:=Ic "__getitem__") j.typeIs Je
  (HX Je j.typeIs OX ?_ (Pm _ _)))
 show Hd _ _ (MX (.ref t) >>= _) _ _ s;refine gV (tupleItemsOf_ j ?_);refine gV (JF B ?_);rw [if_pos (by decide)]
 refine gV (dO hs pl pu ?_);have F:(((sIx items.size 0 lo:Nat):Int)==0&&(1:Int)==1&&(sIx items.size items.size hi - sIx items.size 0 lo)==items.size)=true:=by
  rw [hw.1,hw.2];simp
 show Hd _ _ (if (((sIx items.size 0 lo:Nat):Int)==0&&(1:Int)==1&&(sIx items.size items.size hi - sIx items.size 0 lo)==items.size)=true then _ else _) _ _ s
 rw [if_pos F];refine gV (m:=MY (.ref t)) ?_;unfold MY;refine gV (JF j.typeIs (tv ?_));show Hd _ _ (if true=true then _ else _) _ _ s
 rw [if_pos rfl];exact gV (IG (tv ⟨_,rfl,tv h⟩))
end
end HT
namespace L2
open PySem PySem.Spec PyProof.Rows
section
section
variable {X:Cx}
noncomputable def Ey (K:Frag):V->Option Int->Option Int->Hp->VK->Prop:=fun x lo hi H Q => ∃ a xs,x = .ref a/\SqT K H a xs/\(HT.sIx xs.length 0 lo=0/\HT.sIx xs.length xs.length hi=xs.length)/\Q x H
theorem xf:SlR X (Ey X.K):=by
 intro pins s σ H x v vl vu lo hi sl Q I rx hs pl pu h;obtain ⟨a,xs,rfl,hx,hw,q⟩:=h
 cases rx
 obtain ⟨its,r,j,z⟩:=I.tuple hx;have hlen:=r.length;refine ⟨"tuple",_,slot_tuple_getitem.lookup,j.typeIs, ?_⟩;refine HT.getItem_tuple_whole j hs pl pu (by rw [H9, <- hlen];exact hw) ⟨.ref a,H,I,rfl,q⟩
end
end
section
section
variable {κ:Type} [DecidableEq κ]
noncomputable def bP (kvs:List (κ × V)) (k : κ):Option V:=(kvs.find? fun kv=>decide (kv.1=k)).map (·.2)
noncomputable def bm (kvs:List (κ × V)) (k : κ) (v:V):List (κ × V) :=
 if (kvs.any fun kv=>decide (kv.1=k))=true then kvs.map (fun kv=>if kv.1=k then (kv.1,v) else kv) else kvs++[(k,v)]
theorem fq {p : κ × V} {r:List (κ × V)} {k : κ} (e:p.1=k):bP (p::r) k=some p.2:=by simp [bP,Jc,e]
theorem fu {p : κ × V} {r:List (κ × V)} {k : κ} (e : ¬ p.1=k):bP (p::r) k=bP r k:=by simp [bP,Jc,e]
theorem n9 (k : κ):∀ kvs:List (κ × V),(kvs.any fun kv=>decide (kv.1=k))=(bP kvs k).isSome
 | [] => rfl
 | p::r=>by
   rw [Ks]
   by_cases e:p.1=k
   ·simp only [fq e,decide_eq_true e,Bool.true_or,Po]
   ·rw [fu e,decide_eq_false e,Nw];exact n9 k r
theorem cP (kvs:List (κ × V)) (k : κ) (v:V):(bm kvs k v).length<=kvs.length+1:=by
 unfold bm
 split
 ·rw [D2];omega
 ·rw [GR,HR,Jd];omega
theorem RelO.isSome_eq {o:Option V} {u:Option h7} (r:RelO o u):o.isSome=u.isSome:=by
 cases o with
 | none=>cases u with
   | none=>rfl
   | some _=>exact (show False from r).elim
 | some _=>cases u with
   | none=>exact (show False from r).elim
   | some _=>rfl
theorem RelO.getD {o:Option V} {u:Option h7} {d:V} {d':h7} (r:RelO o u) (rd:RelV d d'):RelV (o.getD d) (u.getD d'):=by
 cases o with
 | none=>cases u with
   | none=>exact rd
   | some _=>exact (show False from r).elim
 | some _=>cases u with
   | none=>exact (show False from r).elim
   | some _=>exact r
theorem KV.val {kvs:List (κ × V)} {vs:List (κ × h7)} (r:KV kvs vs) (k : κ):RelO (bP kvs k) (OV vs k):=by
 unfold KV at r
 induction r with
 | nil=>exact IX
 | @cons p q ps qs h t ih =>
  obtain ⟨h1,h2⟩:=h
  by_cases e:p.1=k
  ·have e':q.1=k:=h1.symm.trans e;have b:OV (q::qs) k=some q.2:=by simp [OV,Jc,e']
   rw [fq e,b];exact h2
  ·have e' : ¬ q.1=k:=fun z=>e (h1.trans z);have b:OV (q::qs) k=OV qs k:=by simp [OV,Jc,e']
   rw [fu e,b];exact ih
theorem KV.any {kvs:List (κ × V)} {vs:List (κ × h7)} (r:KV kvs vs) (k : κ):(kvs.any fun kv=>decide (kv.1=k))=vs.any fun kv=>decide (kv.1=k):=by
 unfold KV at r
 induction r with
 | nil=>rfl
 | cons h t ih=>rw [Ks,Ks,ih,h.1]
theorem KV.repl {kvs:List (κ × V)} {vs:List (κ × h7)} (r:KV kvs vs) (k : κ) {y:V} {u:h7} (ry:RelV y u) :
 KV (kvs.map fun kv=>if kv.1=k then (kv.1,y) else kv) (vs.map fun kv=>if kv.1=k then (kv.1,u) else kv):=by
 unfold KV at r ⊢
 induction r with
 | nil=>exact .nil
 | @cons p q ps qs h t ih =>
  rw [Hs,Hs];refine .cons ?_ ih;obtain ⟨h1,h2⟩:=h
  by_cases e:p.1=k
  ·rw [if_pos e,if_pos (h1.symm.trans e)];exact ⟨h1,ry⟩
  ·rw [if_neg e,if_neg (fun z=>e (h1.trans z))];exact ⟨h1,h2⟩
theorem KV.put {kvs:List (κ × V)} {vs:List (κ × h7)} (r:KV kvs vs) (k : κ) {y:V} {u:h7} (ry:RelV y u):KV (bm kvs k y) (stored vs k u):=by
 unfold bm stored;rw [r.any k]
 by_cases e:(vs.any fun kv=>decide (kv.1=k))=true
 ·rw [if_pos e,if_pos e];exact r.repl k ry
 ·rw [if_neg e,if_neg e];exact Paired.snoc r ⟨rfl,ry⟩
theorem KV.length {kvs:List (κ × V)} {vs:List (κ × h7)} (r:KV kvs vs):kvs.length=vs.length:=JX r
end
theorem mJ {P:Hu} {w:HW} {k:Key} {u:h7} (r:RelV (kV k) u):(aI P w).is k u=true:=by
 cases k with
 | inl i=>obtain ⟨t,e⟩:=(show ∃ t,u=OR i t from r);subst e;exact qa P w i t
 | inr x=>obtain ⟨t,e⟩:=(show ∃ t,u=OS x t from r);subst e;exact qb P w x t
theorem kY {P:Hu} {w:HW}:∀ {ks:List Key} {us:List h7},Vals (ks.map kV) us->ItemsAre (aI P w) ks us
 | [],_,r=>by rw [KQ] at r;cases r;exact .nil
 | k::ks,_,r=>by
   rw [Hs] at r
   cases r with
   | cons h t=>exact .cons (mJ h) (kY t)
noncomputable abbrev KT (H:Hp):List (List Key×V)->List (List Key×Addr×h7)->Prop:=HZ fun p q=>p.1=q.1/\H q.2.1=some (.tup (p.1.map kV))/\RelV p.2 q.2.2
theorem KT.val {H:Hp} {kvs:List (List Key×V)} {xs:List (List Key×Addr×h7)} (r:KT H kvs xs) (k:List Key):RelO (bP kvs k) ((OA xs k).map (·.2)):=by
 induction r with
 | nil=>exact IX
 | @cons p q ps qs h t ih =>
  obtain ⟨h1,_,h2⟩:=h
  by_cases e:p.1=k
  ·have e':q.1=k:=h1.symm.trans e;have b:OA (q::qs) k=some q.2:=by simp [OA,Jc,e']
   rw [fq e,b];exact h2
  ·have e' : ¬ q.1=k:=fun z=>e (h1.trans z);have b:OA (q::qs) k=OA qs k:=by simp [OA,Jc,e']
   rw [fu e,b];exact ih
theorem KT.repl {H:Hp} {kvs:List (List Key×V)} {xs:List (List Key×Addr×h7)} (r:KT H kvs xs) (k:List Key) {y:V} {u:h7} (ry:RelV y u) :
 KT H (kvs.map fun kv=>if kv.1=k then (kv.1,y) else kv) (xs.map (putAt k u)):=by
 induction r with
 | nil=>exact .nil
 | @cons p q ps qs h t ih =>
  rw [Hs,Hs];refine .cons ?_ ih;obtain ⟨h1,h2,j⟩:=h;unfold putAt
  by_cases e:p.1=k
  ·rw [if_pos e,if_pos (h1.symm.trans e)];exact ⟨h1,h2,ry⟩
  ·rw [if_neg e,if_neg (fun z=>e (h1.trans z))];exact ⟨h1,h2,j⟩
theorem KT.put {H:Hp} {kvs:List (List Key×V)} {xs:List (List Key×Addr×h7)} (r:KT H kvs xs) (k:List Key) {b:Addr} {y:V} {u:h7} (j:H b=some (.tup (k.map kV))) (ry:RelV y u) :
 KT H (bm kvs k y) (storedH xs k b u):=by
 have e:(kvs.any fun kv=>decide (kv.1=k))=(OA xs k).isSome:=by
  rw [n9,(r.val k).isSome_eq,Option.isSome_map]
 unfold bm storedH;rw [e]
 by_cases q:(OA xs k).isSome=true
 ·rw [if_pos q,if_pos q];exact r.repl k ry
 ·rw [if_neg q,if_neg q];exact Paired.snoc r ⟨rfl,j,ry⟩
theorem KT.keeps {H H':Hp} {kvs:List (List Key×V)} {xs:List (List Key×Addr×h7)} (r:KT H kvs xs) (j:∀ b ys,H b=some (.tup ys)->H' b=some (.tup ys)):KT H' kvs xs :=
 Rp r fun _ _ z=>⟨z.1,j _ _ z.2.1,z.2.2⟩
section
variable {P:Hu} {w:HW} {H:Hp} {h:Heap} {a:Addr}
theorem yX {u:HO} (ok:HOk P w H h) (e:Rd H a u):ObjOk P w H h a u:=e.ok ok
theorem mK {kvs:List (Key×V)} (ok:HOk P w H h) (e:Rd H a (.dK kvs)):kvs.length<=GX/\(a==Iu)=false /\ ∃ vs,KV kvs vs/\h.DictOf (aI P w) a vs :=
 show ObjOk P w H h a (.dK kvs) from yX ok e
theorem DC {kvs:List (Key×V)} (ok:HOk P w H h) (e:H a=some (.dK kvs)):kvs.length<=GX/\(a==Iu)=false /\ ∃ vs,KV kvs vs/\h.DictOf (aI P w) a vs:=mK ok (.inl e)
theorem fV {ks:List Key} (ok:HOk P w H h) (e:H a=some (.tup (ks.map kV))):(Lp (aI P w)).is h ks a:=by
 obtain ⟨_,its,r,o,h1,h2,n,j⟩:=(show ObjOk P w H h a (.tup (ks.map kV)) from ok a _ e);exact ⟨o,its.toArray,n,h1,h2,j,by simpa using kY r⟩
theorem gJ {kvs:List (List Key×V)} (ok:HOk P w H h) (e:Rd H a (.dT kvs)):kvs.length<=GX/\(a==Iu)=false /\
 ∃ xs,KT H kvs xs/\h.DictOfH (Lp (aI P w)) a xs:=by
 obtain ⟨z,y,xs,r,o,es,ep,h1,h2,j,B,F⟩:=(show ObjOk P w H h a (.dT kvs) from yX ok e);refine ⟨z,y,xs,r,o,es,ep,h1,h2,j,B,fun x hx => ?_,F⟩;have all:∀ {l:List (List Key×V)} {m:List (List Key×Addr×h7)},KT H l m -> ∀ x∈m,(Lp (aI P w)).is h x.1 x.2.1:=by
  intro l m q
  induction q with
  | nil=>intro x hx;exact nomatch hx
  | @cons p q ps qs hq t ih =>
   intro x hx
   rcases Ha.mp hx with e | hx
   ·subst e;exact fV ok (by rw [<- hq.1];exact hq.2.1)
   ·exact ih x hx
 exact all r x hx
theorem yY {kvs:List (List Key×V)} (ok:HOk P w H h) (e:H a=some (.dT kvs)):kvs.length<=GX/\(a==Iu)=false /\
 ∃ xs,KT H kvs xs/\h.DictOfH (Lp (aI P w)) a xs:=gJ ok (.inl e)
end
def DGet (H:Hp) (a:Addr) (y:V) (r:Option V):Prop :=
 (∃ kvs k,Rd H a (.dK kvs)/\y=kV k/\r=bP kvs k) ∨ ∃ kvs k b,Rd H a (.dT kvs)/\y = .ref b/\H b=some (.tup (k.map kV))/\r=bP kvs k
def DPut (H:Hp) (a:Addr) (y v:V) (H':Hp):Prop :=
 (∃ kvs k,H a=some (.dK kvs)/\y=kV k/\kvs.length < GX/\H'=upd H a (.dK (bm kvs k v))) ∨
 ∃ kvs k b,H a=some (.dT kvs)/\y = .ref b/\H b=some (.tup (k.map kV))/\kvs.length < GX/\H'=upd H a (.dT (bm kvs k v))
theorem DGet.k {H:Hp} {a:Addr} {kvs:List (Key×V)} {k:Key} (e:H a=some (.dK kvs)):DGet H a (kV k) (bP kvs k) := .inl ⟨kvs,k, .inl e,rfl,rfl⟩
theorem DPut.k {H:Hp} {a:Addr} {kvs:List (Key×V)} {k:Key} {v:V} (e:H a=some (.dK kvs)) (j:kvs.length < GX):DPut H a (kV k) v (upd H a (.dK (bm kvs k v))) := .inl ⟨kvs,k,e,rfl,j,rfl⟩
theorem DPut.t {H:Hp} {a b:Addr} {kvs:List (List Key×V)} {k:List Key} {v:V} (e:H a=some (.dT kvs)) (eb:H b=some (.tup (k.map kV))) (j:kvs.length < GX) :
 DPut H a (.ref b) v (upd H a (.dT (bm kvs k v))) := .inr ⟨kvs,k,b,e,rfl,eb,j,rfl⟩
section
variable {X:Cx} {pins:List (Addr×Obj)} {σ:St} {H:Hp} {s:D0} {a:Addr} {y v:V} {u r:h7} {o:Option V} {A:Ib} {E:h7->D0->Prop}
theorem Inv.big (I:Inv X pins σ H s):Iu < s.heap.objs.size:=by
 have h:IZ < s.heap.objs.size:=(I.mod.glob.keeps I.bk).lt;exact Nat.lt_trans (by decide) h
theorem uq {Q:h7->D0->Prop} (q:A.units+1 < JH) (I:Inv X pins σ H s) (g:DGet H a y (some v)) (ry:RelV y u) (h:∀ w' s',Inv X pins σ H s'->RelV v w'->Q w' s') :
 Hd (model X.prog X.w) A (Np (.ref a) u) Q E s:=by
 rcases g with ⟨kvs,k,e,ey,l⟩ | ⟨kvs,k,b,e,ey,eb,l⟩
 ·subst ey;obtain ⟨z,hd,vs,rel,dd⟩:=mK I.hok e;obtain ⟨w',hw,rw'⟩:=Rz (v:=v) (o:=OV vs k) (by rw [l];exact rel.val k)
  exact wpAny_getItem_of (mJ ry) dd.mapOf hw (h w' _ (I.tok _) rw')
 ·subst ey
  cases (show u=I9 b from ry)
  obtain ⟨z,hd,xs,rel,dd⟩:=gJ I.hok e;obtain ⟨w',hw,rw'⟩:=Rz (v:=v) (o:=(OA xs k).map (·.2)) (by rw [l];exact rel.val k)
  obtain ⟨p,B,j⟩:=Kh.mp hw;refine wpAny_getItem_heap (Ki q) (fV I.hok eb) dd B ?_;rw [j];exact h w' _ (I.tok _) rw'
theorem ke {h':Heap} {t':Nat} {ob:HO} (I:Inv X pins σ H s) (mu:Mut (H a)) (hs:IJ a s.heap h') (he:∃ q,h'.get? a=some q) (new:ObjOk X.prog X.w (upd H a ob) h' a ob) :
 Inv X pins σ (upd H a ob) { s with heap:=h',toks:=t' } :=
 I.write (x:=a) (e:=a) mu (.inl rfl) (fun b q j z=>(hs.2 b j).trans z) he new
theorem C0 {P:Hu} {w:HW} {H':Hp} {h':Heap} {kvs:List (Key×V)} {vs:List (Key×h7)} (z:kvs.length<=GX) (hd:(a==Iu)=false) (rel:KV kvs vs) (dd:h'.DictOf (aI P w) a vs) :
 ObjOk P w H' h' a (.dK kvs):=⟨z,hd,vs,rel,dd⟩
theorem ut {H':Hp} {Q:Unit->D0->Prop} (G:A.units+1 < JH) (I:Inv X pins σ H s) (g:DPut H a y v H') (ry:RelV y u) (rv:RelV v r) (h:∀ s',Inv X pins σ H' s'->Q () s') :
 Hd (model X.prog X.w) A (OT (.ref a) u r) Q E s:=by
 rcases g with ⟨kvs,k,e,ey,l,eH⟩ | ⟨kvs,k,b,e,ey,eb,l,eH⟩
 ·subst ey eH;obtain ⟨z,hd,vs,rel,dd⟩:=DC I.hok e;have B:vs.length<=GX:=by rw [<- rel.length];exact z
  have F:(bm kvs k v).length<=GX:=by have:=cP kvs k v;omega
  refine wpAny_setItem_pairs (hsz:=B) (mJ ry) dd fun h' dd' hs=>h _ ?_;have he:∃ q,h'.get? a=some q:=let ⟨q,_,_,j,_⟩:=dd'; ⟨q,j⟩;exact ke I (by rw [e];exact IX) hs he (C0 F hd (rel.put k rv) dd')
 ·subst ey eH
  cases (show u=I9 b from ry)
  obtain ⟨z,hd,xs,rel,dd⟩:=yY I.hok e;have B:xs.length<=GX:=by rw [<- JX rel];exact z
  have F:(bm kvs k v).length<=GX:=by have:=cP kvs k v;omega
  refine wpAny_setItem_heap (hsz:=B) (Ki G) (fV I.hok eb) dd fun h' dd' hs=>h _ ?_;obtain ⟨q,es,ep,j,h2,J,L,_,O⟩:=dd';refine ke I (by rw [e];exact IX) hs ⟨q,j⟩ ⟨F,hd,_,(rel.put k eb rv).keeps fun c ys ec => ?_,q,es,ep,j,h2,J,L,O⟩
  rw [ak (yO ec e (fun z=>nomatch z))];exact ec
end
theorem xg {P:Hu} {w:HW} {H:Hp} (h:Heap) (j:Iu < h.objs.size):ObjOk P w H (h.push { cls := .type "dict",data := .dict #[] }) h.objs.size (.dK []) :=
 ⟨J1 _,beq_eq_false_iff_ne.mpr (Ne.symm (HQ j)),[], .nil,Heap.DictOf.new h⟩
theorem nc {P:Hu} {w:HW} {H:Hp} (h:Heap) (j:Iu < h.objs.size):ObjOk P w H (h.push { cls := .type "dict",data := .dict #[] }) h.objs.size (.dT []) :=
 ⟨J1 _,beq_eq_false_iff_ne.mpr (Ne.symm (HQ j)),[], .nil,_, #[],0,GY _ rfl,⟨rfl,rfl,rfl⟩,rfl,rfl,List.nodup_nil⟩
noncomputable def C1:TE:=fun _ H Q => ∀ p,H p=none->Q (.ref p) (upd H p (.dK []))
noncomputable def C2:TE:=fun _ H Q => ∀ p,H p=none->Q (.ref p) (upd H p (.dT []))
section
variable {X:Cx} {pos:Pos}
theorem xh:PE X (.Dict [] [] pos) C1:=fun pins s σ H Q I h =>
 Q9 ⟨.ref s.heap.objs.size,_,I.laid (a:=s.heap.objs.size) (o := .dK []) (t':=s.toks) (fun _ _ q=>q7 _ q) (Hc _) (xg s.heap I.big),rfl,h _ (I.hok.fresh (Hc _))⟩
theorem xi:PE X (.Dict [] [] pos) C2:=fun pins s σ H Q I h =>
 Q9 ⟨.ref s.heap.objs.size,_,I.laid (a:=s.heap.objs.size) (o := .dT []) (t':=s.toks) (fun _ _ q=>q7 _ q) (Hc _) (nc s.heap I.big),rfl,h _ (I.hok.fresh (Hc _))⟩
end
structure M2 (X:Cx) (o:Expr) (m:Str) (apos:Pos) (e f:Expr) (cpos:Pos):Prop where
 base:Nv o m X.env (eval o X.env)=eval o X.env
 few:((L3 cpos (Hv [e,f] X.env)).all (fun x => !x.1)&&(QW cpos (Oy [] X.env)).all (fun x=>x.1.isSome)
  && decide (([e,f]:List Expr).length+([]:List MA).length+(if ([]:List MA).isEmpty then 0 else 1) < 30))=true
 line:(apos.endLine==cpos.line)=true
 trees:L3 cpos (Hv [e,f] X.env)=[(false,eval e X.env),(false,eval f X.env)]
def IsD (H:Hp) (a:Addr):Prop:=(∃ kvs,Rd H a (.dK kvs)) ∨ ∃ kvs,Rd H a (.dT kvs)
theorem j6 {X:Cx} {pins:List (Addr×Obj)} {σ:St} {H:Hp} {s:D0} {a:Addr} (I:Inv X pins σ H s) (d:IsD H a) :
 s.TypeIs (.ref a) "dict" /\ (∀ b,I9 a = .ref b -> ∃ ob,s.heap.get? b=some ob/\ob.dict=none)/\(a==Iu)=false:=by
 rcases d with ⟨kvs,e⟩ | ⟨kvs,e⟩
 ·obtain ⟨_,hd,vs,_,dd⟩:=mK I.hok e;refine ⟨dd.typeIs,fun b q => ?_,hd⟩
  cases q
  obtain ⟨ob,_,_,h1,h2,_⟩:=dd;exact ⟨ob,h1,h2.2.1⟩
 ·obtain ⟨_,hd,xs,_,dd⟩:=gJ I.hok e;refine ⟨dd.typeIs,fun b q => ?_,hd⟩
  cases q
  obtain ⟨ob,_,_,h1,h2,_⟩:=dd;exact ⟨ob,h1,h2.2.1⟩
section
variable {X:Cx} {pins:List (Addr×Obj)} {σ:St} {H:Hp} {s:D0} {a:Addr} {y d:V} {u r:h7} {o:Option V} {A:Ib} {E:h7->D0->Prop}
theorem C3 {Q:h7->D0->Prop} (j:A.units+1 < JH) (I:Inv X pins σ H s) (g:DGet H a y o) (ry:RelV y u) (rd:RelV d r) (h:∀ w' s',Inv X pins σ H s'->RelV (o.getD d) w'->Q w' s') :
 Hd (model X.prog X.w) A (call (.builtin "dict.get") [.ref a,u,r]) Q E s:=by
 rcases g with ⟨kvs,k,e,ey,l⟩ | ⟨kvs,k,b,e,ey,eb,l⟩
 ·subst ey;obtain ⟨z,hd,vs,rel,dd⟩:=mK I.hok e;refine PQ LQ dd.typeIs Oa (NH _ _ _) (meets_dict_get_default (aI X.prog X.w) a (mJ ry) hd r) ⟨_,dd.mapOf,h _ _ (I.tok _) ?_⟩;rw [l];exact (rel.val k).getD rd
 ·subst ey
  cases (show u=I9 b from ry)
  obtain ⟨z,hd,xs,rel,dd⟩:=gJ I.hok e;refine PQ LQ dd.typeIs Oa (NH _ _ _) (meetsH_dict_get_default (Lp (aI X.prog X.w)) a b hd r) ⟨Ki j,k,xs,fV I.hok eb,dd,h _ _ (I.tok _) ?_⟩;rw [l];exact (rel.val k).getD rd
end
noncomputable def C4 (td ty tx:TE):TE:=fun σ H Q=>td σ H fun x H1 => ∃ a,x = .ref a/\IsD H1 a/\ty σ H1 fun y H2=>tx σ H2 fun z H3 => ∃ o,DGet H3 a y o/\Q (o.getD z) H3
section
variable {X:Cx} {o e f:Expr} {apos cpos:Pos} {td ty tx:TE}
theorem xj (q:X.A.units+1 < JH) (ho:PE X o td) (he:PE X e ty) (hf:PE X f tx) (m:M2 X o "get" apos e f cpos):PE X (.Call (.Attribute o "get" apos) [e,f] [] cpos) (C4 td ty tx):=by
 intro pins s σ H Q I h;refine wpAny_Call_method m.base m.few m.line PySem.F.plainAttrs_dict LQ PySem.F.type_dict_get (thn (ho pins s σ H _ I h) fun u s1 ⟨x,H1,j,rx,a,ex,d,B⟩ => ?_);subst ex;obtain rfl:u=I9 a:=rx;obtain ⟨t1,G,_⟩:=j6 j d;refine ⟨t1,G, ?_⟩;rw [m.trees];refine LA rfl (Oz (MU (thn (he pins s1 σ H1 _ j B) fun iv s2 ⟨y,H2,J,ry,L⟩ =>
  MU (thn (hf pins s2 σ H2 _ J L) fun fv s3 ⟨z,O,U,rz,ov,g,Y⟩=>PF ?_))))
 exact C3 q U g ry rz fun w' s4 Z rw'=>⟨_,O,Z,rw',Y⟩
end
end
section
noncomputable def b5 (elt:Expr) (gens:List Ij) (scope:Scope) (pos:Pos) (d:Nat) (acc:h7) (env:Env) (k:Sem Fin):Sem Fin :=
 match gens[d+1]? with
 | some g'=>eval g'.iter env >>= fun x=>Nm g'.iter.pos >>= fun _=>Js g'.iter env x >>= fun x=>holding [x] (Pg x) >>= fun it' =>
    runOwn (.compStart (.ListComp elt gens scope pos) (d+1) it' acc env) env >>= fun _=>k
 | none=>(eval elt env >>= fun x=>call (.builtin "list.append") [acc,x] >>= fun _=>pure ()) >>= fun _=>k
noncomputable def bn (ifs:List Expr) (env:Env):Sem Bool :=
 forIn ifs true fun c r=>if r=true then do let ok <- isTrue c env (eval c env);pure (Km ok) else pure (Km r)
theorem ng (elt target iter:Expr) (ifs:List Expr) (gens:List Ij) (scope:Scope) (pos:Pos) (d:Nat) (it acc:h7) (env:Env)
 (hd:gens[d]? = some ⟨target,iter,ifs,0⟩) (j:∀ g',gens[d+1]? = some g'->g'.is_async=0) :
 compTurn (.ListComp elt gens scope pos) d it acc env=(Nm iter.pos >>= fun _=>Kt it >>= fun r=>match r with
  | none=>pure (.done .next)
  | some v=>Mp target it v >>= fun _=>assign target env v >>= fun _=>bn ifs env >>= fun ok =>
    (if ok=true then b5 elt gens scope pos d acc env (again (.compLoop (.ListComp elt gens scope pos) d it acc env)) else again (.compLoop (.ListComp elt gens scope pos) d it acc env))):=by
 unfold compTurn;simp only [hd];unfold b5 bn
 cases hn:gens[d+1]? with
 | none=>rfl
 | some g' =>
   obtain ⟨t',i',f',a'⟩:=g';have e:a'=0:=j _ hn;subst e;rfl
noncomputable abbrev TC:=St->Hp->(St->Hp->Prop)->Prop
def cv (J:It) (g:TG) (tb:TC) (N:St->Hp->Prop) (σ:St) (H:Hp):Prop :=
 ∃ W:Nat->Nat->St->Hp->Prop,(∃ m,W 0 m σ H) /\ ∀ i m σ H,W i m σ H ->
  (J.stop i H/\N σ H)∨(J.go i H /\ ∃ N':St->Hp->Prop,(∀ σ' H',N' σ' H' -> ∃ m',m' < m/\W (i+1) m' σ' H') /\ ∀ x H',J.yld i H x H'->g x σ H' fun σ2 H2=>tb σ2 H2 N')
def PB (X:Cx) (F:Sem Fin->Sem Fin) (t:TC):Prop :=
 ∀ (pins:List (Addr×Obj)) (s:D0) (σ:St) (H:Hp) (N:St->Hp->Prop) (k:Sem Fin) (Q:Fin->D0->Prop) (E:h7->D0->Prop),Inv X pins σ H s->t σ H N ->
  (∀ s' σ' H',Inv X pins σ' H' s'->N σ' H'->Hd (model X.prog X.w) X.A k Q E s')->Hd (model X.prog X.w) X.A (F k) Q E s
section
variable {X:Cx}
theorem nox {α:Type} {m:Sem α} {Q : α -> D0->Prop} {E:h7->D0->Prop} {s:D0} (hx:∀ e s,X.xe e s->False) (h:Hd (model X.prog X.w) X.A m Q X.xe s):Hd (model X.prog X.w) X.A m Q E s :=
 Jf h (fun _ _ q=>q) fun e s' q=>(hx e s' q).elim
noncomputable def j7 (ts:List TT) (tb:TC):TC:=match ts with
 | [] => tb
 | t::r=>fun σ H N=>t σ H fun b H1=>if b=true then j7 r tb σ H1 N else N σ H1
theorem j8 {env:Env} {M:LO} {A:Ib} {Q:Bool->D0->Prop} {E:h7->D0->Prop} {s:D0} (h:Q false s):∀ ifs:List Expr,
 Hd M A (forIn ifs false fun c r=>if r=true then do let ok <- isTrue c env (eval c env);pure (Km ok) else pure (Km r)) Q E s
 | [] => tv h
 | c::r=>by
   rw [Jx];simp only [IY,if_false];exact gV (tv (j8 h r))
theorem nh (hx:∀ e s,X.xe e s->False) {tb:TC} {N:St->Hp->Prop}:∀ {ifs:List Expr} {ts:List TT},HZ (fun c t=>PT X c t) ifs ts ->
 ∀ (pins:List (Addr×Obj)) (s:D0) (σ:St) (H:Hp) (E:h7->D0->Prop),Inv X pins σ H s->j7 ts tb σ H N ->
 Hd (model X.prog X.w) X.A (bn ifs X.env) (fun ok s' => ∃ H',Inv X pins σ H' s'/\if ok=true then tb σ H' N else N σ H') E s
 | _,_, .nil=>fun pins s σ H E I h=>tv ⟨H,I,by rw [if_pos rfl];exact h⟩
 | c::ifs,_, .cons (b:=t) z hr=>by
   intro pins s σ H E I h;have ih:=nh hx hr (tb:=tb) (N:=N) pins;unfold bn at ih ⊢;rw [Jx];simp only [if_true];refine gV (gV (nox hx (thn (z pins s σ H _ I h) fun b s1 ⟨H1,q,j⟩=>tv ?_)))
   cases b with
   | false =>
     rw [if_neg H0] at j;exact j8 ⟨H1,q,by rw [if_neg H0];exact j⟩ ifs
   | true =>
     rw [if_pos rfl] at j;exact ih s1 σ H1 E q j
theorem xk (hx:∀ e s,X.xe e s->False) {F:Sem Fin->Sem Fin} {tb:TC} (z:PB X F tb) {ifs:List Expr} {ts:List TT} (B:HZ (fun c t=>PT X c t) ifs ts) :
 PB X (fun k=>bn ifs X.env >>= fun ok=>if ok=true then F k else k) (j7 ts tb):=by
 intro pins s σ H N k Q E I h hk;refine gV (thn (nh hx B pins s σ H E I h) fun ok s1 ⟨H1,q,j⟩ => ?_)
 cases ok with
 | false =>
   rw [if_neg H0] at j ⊢;exact hk s1 σ H1 q j
 | true =>
   rw [if_pos rfl] at j ⊢;exact z pins s1 σ H1 N k Q E q j hk
noncomputable def yZ (p:Addr) (te:TE):TC:=fun σ H N=>te σ H fun x H1 => ∃ xs,H1 p=some (.lst xs)/\xs.length < GX/\N σ (upd H1 p (.lst (xs++[x])))
theorem kf (hx:∀ e s,X.xe e s->False) {elt:Expr} {gens:List Ij} {scope:Scope} {pos:Pos} {d:Nat} {p:Addr} {te:TE} (he:PE X elt te) (hd:gens[d+1]? = none) :
 PB X (b5 elt gens scope pos d (.ref p) X.env) (yZ p te):=by
 intro pins s σ H N k Q E I h j;unfold b5;rw [hd];refine gV (gV (nox hx (thn (he pins s σ H _ I h) fun u s1 ⟨x,H1,q,z,xs,e1,l1,B⟩ => ?_)));refine gV (nox hx (thn (kW (X:=X) pins s1 σ H1 (.ref p) [x] (.ref p) [u] (fun _ H2=>N σ H2) q rfl (.cons z .nil) ⟨p,xs,x,rfl,rfl,e1,l1,B⟩) fun v s2 ⟨_,H2,F,_,G⟩ => ?_));exact tv (j s2 σ H2 F G)
theorem kZ (hx:∀ e s,X.xe e s->False) (Y:X.calm=true) {elt target iter:Expr} {ifs:List Expr} {gens:List Ij} {scope:Scope} {pos:Pos} {d:Nat} {acc:h7}
 (hd:gens[d]? = some ⟨target,iter,ifs,0⟩) (ha:∀ g',gens[d+1]? = some g'->g'.is_async=0) {g:TG} (hg:PG X target g) {tb:TC}
 (j:PB X (fun k=>bn ifs X.env >>= fun ok=>if ok=true then b5 elt gens scope pos d acc X.env k else k) tb)
 {pins:List (Addr×Obj)} {s:D0} {σ:St} {H:Hp} {N:St->Hp->Prop} {it:Addr} {fp:List Addr} {tn:Nat->Heap->Prop} {J:It} (I:Inv X pins σ H s) (T:fo X.prog X.w X.K target J fp it tn)
 (t0:tn 0 s.heap) (f2:∀ b∈fp,bZ X pins H b) (h:cv J g tb N σ H) :
 Mh (model X.prog X.w) X.A (.compLoop (.ListComp elt gens scope pos) d (.ref it) acc X.env) (fun r s'=>match r with | .ok _ => ∃ σ' H',Inv X pins σ' H' s'/\N σ' H' | .error _=>False) s:=by
 obtain ⟨W,⟨m0,w0⟩,turn⟩:=h;have stat:∀ {H':Hp},(∀ b∈fp,H' b=none) -> ∀ b∈fp,bZ X pins H' b:=fun hn b j=>⟨hn b j,(f2 b j).2⟩;refine codeAny_loop rfl (fun n s' => ∃ i σ' H',Inv X pins σ' H' s'/\tn i s'.heap/\(∀ b∈fp,H' b=none)/\W i n σ' H') ?_ m0 ⟨0, σ,H,I,t0,fun b j=>(f2 b j).1,w0⟩;rintro n s3 ⟨i, σ3,F,Z,z,B,w3⟩;show Hd _ _ ((compTurn (.ListComp elt gens scope pos) d (.ref it) acc X.env).onRaise (fun x=>do noteFrame x X.env;theTreesLotGoes x)) _ _ s3
 refine wpAny_noted ?_;rw [ng elt target iter ifs gens scope pos d (.ref it) acc X.env hd ha];refine gV (Kr (gV ?_));show Hd (model X.prog X.w) X.A _ _ _ s3
 rcases turn i n σ3 F w3 with ⟨stop,qn⟩ | ⟨go,N',hN,step⟩
 ·refine thn (T.done X rfl rfl rfl Y i pins s3 σ3 F _ Z (stat B) z stop) fun r s4 ⟨G,I4⟩ => ?_;subst G;exact tv ⟨σ3,F,I4,qn⟩
 ·refine thn (T.item X rfl rfl rfl Y i pins s3 σ3 F _ Z (stat B) z go) fun r s4 ⟨u,G,h4⟩ => ?_;subst G;refine gV (thn h4 fun _ s5 ⟨x,H5,I5,r5,y5,q,L⟩ => ?_);have O:=I5.pinned (stat L) (T.obj _ _ q);refine gV (nox hx (thn (hg _ s5 σ3 H5 x u _ O r5 (step x H5 y5)) fun _ s6 ⟨σ6,H6,I6,q6⟩ => ?_));refine j _ s6 σ6 H6 N' (again (.compLoop (.ListComp elt gens scope pos) d (.ref it) acc X.env)) _ _ I6 q6 fun s7 σ7 H7 U n7 => ?_;obtain ⟨m',hm,w7⟩:=hN σ7 H7 n7;refine tv ⟨rfl,m',hm,i+1, σ7,H7,U.unpinned,T.keep _ _ _ q fun b j o e=>(U.pin (b,o) (Hn _ (Hn _ (dj j e)))).1,fun b j => ?_,w7⟩;obtain ⟨o,e,dd⟩:=T.obj _ _ q b j;exact (U.pin (b,o) (Hn _ (Hn _ (dj j e)))).2.1
theorem j9 {elt target iter:Expr} {ifs:List Expr} {gens:List Ij} {scope:Scope} {pos:Pos} {d:Nat} {it acc:h7} {env:Env} {prog:Hu} {w:HW} {A:Ib} {R:Result->D0->Prop} {s:D0}
 (hd:gens[d]? = some ⟨target,iter,ifs,0⟩)
 (h0:Mh (model prog w) A (.compLoop (.ListComp elt gens scope pos) d it acc env) R s)
 (h:Hd (model prog w) A (Pg it) (fun it' s'=>Mh (model prog w) A (.compLoop (.ListComp elt gens scope pos) d it' acc env) R s')
   (notedBy (model prog w) A env fun x s'=>R (.error x) s') s) :
 Mh (model prog w) A (.compStart (.ListComp elt gens scope pos) d it acc env) R s:=by
 refine codeAny_of_tree ?_;show Hd _ _ ((compStart (.ListComp elt gens scope pos) d it acc env).onRaise (fun x=>do noteFrame x env;Nm theWindowsPlace)) _ _ s
 refine wpAny_notedAt ?_;unfold compStart;have j:(clausesOf (.ListComp elt gens scope pos))[d]? = some ⟨target,iter,ifs,0⟩:=hd;rw [j];show Hd _ _ (ask >>= _) _ _ s;refine gV (wpAny_askSetting (wpAny_ite ?_))
 split
 ·first
   | exact gV (tv (tv (LV rfl h0)))
   | exact tv (LV rfl h0)
 ·first
   | exact gV (IG (gV (Kr (gV (Jf h (fun it' s' h'=>tv (LV rfl h')) fun _ _ x=>x)))))
   | (refine gV (IG ?_);show Hd _ _ (Nm iter.pos >>= _) _ _ s;exact gV (Kr (gV (Jf h (fun it' s' h'=>tv (LV rfl h')) fun _ _ x=>x))))
theorem lf (hx:∀ e s,X.xe e s->False) (z:X.calm=true) {elt target iter:Expr} {ifs:List Expr} {gens:List Ij} {scope:Scope} {pos:Pos} {d:Nat} {acc:h7}
 (hd:gens[d+1]? = some ⟨target,iter,ifs,0⟩) (B:∀ g',gens[d+1+1]? = some g'->g'.is_async=0) {wi:TI} (hi:PI X target iter wi) {g:TG} (F:PG X target g) {tb:TC}
 (G:PB X (fun k=>bn ifs X.env >>= fun ok=>if ok=true then b5 elt gens scope pos (d+1) acc X.env k else k) tb)
 (hs:∀ x,Js iter X.env x=pure x) :
 PB X (b5 elt gens scope pos d acc X.env) (fun σ H N=>wi σ H fun J H1=>cv J g tb N σ H1):=by
 intro pins s σ H N k Q E I h hk;unfold b5;rw [hd];refine gV (nox hx (thn (hi pins s σ H _ I h) fun v s1 h1 => ?_));refine gV (Kr (gV (JI (hs v) ?_)));refine gV (Ii (nox hx (thn h1 fun itv s2 h2 => ?_)));obtain ⟨it,fp,tn,J,H2,e,L,T,j,f2,hw⟩:=h2;subst e;have loop:=kZ (acc:=acc) hx z hd B F G L T j f2 hw;refine gV (wpAny_runOwn (Lx (j9 (R:=fun r s'=>match r with | .ok _ => ∃ σ' H',Inv X pins σ' H' s'/\N σ' H' | .error _=>False) hd loop (T.self _ 0 _ _ _ j loop)) fun r s3 q => ?_))
 cases r with
 | error e=>exact q.elim
 | ok f =>
   obtain ⟨σ3,O,U,Y⟩:=q;exact hk s3 σ3 O U Y
noncomputable def aS (cells:List (Str×Addr)):List (Str×K9)->List (Str×Addr)->List (Str×Addr)
 | [],acc=>acc
 | (n,k)::r,acc=>if k == .free then (match cells.lookup n with | some c=>aS cells r ((n,c)::acc) | none=>aS cells r acc) else aS cells r acc
theorem ik {env:Env}:∀ (names:List (Str×K9)) (acc:List (Str×Addr)),(∀ x∈names,x.2 = .free->(env.cells.lookup x.1).isSome=true) ->
 (forIn names acc fun (x:Str×K9) (r:List (Str×Addr))=>(match x with | (name,kind)=>if (kind==HP)=true then do let c <- cellOf env name;pure (Km ((name,c)::r)) else pure (Km r):Sem (ForInStep (List (Str×Addr)))))=(pure (aS env.cells names acc):Sem (List (Str×Addr)))
 | [],acc,_=>rfl
 | (n,k)::r,acc,h=>by
  rw [Jx];have ih:=fun acc'=>ik r acc' fun x hx=>h x (HE _ hx);unfold aS
  by_cases hk:(k==HP)=true
  ·obtain ⟨c,q⟩:=JZ.mp (h (n,k) Ir (beq_iff_eq.mp hk));have j:env.cells.lookup n=some c:=q;have e1:cellOf env n=pure c:=by unfold cellOf;rw [j]
   simp only [hk,if_true,e1,j,pure_bind];exact ih _
  ·simp only [hk,if_false,pure_bind];exact ih _
theorem ja {scope:Scope} {env:Env} (h:∀ x∈scope.names,x.2 = .free->(env.cells.lookup x.1).isSome=true):closureFor scope env=pure (aS env.cells scope.names []):=by
 unfold closureFor;have e:=ik (env:=env) scope.names [] h;simp only [bind_pure];exact e
theorem dk {cells:List (Str×Addr)} {y:Str} {c:Addr}:∀ {names:List (Str×K9)} {acc:List (Str×Addr)},(y,c)∈aS cells names acc->(y,c)∈acc∨(cells.lookup y=some c/\(y,HP)∈names)
 | [],acc,h => .inl h
 | (n,k)::r,acc,h=>by
  unfold aS at h
  by_cases hk:(k==HP)=true
  ·rw [if_pos hk] at h;have B:k = .free:=beq_iff_eq.mp hk;subst B
   cases F:cells.lookup n with
   | none =>
     rw [F] at h
     rcases dk h with z | ⟨j,q⟩
     ·exact .inl z
     ·exact .inr ⟨j,HE _ q⟩
   | some c' =>
     rw [F] at h
     rcases dk h with z | ⟨j,q⟩
     ·rcases Ha.mp z with e | z
      ·cases e
       exact .inr ⟨F,Ir⟩
      ·exact .inl z
     ·exact .inr ⟨j,HE _ q⟩
  ·rw [if_neg hk] at h
   rcases dk h with z | ⟨j,q⟩
   ·exact .inl z
   ·exact .inr ⟨j,HE _ q⟩
theorem dm {cells:List (Str×Addr)} {y:Str} {c:Addr} (j:cells.lookup y=some c):∀ {names:List (Str×K9)} {acc:List (Str×Addr)},((y,c)∈acc∨(y,HP)∈names)->(y,c)∈aS cells names acc
 | [],acc,h=>by
  rcases h with h | h
  ·exact h
  ·simp at h
 | (n,k)::r,acc,h=>by
  unfold aS
  by_cases hk:(k==HP)=true
  ·rw [if_pos hk];have q:k = .free:=beq_iff_eq.mp hk;subst q
   cases hl:cells.lookup n with
   | none =>
     refine dm j ?_
     rcases h with h | h
     ·exact .inl h
     ·rcases Ha.mp h with e | h
      ·cases e;rw [hl] at j;cases j
      ·exact .inr h
   | some c' =>
     refine dm j ?_
     rcases h with h | h
     ·exact .inl (HE _ h)
     ·rcases Ha.mp h with e | h
      ·cases e;rw [hl] at j;cases j;exact .inl Ir
      ·exact .inr h
  ·rw [if_neg hk];refine dm j ?_
   rcases h with h | h
   ·exact .inl h
   ·rcases Ha.mp h with e | h
    ·cases e;exact absurd rfl hk
    ·exact .inr h
theorem df:∀ (names:List (Str×K9)) (n:Nat) (acc acc':List (Str×Addr)),Jt n names (acc++acc')=Jt n names acc++acc'
 | [],_,_,_=>rfl
 | (x,k)::r,n,acc,acc'=>by
  unfold Jt
  by_cases j:(k==Jk)=true
  ·rw [if_pos j,if_pos j];exact df r (n+1) ((x,n)::acc) acc'
  ·rw [if_neg j,if_neg j];exact df r n acc acc'
theorem dg:∀ {names:List (Str×K9)} {n:Nat} {acc:List (Str×Addr)} {y:Str} {c:Addr},(y,c)∈Jt n names acc->(y,c)∈acc∨(n<=c/\(y,Jk)∈names)
 | [],_,_,_,_,h => .inl h
 | (x,k)::r,n,acc,y,c,h=>by
  unfold Jt at h
  by_cases hk:(k==Jk)=true
  ·rw [if_pos hk] at h;have j:k = .cell:=beq_iff_eq.mp hk;subst j
   rcases dg h with z | ⟨q,B⟩
   ·rcases Ha.mp z with e | z
    ·cases e;exact .inr ⟨Hc _,Ir⟩
    ·exact .inl z
   ·exact .inr ⟨Nat.le_of_succ_le q,HE _ B⟩
  ·rw [if_neg hk] at h
   rcases dg h with z | ⟨q,B⟩
   ·exact .inl z
   ·exact .inr ⟨q,HE _ B⟩
structure b7 (sc osc:Scope) (oN N':List Str) (fr:List (Option Nat)):Prop where
 kind:sc.kind = .function
 nd:(sc.names.map (·.1)).Nodup
 ndN:N'.Nodup
 free:∀ x∈sc.names,x.2 = .free->osc.names.lookup x.1=some .cell∨osc.names.lookup x.1=some .free
 len:fr.length=N'.length
 fr:∀ (i j:Nat) (x:Str),N'[i]? = some x->fr[i]? = some (some j)->oN[j]? = some x/\(x,HP)∈sc.names
noncomputable def inh (fr:List (Option Nat)) (σ:St):St:=fr.map fun o=>o.bind fun j=>(σ[j]?).join
noncomputable def b8 (X:Cx) (sc:Scope) (L:Addr):Env :=
 { scope:=relabel sc X.env,locals:=L,globals:=X.env.globals,cells:=Jt (L+1) sc.names (aS X.env.cells sc.names []),qual:=X.env.qual,func:=none,code:=X.env.code,frame:=X.env.frame,builtins:=X.env.builtins }
noncomputable def aJ (X:Cx) (sc:Scope) (N':List Str) (s:D0) (H:Hp) (fp:List Addr):Cx :=
 { X with N:=N',s₀ := s,H₀ := H,env:=b8 X sc s.heap.objs.size,outer:=X.stack,stack:=X.stack,ex:=fp,fn:=fun x=>sc.names.lookup x==some .cell,pn := [],xe:=fun _ _=>False }
theorem aR:∀ {l:List (Str×K9)} {x:Str} {k:K9},(l.map (·.1)).Nodup->(x,k)∈l->l.lookup x=some k
 | (y,k')::r,x,k,nd,h=>by
  have nd':(y::r.map (·.1)).Nodup:=nd;obtain ⟨q,z⟩:=Jb.mp nd';rw [JM]
  rcases Ha.mp h with e | hm
  ·cases e;simp
  ·have j:(x==y)=false:=by
    refine beq_eq_false_iff_ne.mpr fun e => ?_;subst e;exact q (Hr.mpr ⟨(x,k),hm,rfl⟩)
   rw [j];exact aR z hm
theorem cw {env:Env}:∀ {names:List (Str×K9)} {x:Str},
 (names.map fun (n,k)=>if (k==HP&&env.scope.kind == .function&&env.kindOf n==some .cell) then (n,Jk) else (n,k)).lookup x =
   (names.lookup x).map fun k=>if (k==HP&&env.scope.kind == .function&&env.kindOf x==some .cell) then Jk else k
 | [],_=>rfl
 | (n,k)::r,x=>by
  have ih:=cw (env:=env) (names:=r) (x:=x);show List.lookup x ((if (k==HP&&env.scope.kind == .function&&env.kindOf n==some .cell)=true then (n,Jk) else (n,k))::_)=_
  rw [JM (a:=x) (b:=k)]
  by_cases hx:x=n
  ·subst hx;simp only [beq_self_eq_true];show _=some (if (k==HP&&env.scope.kind == .function&&env.kindOf x==some .cell)=true then Jk else k)
   by_cases j:(k==HP&&env.scope.kind == .function&&env.kindOf x==some .cell)=true
   ·rw [if_pos j,if_pos j,JM];simp only [beq_self_eq_true]
   ·rw [if_neg j,if_neg j,JM];simp only [beq_self_eq_true]
  ·have q:(x==n)=false:=beq_eq_false_iff_ne.mpr hx;rw [q]
   by_cases j:(k==HP&&env.scope.kind == .function&&env.kindOf n==some .cell)=true
   ·rw [if_pos j,JM,q];exact ih
   ·rw [if_neg j,JM,q];exact ih
section
variable {pins:List (Addr×Obj)} {σ:St} {H:Hp} {s:D0} {sc:Scope} {N':List Str} {fr:List (Option Nat)} {fp:List Addr}
theorem fW (I:Inv X pins σ H s) (B:b7 sc X.env.scope X.N N' fr):∀ x∈sc.names,x.2 = .free->(X.env.cells.lookup x.1).isSome=true:=fun x hx e=>by
 obtain ⟨c,j⟩:=I.ok.has x.1 (B.free x hx e);rw [j];rfl
theorem uu (I:Inv X pins σ H s) (f2:∀ b∈fp,bZ X pins H b) (Y:∀ b∈fp,b < s.heap.objs.size) (B:b7 sc X.env.scope X.N N' fr) :
 Inv (aJ X sc N' s H fp) [] (inh fr σ) H { s with heap:=Qa (s.heap.push { cls := .type "dict",data := .dict #[] }) sc.names }:=by
 have G:∀ b o,s.heap.get? b=some o->(Qa (s.heap.push { cls := .type "dict",data := .dict #[] }) sc.names).get? b=some o:=fun b o e=>Oi _ _ b o (q7 _ e);have ok:=cellsFrom_ok sc.names (s.heap.push { cls := .type "dict",data := .dict #[] }) (s.heap.objs.size+1) [] ⟨fun _ _ hm=>(nomatch hm),Nq⟩ (by rw [Ip];exact Hc _)
 rw [Ip] at ok;have capp:Jt (s.heap.objs.size+1) sc.names (aS X.env.cells sc.names [])=Jt (s.heap.objs.size+1) sc.names []++aS X.env.cells sc.names []:=df sc.names _ [] _;have cof:∀ x c,(b8 X sc s.heap.objs.size).cells.lookup x=some c->((x,c)∈Jt (s.heap.objs.size+1) sc.names []/\s.heap.objs.size < c)∨(X.env.cells.lookup x=some c/\(x,HP)∈sc.names):=fun x c e=>by
  have m:=IM e;have m':(x,c)∈Jt (s.heap.objs.size+1) sc.names (aS X.env.cells sc.names []):=m;rw [capp] at m'
  rcases Hj.mp m' with z | z
  ·exact .inl ⟨z,(ok.empty x c z).2⟩
  ·rcases dk z with q | q
   ·simp at q
   ·exact .inr q
 have cOld:∀ x c,X.env.cells.lookup x=some c->c < s.heap.objs.size:=fun x c e=>by
  obtain ⟨v,q⟩:=I.cell x c e;exact q.lt
 have kindF:∀ x,(x,HP)∈sc.names->(b8 X sc s.heap.objs.size).kindOf x=some .cell∨(b8 X sc s.heap.objs.size).kindOf x=some .free:=fun x hx=>by
  have e1:sc.names.lookup x=some .free:=aR B.nd hx;have e2:(b8 X sc s.heap.objs.size).kindOf x=_:=cw (env:=X.env) (names:=sc.names) (x:=x);rw [e1] at e2;rw [e2]
  by_cases J:(HP==HP&&X.env.scope.kind == .function&&X.env.kindOf x==some .cell)=true
  ·exact .inl (by simp only [Kn,if_pos J])
  ·exact .inr (by simp only [Kn,if_neg J])
 have cellF:∀ x c,(x,HP)∈sc.names->X.env.cells.lookup x=some c->(b8 X sc s.heap.objs.size).cells.lookup x=some c:=fun x c hx J=>by
  have m:=dm (acc := []) J (.inr hx);have m2:(x,c)∈(b8 X sc s.heap.objs.size).cells:=by
   show (x,c)∈Jt (s.heap.objs.size+1) sc.names (aS X.env.cells sc.names []);rw [capp];exact Hn _ m
  cases F:(b8 X sc s.heap.objs.size).cells.lookup x with
  | none =>
    exfalso
    have:∀ {l:List (Str×Addr)},(x,c)∈l->l.lookup x=none->False:=by
     intro l
     induction l with
     | nil=>intro h;simp at h
     | cons a r ih =>
       intro h e;obtain ⟨y,d⟩:=a;rw [JM] at e
       rcases Ha.mp h with z | z
       ·cases z;simp at e
       ·by_cases hxy:(x==y)=true
        ·rw [hxy] at e;cases e
        ·simp only [LW] at hxy;rw [hxy] at e;exact ih z e
    exact this m2 F
  | some c' =>
    rcases cof x c' F with ⟨z,_⟩ | ⟨z,_⟩
    ·rcases dg z with q | ⟨_,q⟩
     ·simp at q
     ·have a1:=aR B.nd hx;have a2:=aR B.nd q;rw [a1] at a2;cases a2
    ·rw [J] at z;rw [z]
 have kindC:∀ x,(b8 X sc s.heap.objs.size).kindOf x=some .cell->(x,Jk)∈sc.names∨(x,HP)∈sc.names:=fun x e=>by
  have e2:(b8 X sc s.heap.objs.size).kindOf x=_:=cw (env:=X.env) (names:=sc.names) (x:=x);rw [e2] at e
  cases F:sc.names.lookup x with
  | none=>rw [F] at e;cases e
  | some k =>
    rw [F] at e;have m:=IM F
    cases k with
    | cell=>exact .inl m
    | free=>exact .inr m
    | «local» => simp at e
    | globalImplicit=>simp at e
    | globalExplicit=>simp at e
 have kindFr:∀ x,(b8 X sc s.heap.objs.size).kindOf x=some .free->(x,HP)∈sc.names:=fun x e=>by
  have e2:(b8 X sc s.heap.objs.size).kindOf x=_:=cw (env:=X.env) (names:=sc.names) (x:=x);rw [e2] at e
  cases F:sc.names.lookup x with
  | none=>rw [F] at e;cases e
  | some k =>
    rw [F] at e;have m:=IM F
    cases k with
    | free=>exact m
    | cell=>simp at e
    | «local» => simp at e
    | globalImplicit=>simp at e
    | globalExplicit=>simp at e
 refine ⟨⟨I.ok.mod,B.kind,I.ok.glob,I.ok.blt,Hc _,fun y z c h1 h2 => ?_,fun y Z => ?_,fun y c hf h => ?_,I.ok.hd,I.ok.frames, .inl rfl,fun b O=>⟨?_,fun x c e => ?_⟩,fun b o e=>I.bs b o e, ?_,fun b o e O => ?_,fun b O => ?_,I.stack,I.stkFree⟩,
  rfl,I.bare,Un.kept G,⟨_,(Heap.Ns.new s.heap (.type "dict")).keeps (Oi _ _),fun i x v h1 h2 h3 => ?_⟩,fun y c h => ?_,I.hok.fresh (Hc _),fun y c h => ?_,fun p hp=>absurd (show p∈([]:List (Addr×Obj)) from hp) (by simp),I.hok.kept G, ?_⟩
 ·rcases cof y c h1 with ⟨a1,a2⟩ | ⟨a1,a2⟩
  ·rcases cof z c h2 with ⟨b1,b2⟩ | ⟨b1,b2⟩
   ·exact name_of_addr ok.apart a1 b1
   ·exact absurd (cOld z c b1) (QY.mpr (KO a2))
  ·rcases cof z c h2 with ⟨b1,b2⟩ | ⟨b1,b2⟩
   ·exact absurd (cOld y c a1) (QY.mpr (KO b2))
   ·exact I.ok.inj y z c a1 b1
 ·have EL:(y,Jk)∈sc.names∨(y,HP)∈sc.names:=by
   rcases Z with Z | Z
   ·exact kindC y Z
   ·exact .inr (kindFr y Z)
  rcases EL with q | q
  ·exact JZ.mp (Ly sc.names _ _ (.inl (aR B.nd q)))
  ·obtain ⟨c,J⟩:=JZ.mp (fW I B _ q rfl);exact ⟨c,cellF y c q J⟩
 ·have EM:(sc.names.lookup y==some .cell)=true:=hf;have EJ:sc.names.lookup y=some .cell:=by simpa using EM
  rcases cof y c h with ⟨_,a2⟩ | ⟨_,a2⟩
  ·exact KO a2
  ·rw [aR B.nd a2] at EJ;cases EJ
 ·exact HQ (Y b O)
 ·rcases cof x c e with ⟨_,a2⟩ | ⟨a1,_⟩
  ·exact IW (Nat.lt_trans (Y b O) a2)
  ·exact (f2 b O).2.2.2.2.1 x c a1
 ·exact IV I.ok.bsz I.sz
 ·obtain ⟨f0,f1,f3,f4,f5,f6⟩:=f2 b O
  rcases f4 with z | z
  ·exact I.ok.noex b o e z
  ·exact absurd (HI (HI (Hb e) I.ok.bsz) z) (IT _)
 ·obtain ⟨f0,f1,f3,f4,f5,f6⟩:=f2 b O;exact fun z=>(Ha.mp (I.stkSub b z)).elim f1 f3
 ·have hi:∃ j,fr[i]? = some (some j) /\ σ[j]? = some (some v):=by
   unfold inh at h2;rw [HB] at h2
   cases e:fr[i]? with
   | none=>rw [e] at h2;cases h2
   | some o =>
     rw [e] at h2
     cases o with
     | none=>cases h2
     | some j =>
       refine ⟨j,rfl, ?_⟩;have L:some ((σ[j]?).join)=some (some v):=h2
       cases e' : σ[j]? with
       | none=>rw [e'] at L;cases L
       | some w=>rw [e'] at L;cases L;rfl
  obtain ⟨j,e1,e2⟩:=hi;obtain ⟨n1,n2⟩:=B.fr i j x h1 e1;obtain ⟨m,hn,F⟩:=I.loc;have hv:Vis X.env.scope x := .inr (B.free (x, .free) n2 rfl);obtain ⟨u,ru,lk⟩:=F j x v n1 e2 hv;refine ⟨u,ru, .inr ⟨kindF x n2, ?_⟩⟩
  rcases lk with ⟨k1,_⟩ | ⟨_,c,J,U⟩
  ·have EK:X.env.scope.names.lookup x=some .local:=k1
   rcases B.free (x, .free) n2 rfl with z | z
   ·rw [EK] at z;cases z
   ·rw [EK] at z;cases z
  ·exact ⟨c,cellF x c n2 J,U.keeps G⟩
 ·rcases cof y c h with ⟨a1,a2⟩ | ⟨a1,a2⟩
  ·exact ⟨_,(ok.empty y c a1).1⟩
  ·obtain ⟨v,q⟩:=I.cell y c a1;exact ⟨v,q.keeps G⟩
 ·rcases cof y c h with ⟨a1,a2⟩ | ⟨a1,a2⟩
  ·exact I.hok.fresh (KO a2)
  ·exact I.freeC y c a1
 ·show (inh fr σ).length=N'.length;unfold inh;rw [D2];exact B.len
theorem lg {σ':St} {H':Hp} {s':D0} {h':Heap} (I:Inv X pins σ H s) (f2:∀ b∈fp,bZ X pins H b) (J:Inv (aJ X sc N' s H fp) [] σ' H' s') (hs:IJ s.heap.objs.size s'.heap h') :
 Inv X pins σ H' { s' with heap:=h' }:=by
 have u:Un (frs X.stack) fp H H' s.heap s'.heap:=J.base;have ne:∀ b o,s.heap.get? b=some o->b≠s.heap.objs.size:=fun b o e=>HQ (Hb e);refine I.call' (s' := { s' with heap:=h' }) (ch:=fp) J.os ⟨fun b o e n j hx => ?_,fun b o e n j hx => ?_,u.free,fun b o e hx => ?_,u.tups,u.frzs,u.tbls⟩ (fun b v e => ?_) J.bare fun b j => ?_
 ·exact (hs.2 b (ne b o e)).trans (u.keep b o e n j hx)
 ·obtain ⟨sl,q⟩:=u.slot b o e n j hx;exact ⟨sl,(hs.2 b (ne b o e)).trans q⟩
 ·obtain ⟨o',q⟩:=u.there b o e hx;exact ⟨o',(hs.2 b (ne b o e)).trans q⟩
 ·refine (J.hok b v e).stay (fun c w F q=>(hs.2 c ?_).trans q) (fun _ q=>q) fun _ _ q=>q;have fr:H' s.heap.objs.size=none:=J.free
  rcases F with z | z
  ·rw [z];intro B;rw [B,fr] at e;cases e
  ·intro B;rw [B,fr] at z;cases z
 ·obtain ⟨f0,f1,O,f4,G,L⟩:=f2 b j;exact ⟨f4,f1,G,L⟩
theorem mD {Q:Env->D0->Prop} {E:h7->D0->Prop} {M:LO} {A:Ib}
 (h:Q { scope:=sc,locals:=s.heap.objs.size,globals:=X.env.globals,cells:=Jt (s.heap.objs.size+1) sc.names (aS X.env.cells sc.names []),qual:=X.env.qual,func:=none,code:=X.env.code,frame:=X.env.frame,builtins:=X.env.builtins }
   { s with heap:=Qa (s.heap.push { cls := .type "dict",data := .dict #[] }) sc.names }) :
 Hd M A (OB sc X.env.globals (aS X.env.cells sc.names []) [] X.env.qual none .none (some X.env)) Q E s:=by
 simp only [OB,Po,if_true];refine gV (wpAny_alloc ?_);refine gV (wpAny_layCells _ (fun name kind cells=>by cases hkc:kind==Jk <;> simp [hkc]) _ _ _ _ ?_)
 rw [show ({ s with heap:=s.heap.push { cls := .type "dict",data := .dict #[] } }:D0).heap.objs.size=s.heap.objs.size+1 from Ip ..]
 exact gV (tv (tv h))
theorem ni (hc:X.calm=true) {elt target iter:Expr} {ifs:List Expr} {rest:List Ij} {pos:Pos} {E:h7->D0->Prop}
 (hx:∀ e s,X.xe e s->False) (B:b7 sc X.env.scope X.N N' fr) (ha:∀ g',rest[0]? = some g'->g'.is_async=0) {wi:TI} (hi:PI X target iter wi) {g:TG} {tb:Addr->TC}
 (hg:∀ s H fp,PG (aJ X sc N' s H fp) target g)
 (j:∀ s H fp p,PB (aJ X sc N' s H fp) (fun k=>bn ifs (aJ X sc N' s H fp).env >>= fun ok=>if ok=true then b5 elt (⟨target,iter,ifs,0⟩::rest) sc pos 0 (.ref p) (aJ X sc N' s H fp).env k else k) (tb p))
 {Nn:Addr->St->Hp->Prop} {RR:h7->Addr->Result->D0->Prop} (I:Inv X pins σ H s)
 (h:wi σ H fun J H1 => ∀ p,H1 p=none->cv J g (tb p) (Nn p) (inh fr σ) (upd H1 p (.lst [])))
 (hR:∀ p fp s3 L s' σ' H' f,Inv X pins σ L s3->(∀ b∈fp,bZ X pins L b)->Inv (aJ X sc N' s3 L fp) [] σ' H' s'->Nn p σ' H'->RR (.ref p) s3.heap.objs.size (.ok f) s') :
 Hd (model X.prog X.w) X.A (eval iter X.env) (fun x s₁ => Hd (model X.prog X.w) X.A (Pg x) (fun it s₂ => Hd (model X.prog X.w) X.A (newList []) (fun acc s₃ =>
  Hd (model X.prog X.w) X.A (OB sc X.env.globals (aS X.env.cells sc.names []) [] X.env.qual none .none (some X.env)) (fun cenv s₄ =>
   Mh (model X.prog X.w) X.A (.compStart (.ListComp elt (⟨target,iter,ifs,0⟩::rest) sc pos) 0 it acc { cenv with scope:=relabel sc X.env }) (RR acc cenv.locals) s₄) E s₃) E s₂) E s₁) E s:=by
 refine nox hx (thn (hi pins s σ H _ I h) fun v s1 h1=>nox hx (thn h1 fun itv s2 h2 => ?_));obtain ⟨it,fp,tn,J,H2,e,Z,T,q,f2,hw⟩:=h2;subst e;have hf:H2 s2.heap.objs.size=none:=Z.hok.fresh (Hc _);refine Nx ?_;have I3:Inv X pins σ (upd H2 s2.heap.objs.size (.lst [])) { s2 with heap:=s2.heap.push { cls := .type "list",dict:=none,data := .seq ([]:List h7).toArray } } :=
  Z.laid (t':=s2.toks) (fun b u e=>q7 _ e) (Hc _) ⟨J1 _,[],0, .nil,GY _ rfl⟩
 have fneq:∀ b∈fp,b≠s2.heap.objs.size:=fun b j z=>by
  obtain ⟨o,e,_⟩:=T.obj _ _ q b j;exact absurd (Hb e) (by rw [z];exact IT _)
 have O:∀ b∈fp,bZ X pins (upd H2 s2.heap.objs.size (.lst [])) b:=fun b j=>⟨by rw [ak (fneq b j)];exact (f2 b j).1,(f2 b j).2⟩
 have U:∀ b∈fp,b < (s2.heap.push { cls := .type "list",dict:=none,data := .seq ([]:List h7).toArray }).objs.size:=fun b j=>by
  obtain ⟨o,e,_⟩:=T.obj _ _ q b j;rw [Ip];exact Nat.lt_succ_of_lt (Hb e)
 have Y:tn 0 (s2.heap.push { cls := .type "list",dict:=none,data := .seq ([]:List h7).toArray }):=T.keep _ _ _ q fun b _ o e=>q7 _ e;refine mD ?_;have G:=uu (N':=N') I3 O U B;have F:=T.keep _ (h':=Qa (({ s2 with heap:=s2.heap.push { cls := .type "list",dict:=none,data := .seq ([]:List h7).toArray } }:D0).heap.push { cls := .type "dict",data := .dict #[] }) sc.names) _ Y fun b _ o e=>Oi _ _ b o (q7 _ e)
 have f4:∀ b∈fp,bZ (aJ X sc N' { s2 with heap:=s2.heap.push { cls := .type "list",dict:=none,data := .seq ([]:List h7).toArray } } (upd H2 s2.heap.objs.size (.lst [])) fp) [] (upd H2 s2.heap.objs.size (.lst [])) b:=fun b j =>
  ⟨(O b j).1,(G.ok.exf b j).1,G.ok.exfs b j, .inl j,(G.ok.exf b j).2,fun p hp=>absurd (show p∈([]:List (Addr×Obj)) from hp) (by simp)⟩
 have loop:=kZ (X:=aJ X sc N' { s2 with heap:=s2.heap.push { cls := .type "list",dict:=none,data := .seq ([]:List h7).toArray } } (upd H2 s2.heap.objs.size (.lst [])) fp) (fun _ _ z=>z) hc
  (elt:=elt) (pos:=pos) (scope:=sc) (gens:=⟨target,iter,ifs,0⟩::rest) (d := 0) (acc := .ref s2.heap.objs.size) rfl (fun g' e=>ha g' (by simpa using e)) (hg _ _ _) (j _ _ _ _) G T F f4 (hw _ hf)
 refine Lx (j9 (R:=fun r s'=>match r with | .ok _ => ∃ σ' H',Inv (aJ X sc N' { s2 with heap:=s2.heap.push { cls := .type "list",dict:=none,data := .seq ([]:List h7).toArray } } (upd H2 s2.heap.objs.size (.lst [])) fp) [] σ' H' s'/\Nn s2.heap.objs.size σ' H' | .error _=>False)
  (gens:=⟨target,iter,ifs,0⟩::rest) (d := 0) rfl loop (T.self _ 0 _ _ _ F loop)) fun r s5 hr => ?_
 cases r with
 | error e=>exact hr.elim
 | ok f =>
   obtain ⟨σ5,H5,I5,n5⟩:=hr;exact hR _ fp _ _ s5 σ5 H5 f I3 O I5 n5
noncomputable def sf (wi:TI) (g:TG) (tb:Addr->TC) (fr:List (Option Nat)):TE:=fun σ H Q=>wi σ H fun J H1 => ∀ p,H1 p=none->cv J g (tb p) (fun _ H2=>Q (.ref p) H2) (inh fr σ) (upd H1 p (.lst []))
theorem lh (B:b7 sc X.env.scope X.N N' fr):∀ x∈sc.names,x.2 = .local->sc.names.lookup x.1=some .local:=fun x hx e=>by
 obtain ⟨n,k⟩:=x;have e':k = .local:=e;subst e';exact aR B.nd hx
theorem im (z:X.calm=true) {elt target iter:Expr} {ifs:List Expr} {rest:List Ij} {pos:Pos}
 (hx:∀ e s,X.xe e s->False) (B:b7 sc X.env.scope X.N N' fr) (F:∀ g',rest[0]? = some g'->g'.is_async=0) {wi:TI} (hi:PI X target iter wi) {g:TG} {tb:Addr->TC}
 (G:∀ s H fp,PG (aJ X sc N' s H fp) target g)
 (L:∀ s H fp p,PB (aJ X sc N' s H fp) (fun k=>bn ifs (aJ X sc N' s H fp).env >>= fun ok=>if ok=true then b5 elt (⟨target,iter,ifs,0⟩::rest) sc pos 0 (.ref p) (aJ X sc N' s H fp).env k else k) (tb p))
 (hs:∀ x,Js iter X.env x=pure x) :
 PE X (.ListComp elt (⟨target,iter,ifs,0⟩::rest) sc pos) (sf wi g tb fr):=by
 intro pins s σ H Q I h;rw [eval_ListComp];refine Ny (use:=none) rfl hs (ja (fW I B)) B.kind (lh B) (ni (Nn:=fun p _ H2=>Q (.ref p) H2) (RR:=fun acc C=>compPost (model X.prog X.w) X.A X.xe none (EP X pins σ Q) acc C) z hx B F hi G L I h ?_);intro p fp s3 Z s' σ' H' f O U J q;obtain ⟨m,Y,_⟩:=J.loc;exact ⟨m,Y,fun h' j=>⟨.ref p,H',lg O U J j,rfl,q⟩⟩
theorem jb (hc:X.calm=true) {elt target iter:Expr} {ifs:List Expr} {rest:List Ij} {pos pos' spos:Pos} {x:Str} {i:Nat}
 (hx:∀ e s,X.xe e s->False) (B:b7 sc X.env.scope X.N N' fr) (ha:∀ g',rest[0]? = some g'->g'.is_async=0) {wi:TI} (hi:PI X target iter wi) {g:TG} {tb:Addr->TC}
 (hg:∀ s H fp,PG (aJ X sc N' s H fp) target g)
 (F:∀ s H fp p,PB (aJ X sc N' s H fp) (fun k=>bn ifs (aJ X sc N' s H fp).env >>= fun ok=>if ok=true then b5 elt (⟨target,iter,ifs,0⟩::rest) sc pos 0 (.ref p) (aJ X sc N' s H fp).env k else k) (tb p))
 (hs:∀ x,Js iter X.env x=pure x) (G:PG X (.Name x pos') (iW i))
 (L:Lq (.ListComp elt (⟨target,iter,ifs,0⟩::rest) sc pos) (some (.Name x pos')) spos.line X.env=pure true) :
 PS X (.Assign [.Name x pos'] (.ListComp elt (⟨target,iter,ifs,0⟩::rest) sc pos) spos) (rN (sf wi g tb fr) (iW i)):=by
 intro pins s σ H D I h;rw [exec_Assign_Name_used _ _ _ _ L];refine gV (Kr (gV ?_));show Hd _ X.A (do let _ <- comprehension (.ListComp elt (⟨target,iter,ifs,0⟩::rest) sc pos) sc X.env _ (newList []) false (eval iter X.env) (some (assign (.Name x pos') X.env))) _ _ s
 refine gV (Jf (Ny (use:=some (assign (.Name x pos') X.env)) (Q:=fun _ s'=>SP X pins D .next s') rfl hs (ja (fW I B)) B.kind (lh B)
  (ni (Nn:=fun p _ H2=>D.nx (σ.set i (some (.ref p))) H2) (RR:=fun acc C=>compPost (model X.prog X.w) X.A X.xe (some (assign (.Name x pos') X.env)) (fun _ s'=>SP X pins D .next s') acc C) hc hx B ha hi hg F I h ?_)) (fun _ s' hq=>tv (tv hq)) fun _ _ e=>e)
 intro p fp s3 H3 s' σ' H' f j f3 J q;obtain ⟨m,⟨o,es,ep,ho,hd,hk,hm⟩,_⟩:=J.loc;have I4:Inv X pins σ H' s':=lg (h':=s'.heap) j f3 J ⟨rfl,fun _ _=>rfl⟩;have hL:(aJ X sc N' s3 H3 fp).env.locals=s3.heap.objs.size:=rfl;rw [hL] at ho;have O:H' s3.heap.objs.size=none:=J.free;have neL:s3.heap.objs.size≠X.env.locals:=IW j.lt;have nfs:s3.heap.objs.size∉X.fs:=j.nofs (Hc _);have I5:Inv X (pins++[(s3.heap.objs.size,o)]) σ H' s':=I4.pins_of fun pr U=>by
  rcases Hj.mp U with z | z
  ·exact I4.pin pr (Hn _ z)
  ·have e:pr=(s3.heap.objs.size,o):=by simpa using z
   subst e;exact ⟨ho,O,neL,nfs,fun v z=>by rw [hd] at z;cases z⟩
 show Hd _ X.A (assign (.Name x pos') X.env (.ref p)) _ _ _;refine thn (G _ s' σ H' (.ref p) (.ref p) D.nx I5 rfl q) fun _ s6 ⟨σ6,H6,I6,q6⟩ => ?_;obtain ⟨Y,Z,_⟩:=I6.pin (s3.heap.objs.size,o) (Hn _ (Hn _ (by simp)))
 refine ⟨m,⟨o,es,ep,Y,hd,hk,hm⟩,fun h' EJ=>⟨σ6,H6, ?_,q6⟩⟩;refine (I6.unpinned).turned (t':=s6.toks) (it:=s3.heap.objs.size) (fun b o F e=>(EJ.2 b F).trans e) Z neL (.inr j.sz) (fun y c e z => ?_) fun pr U z => ?_
 ·obtain ⟨v,q⟩:=j.cell y c e;exact absurd q.lt (by rw [z];exact IT _)
 ·exact absurd (Hb (j.pin pr U).1) (by rw [z];exact IT _)
end
end
end
end L2
namespace L2
namespace Zp
open PySem PySem.Spec PyProof.Rows
def At (t:Bool) (h:Heap) (i l:Addr) (k:Nat):Prop:=match t with | true=>h.IsTupleIter i l k | false=>h.IsListIter i l k
def Sq (t:Bool) (h:Heap) (l:Addr) (xs:Array h7):Prop:=match t with | true=>h.IsTuple l xs | false=>h.IsList l xs
theorem At.up {t:Bool} {h h':Heap} {i l:Addr} {k:Nat} (x:At t h i l k) (e:∀ o,h.get? i=some o->h'.get? i=some o):At t h' i l k:=by
 cases t <;> (obtain ⟨o,ho,r⟩:=x;exact ⟨o,e o ho,r⟩)
theorem Sq.up {t:Bool} {h h':Heap} {l:Addr} {xs:Array h7} (x:Sq t h l xs) (e:∀ o,h.get? l=some o->h'.get? l=some o):Sq t h' l xs:=by
 cases t <;> (obtain ⟨o,ho,r⟩:=x;exact ⟨o,e o ho,r⟩)
theorem At.lt {t:Bool} {h:Heap} {i l:Addr} {k:Nat} (x:At t h i l k):∃ o,h.get? i=some o /\ ∀ v,o.data ≠ .cell v:=by
 cases t <;> (obtain ⟨o,ho,j,hd⟩:=x;exact ⟨o,ho,fun v z=>by rw [hd] at z;cases z⟩)
section
variable {prog:Hu} {w:HW} {A:Ib} {E:h7->D0->Prop} {s:D0}
open Builtin.SmallTypes in
theorem xm {i l:Addr} {k:Nat} {xs:Array h7} {x:h7} {Q:h7->D0->Prop} (hi:s.heap.IsTupleIter i l k) (L:s.heap.IsTuple l xs) (hx:xs[k]? = some x)
 (q:∀ h',h'.IsTupleIter i l (k+1)->IJ i s.heap h'->Q x { s with heap:=h' }):Hd (model prog w) A (nextOf (.ref i)) Q E s:=by
 obtain ⟨ob,z,B,j⟩:=id hi;obtain ⟨oq,G,_,nq,J⟩:=L;unfold nextOf;refine gV (HN (name:=Ic "__next__") hi.typeIs JP (HX JP hi.typeIs MB ?_ (Ms _)));refine gV (m:=field (.ref i) 0) (HH z j (x := .ref l) rfl ?_);refine (if_neg (c:=(I9 l==JW)=true) H0) ▸ ?_;refine gV (m:=field (.ref i) 1) (HH z j (x := .int k 0) rfl ?_);refine gV (m:=seqItems? (.ref l)) (Ia G J ?_);simp only [HJ,hx];refine gV (wpAny_setField z j (by simp) (tv ⟨x,rfl,tv (q _ ⟨_,LP _ z (Obj.isFreed_of_fields (Pp j _)),(Obj.cls_mapFields ..).trans B, ?_⟩ (Mz ..))⟩))
 rw [Pp j];simp [Lu]
open Builtin.SmallTypes in
theorem zX {i l:Addr} {k:Nat} {xs:Array h7} {Q:h7->D0->Prop} (J:A.handled=none) (hi:s.heap.IsTupleIter i l k) (L:s.heap.IsTuple l xs) (hx:xs[k]? = none)
 (q:∀ h' e,Qt i s.heap h'->(∃ o,h'.get? e=some o/\o.cls = .type "StopIteration")->E (.ref e) { s with heap:=h' }):Hd (model prog w) A (nextOf (.ref i)) Q E s:=by
 obtain ⟨ob,j,O,z⟩:=id hi;obtain ⟨oq,B,_,nq,G⟩:=L;unfold nextOf;refine gV (HN (name:=Ic "__next__") hi.typeIs JP (HX JP hi.typeIs MB ?_ (Ms _)));refine gV (m:=field (.ref i) 0) (HH j z (x := .ref l) rfl ?_);refine (if_neg (c:=(I9 l==JW)=true) H0) ▸ ?_;refine gV (m:=field (.ref i) 1) (HH j z (x := .int k 0) rfl ?_);refine gV (m:=seqItems? (.ref l)) (Ia B G ?_);simp only [HJ,hx];refine gV (IG (gV (wpAny_setField j z (by simp) ?_)))
 refine gV (m:=newExc (.type "StopIteration") []) ?_;simp only [newExc,newTuple];refine gV (IQ ?_ (by size_fits))
 refine gV (m:=MZ _ _) (JI (a:=JW) (by first | rfl | (simp only [MZ];rfl)) (IQ ?_ (by size_fits)))
 simp only [raiseNew];refine gV (wpAny_handled ?_)
 first | rw [show A.in1.handled=none from J] | rw [J]
 exact gV (tv (Qu (q _ _ (((Mz ..).extBut.push _).push _) ⟨_,GY _ rfl,rfl⟩)))
open Builtin.SmallTypes in
theorem nx_item {t:Bool} {i l:Addr} {k:Nat} {xs:Array h7} {x:h7} {Q:h7->D0->Prop} (hi:At t s.heap i l k) (j:Sq t s.heap l xs) (hx:xs[k]? = some x)
 (q:∀ h',At t h' i l (k+1)->IJ i s.heap h'->Q x { s with heap:=h' }):Hd (model prog w) A (nextOf (.ref i)) Q E s:=by
 cases t with
 | true=>exact xm hi j hx q
 | false=>exact wpAny_nextOf_list_item hi j hx q
open Builtin.SmallTypes in
theorem nx_end {t:Bool} {i l:Addr} {k:Nat} {xs:Array h7} {Q:h7->D0->Prop} (j:A.handled=none) (hi:At t s.heap i l k) (z:Sq t s.heap l xs) (hx:xs[k]? = none)
 (q:∀ h' e,Qt i s.heap h'->(∃ o,h'.get? e=some o/\o.cls = .type "StopIteration")->E (.ref e) { s with heap:=h' }):Hd (model prog w) A (nextOf (.ref i)) Q E s:=by
 cases t with
 | true=>exact zX j hi z hx q
 | false=>exact wpAny_nextOf_list_end j hi z hx q
open Builtin.SmallTypes in
theorem C5 {z T O i j a b:Addr} {t u:Bool} {k:Nat} {xs ys:Array h7} {x y p r:h7} {Q:h7->D0->Prop} (D:OC z T O i j a b)
 (G:KN s.heap z T O .none) (hT:K5 s.heap T (.ref i) (.ref j)) (hO:K5 s.heap O p r)
 (hi:At t s.heap i a k) (hj:At u s.heap j b k) (ha:Sq t s.heap a xs) (hb:Sq u s.heap b ys) (hx:xs[k]? = some x) (hy:ys[k]? = some y)
 (q:∀ h',KN h' z T O (Lu s.heap.objs.size)->K5 h' O x y->At t h' i a (k+1)->At u h' j b (k+1)->K5 h' s.heap.objs.size x y ->
   (∀ c o,c≠z->c≠O->c≠i->c≠j->s.heap.get? c=some o->h'.get? c=some o)->Q (.ref s.heap.objs.size) { s with heap:=h' }) :
 Hd (model prog w) A (Jl.«zip.__next__» ⟨[.ref z],[]⟩) (fun fin s' => ∃ v,fin = .done (.ret v)/\Q v s') E s:=by
 refine gV (m:=field (.ref z) 2) (HH G rfl (x := .bool false) rfl ?_);refine gV (m:=field (.ref z) 3) (HH G rfl (x := .ref T) rfl ?_);refine gV (Ia hT rfl ?_);refine gV (m:=ownedTupleIsFree (.ref z)) ?_;unfold ownedTupleIsFree;refine gV (HH G rfl (x := .none) rfl (tv ?_));simp only [if_true];refine gV (IG (gV (HH G rfl (x := .ref O) rfl (gV (Hz G (by simp) fun g1 z1 s1 => ?_)))))
 have Z1:KN g1 z T O .ellipsis:=z1;clear z1;refine gV ?_;simp only [KR,Mt,Jx,LB];refine gV (gV (Jm (gV (m:=nextOf (.ref i)) ?_)));refine nx_item (hi.up fun o e=>s1.extBut _ o D.i1z e) (ha.up fun o e=>s1.extBut _ o D.l1z e) hx fun g2 U s2=>tv ?_;have O2:K5 g2 O p r:=s2.extBut _ _ D.TOi1 (s1.extBut _ _ D.TOz hO);refine gV (Ia O2 rfl (gV (Mm O2 fun g3 o3 s3 => ?_)));have O3:K5 g3 O x r:=o3;clear o3;refine gV (Ke (tv (gV (gV (Jm (gV (m:=nextOf (.ref j)) ?_))))));refine nx_item (hj.up fun o e=>s3.extBut _ o D.TOi2.symm (s2.extBut _ o D.i12.symm (s1.extBut _ o D.i2z e))) (hb.up fun o e=>s3.extBut _ o D.l2TO (s2.extBut _ o D.l2i1 (s1.extBut _ o D.l2z e))) hy fun g4 Y s4=>tv ?_;have O4:K5 g4 O x r:=s4.extBut _ _ D.TOi2 O3;refine gV (Ia O4 rfl (gV (Mm O4 fun B o5 s5 => ?_)));have O5:K5 B O x y:=o5;clear o5;refine gV (Ke (tv (tv (gV (Ia O5 rfl (gV (N1 ?_)))))));have sz:B.objs.size=s.heap.objs.size:=by rw [s5.1,s4.1,s3.1,s2.1,s1.1]
 have k5:∀ c o,c≠z->c≠O->c≠i->c≠j->s.heap.get? c=some o->B.get? c=some o:=fun c o F J Z c4 e =>
  s5.extBut _ _ J (s4.extBut _ _ c4 (s3.extBut _ _ J (s2.extBut _ _ Z (s1.extBut _ _ F e))))
 have Z5:KN B z T O .ellipsis:=s5.extBut _ _ D.TOz.symm (s4.extBut _ _ D.i2z.symm (s3.extBut _ _ D.TOz.symm (s2.extBut _ _ D.i1z.symm Z1)));have I5:At t B i a (k+1):=U.up fun o e=>s5.extBut _ o D.TOi1.symm (s4.extBut _ o D.i12 (s3.extBut _ o D.TOi1.symm e));have J5:At u B j b (k+1):=Y.up fun o e=>s5.extBut _ o D.TOi2.symm e;have zl:z < B.objs.size:=Hb Z5;refine gV (m:=ownedTupleHandOut (.ref z) (.ref B.objs.size)) ?_;unfold ownedTupleHandOut;refine gV (Hz (q7 _ Z5) (by simp) fun g7 z7 s7 => ?_)
 have Z7:KN g7 z T O (Lu B.objs.size):=z7;clear z7;refine Hz Z7 (by simp) fun L z8 s8 => ?_
 have Z8:KN L z T O (Lu B.objs.size):=z8;clear z8;have up:∀ c o,c≠z->B.get? c=some o->L.get? c=some o:=fun c o F e=>s8.extBut _ _ F (s7.extBut _ _ F (q7 _ e));have P8:K5 L B.objs.size x y:=s8.extBut _ _ (IW zl) (s7.extBut _ _ (IW zl) (GY _ rfl));rw [sz] at Z8 P8;refine tv ⟨_,rfl, ?_⟩;show Q (.ref B.objs.size) _;rw [sz];exact q L Z8 (up _ _ D.TOz O5) (I5.up fun o e=>up _ o D.i1z e) (J5.up fun o e=>up _ o D.i2z e) P8 fun c o F J Z c4 e=>up c o F (k5 c o F J Z c4 e)
open Builtin.SmallTypes in
theorem DD {z T O i j a b:Addr} {t u:Bool} {k:Nat} {xs ys:Array h7} {p r:h7} {Q:Fin->D0->Prop} (hn:A.handled=none) (D:OC z T O i j a b)
 (G:KN s.heap z T O .none) (hT:K5 s.heap T (.ref i) (.ref j)) (hO:K5 s.heap O p r)
 (hi:At t s.heap i a k) (hj:At u s.heap j b k) (ha:Sq t s.heap a xs) (hb:Sq u s.heap b ys) (J:xs[k]? = none∨ys[k]? = none)
 (q:∀ h' e,(∀ c o,c≠z->c≠O->c≠i->c≠j->s.heap.get? c=some o->h'.get? c=some o)->(∃ o,h'.get? e=some o/\o.cls = .type "StopIteration")->E (.ref e) { s with heap:=h' }) :
 Hd (model prog w) A (Jl.«zip.__next__» ⟨[.ref z],[]⟩) Q E s:=by
 refine gV (m:=field (.ref z) 2) (HH G rfl (x := .bool false) rfl ?_);refine gV (m:=field (.ref z) 3) (HH G rfl (x := .ref T) rfl ?_);refine gV (Ia hT rfl ?_);refine gV (m:=ownedTupleIsFree (.ref z)) ?_;unfold ownedTupleIsFree;refine gV (HH G rfl (x := .none) rfl (tv ?_));simp only [if_true];refine gV (IG (gV (HH G rfl (x := .ref O) rfl (gV (Hz G (by simp) fun g1 z1 s1 => ?_)))))
 have Z1:KN g1 z T O .ellipsis:=z1;clear z1;refine gV ?_;simp only [KR,Mt,Jx,LB];refine gV (gV (Jm (gV (m:=nextOf (.ref i)) ?_)));have L:At t g1 i a k:=hi.up fun o e=>s1.extBut _ o D.i1z e;have U:Sq t g1 a xs:=ha.up fun o e=>s1.extBut _ o D.l1z e
 cases hx:xs[k]? with
 | none =>
   refine nx_end hn L U hx fun g2 e s2 he => ?_;obtain ⟨oe,B,F⟩:=he;have Z2:KN g2 z T O .ellipsis:=s2 _ _ D.i1z.symm Z1;have ez:e≠z:=fun x=>by subst x;rw [Z2] at B;cases B;simp at F
   exact Hz Z2 (by simp) fun g3 _ s3=>q g3 e (fun c o Y _ Z _ x=>s3.extBut _ _ Y (s2 _ _ Z (s1.extBut _ _ Y x))) ⟨oe,s3.extBut _ _ ez B,F⟩
 | some x =>
   have hy:ys[k]? = none:=J.elim (fun z=>by rw [hx] at z;cases z) id
   refine nx_item L U hx fun g2 EJ s2=>tv ?_;have O2:K5 g2 O p r:=s2.extBut _ _ D.TOi1 (s1.extBut _ _ D.TOz hO);refine gV (Ia O2 rfl (gV (Mm O2 fun g3 o3 s3 => ?_)));refine gV (Ke (tv (gV (gV (Jm (gV (m:=nextOf (.ref j)) ?_))))));refine nx_end hn (hj.up fun o e=>s3.extBut _ o D.TOi2.symm (s2.extBut _ o D.i12.symm (s1.extBut _ o D.i2z e))) (hb.up fun o e=>s3.extBut _ o D.l2TO (s2.extBut _ o D.l2i1 (s1.extBut _ o D.l2z e))) hy fun g4 e s4 he => ?_;obtain ⟨oe,B,F⟩:=he;have Z4:KN g4 z T O .ellipsis:=s4 _ _ D.i2z.symm (s3.extBut _ _ D.TOz.symm (s2.extBut _ _ D.i1z.symm Z1));have ez:e≠z:=fun x=>by subst x;rw [Z4] at B;cases B;simp at F
   exact Hz Z4 (by simp) fun g5 _ s5=>q g5 e (fun c o Y c2 Z c4 x=>s5.extBut _ _ Y (s4 _ _ c4 (s3.extBut _ _ c2 (s2.extBut _ _ Z (s1.extBut _ _ Y x))))) ⟨oe,s5.extBut _ _ ez B,F⟩
theorem nxt_item {z T O i j a b:Addr} {t u:Bool} {k:Nat} {xs ys:Array h7} {x y p r:h7} {Q:Option h7->D0->Prop} (D:OC z T O i j a b)
 (B:KN s.heap z T O .none) (G:K5 s.heap T (.ref i) (.ref j)) (J:K5 s.heap O p r)
 (hi:At t s.heap i a k) (L:At u s.heap j b k) (U:Sq t s.heap a xs) (Y:Sq u s.heap b ys) (hx:xs[k]? = some x) (Z:ys[k]? = some y)
 (q:∀ h',KN h' z T O (Lu s.heap.objs.size)->K5 h' O x y->At t h' i a (k+1)->At u h' j b (k+1)->K5 h' s.heap.objs.size x y ->
   (∀ c o,c≠z->c≠O->c≠i->c≠j->s.heap.get? c=some o->h'.get? c=some o)->Q (some (.ref s.heap.objs.size)) { s with heap:=h' }) :
 Hd (model prog w) A (Kt (.ref z)) Q E s:=by
 have ty:s.TypeIs (.ref z) "zip" := ⟨_,B,rfl⟩;unfold Kt;exact gV (Jn (HN (name:=Ic "__next__") ty Jy (HX Jy ty LX
  (C5 D B G J hi L U Y hx Z fun h' a1 a2 a3 a4 a5 a6=>tv (q h' a1 a2 a3 a4 a5 a6)) (LC _))))
theorem nxt_end {z T O i j a b:Addr} {t u:Bool} {k:Nat} {xs ys:Array h7} {p r:h7} {Q:Option h7->D0->Prop} (J:A.handled=none) (D:OC z T O i j a b)
 (G:KN s.heap z T O .none) (L:K5 s.heap T (.ref i) (.ref j)) (U:K5 s.heap O p r)
 (hi:At t s.heap i a k) (Y:At u s.heap j b k) (Z:Sq t s.heap a xs) (hb:Sq u s.heap b ys) (B:xs[k]? = none∨ys[k]? = none)
 (q:∀ h',(∀ c o,c≠z->c≠O->c≠i->c≠j->s.heap.get? c=some o->h'.get? c=some o)->Q none { s with heap:=h' }):Hd (model prog w) A (Kt (.ref z)) Q E s:=by
 have ty:s.TypeIs (.ref z) "zip" := ⟨_,G,rfl⟩;unfold Kt;refine gV (Jn (HN (name:=Ic "__next__") ty Jy (HX Jy ty LX
  (DD J D G L U hi Y Z hb B fun h' e hk he => ?_) (LC _))))
 obtain ⟨o,ho,hc⟩:=he;exact gV (Jh (T := "StopIteration") (b:=true) ⟨o,ho,hc⟩ N2 (tv (q _ hk)))
noncomputable def itO (t:Bool) (l:Addr):Obj:=match t with | true => { cls := .type "tuple_iterator",data := .fields #[.ref l, .int 0 0] } | false => { cls := .type "list_iterator",data := .fields #[.ref l, .int 0 0] }
noncomputable def zH1 (h:Heap) (t:Bool) (a:Addr):Heap:=h.push (itO t a)
noncomputable def zH2 (h:Heap) (t u:Bool) (a b:Addr):Heap:=(zH1 h t a).push (itO u b)
noncomputable def zH3 (h:Heap) (t u:Bool) (a b:Addr):Heap:=(zH2 h t u a b).push { cls := .type "tuple",data := .seq #[.ref h.objs.size, .ref (zH1 h t a).objs.size] }
noncomputable def zH4 (h:Heap) (t u:Bool) (a b:Addr):Heap:=(zH3 h t u a b).push { cls := .type "tuple",data := .seq #[.none, .none] }
noncomputable def zH5 (h:Heap) (t u:Bool) (a b:Addr):Heap:=(zH4 h t u a b).push { cls := .type "zip",data := .fields #[.none, .bool false, .bool false, .ref (zH2 h t u a b).objs.size, .ref (zH3 h t u a b).objs.size] }
theorem uw (t u:Bool) (a b:Addr) (xs ys:Array h7) :
 Meets (Jl.«zip.__new__» ⟨[.type "zip", .ref a, .ref b],[]⟩) (fun _ R s=>Sq t s.heap a xs/\Sq u s.heap b ys/\R (.ok (.ret (.ref (zH4 s.heap t u a b).objs.size))) { s with heap:=zH5 s.heap t u a b }) :=
 .of_wp fun prog w A R s h=>by
  obtain ⟨j,g,d,tk,os⟩:=s;obtain ⟨q,z,h⟩:=h;have hs:=sub_zip
  cases t <;> cases u
  ·have e1:Nr (Jp ⟨j,g,d,tk,os⟩) a xs:=q;have e2:Nr (Jp ⟨j.push { cls := .type "list_iterator",data := .fields #[.ref a, .int 0 0] },g,d,tk,os⟩) b ys:=NI z _
   wp_walk using J4 e1,J4 e2
   exact ⟨_,rfl,h⟩
  ·have e1:Nr (Jp ⟨j,g,d,tk,os⟩) a xs:=q;have e2:KS (Jp ⟨j.push { cls := .type "list_iterator",data := .fields #[.ref a, .int 0 0] },g,d,tk,os⟩) b ys:=LD z _
   wp_walk using J4 e1,Iy e2
   exact ⟨_,rfl,h⟩
  ·have e1:KS (Jp ⟨j,g,d,tk,os⟩) a xs:=q;have e2:Nr (Jp ⟨j.push { cls := .type "tuple_iterator",data := .fields #[.ref a, .int 0 0] },g,d,tk,os⟩) b ys:=NI z _
   wp_walk using Iy e1,J4 e2
   exact ⟨_,rfl,h⟩
  ·have e1:KS (Jp ⟨j,g,d,tk,os⟩) a xs:=q;have e2:KS (Jp ⟨j.push { cls := .type "tuple_iterator",data := .fields #[.ref a, .int 0 0] },g,d,tk,os⟩) b ys:=LD z _
   wp_walk using Iy e1,Iy e2
   exact ⟨_,rfl,h⟩
theorem at_new {t:Bool} {h:Heap} {i l:Addr} (e:h.get? i=some (itO t l)):At t h i l 0:=by
 cases t <;> exact ⟨_,e,rfl,rfl⟩
theorem call_zip {t u:Bool} {a b:Addr} {xs ys:Array h7} {Q:h7->D0->Prop} (ha:Sq t s.heap a xs) (hb:Sq u s.heap b ys)
 (q:∀ h',KN h' (s.heap.objs.size+4) (s.heap.objs.size+2) (s.heap.objs.size+3) .none->K5 h' (s.heap.objs.size+2) (.ref s.heap.objs.size) (.ref (s.heap.objs.size+1)) ->
   K5 h' (s.heap.objs.size+3) .none .none->At t h' s.heap.objs.size a 0->At u h' (s.heap.objs.size+1) b 0->h'.objs.size=s.heap.objs.size+5 ->
   (∀ c o,s.heap.get? c=some o->h'.get? c=some o)->Q (.ref (s.heap.objs.size+4)) { s with heap:=h' }) :
 Hd (model prog w) A (call (.type "zip") [.ref a, .ref b]) Q E s:=by
 refine PR F.called_zip (by decide) (F.typeCall_zip_2 _ _) (F.newCall_zip_2 _ _) (fun obj=>F.args_object_init_3 obj _ _) QF (uw t u a b xs ys) ⟨ha,hb, ?_⟩
 have B:(zH1 s.heap t a).objs.size=s.heap.objs.size+1:=Ip ..;have G:(zH2 s.heap t u a b).objs.size=s.heap.objs.size+2:=by unfold zH2;rw [Ip,B]
 have J:(zH3 s.heap t u a b).objs.size=s.heap.objs.size+3:=by unfold zH3;rw [Ip,G]
 have L:(zH4 s.heap t u a b).objs.size=s.heap.objs.size+4:=by unfold zH4;rw [Ip,J]
 have z5:(zH5 s.heap t u a b).objs.size=s.heap.objs.size+5:=by unfold zH5;rw [Ip,L]
 have j:∀ {c o},(zH4 s.heap t u a b).get? c=some o->(zH5 s.heap t u a b).get? c=some o:=fun e=>q7 _ e;have z:∀ {c o},(zH3 s.heap t u a b).get? c=some o->(zH4 s.heap t u a b).get? c=some o:=fun e=>q7 _ e;have O:∀ {c o},(zH2 s.heap t u a b).get? c=some o->(zH3 s.heap t u a b).get? c=some o:=fun e=>q7 _ e;have Y:∀ {c o},(zH1 s.heap t a).get? c=some o->(zH2 s.heap t u a b).get? c=some o:=fun e=>q7 _ e;have k1:∀ {c o},s.heap.get? c=some o->(zH1 s.heap t a).get? c=some o:=fun e=>q7 _ e;have f:∀ t l,(itO t l).isFreed=false:=fun t l=>by cases t <;> rfl
 have U:(zH5 s.heap t u a b).get? (zH4 s.heap t u a b).objs.size=some _:=GY _ rfl;have Z:(zH5 s.heap t u a b).get? (zH3 s.heap t u a b).objs.size=some _:=j (GY _ rfl);have g3:(zH5 s.heap t u a b).get? (zH2 s.heap t u a b).objs.size=some _:=j (z (GY _ rfl));have g2:(zH5 s.heap t u a b).get? (zH1 s.heap t a).objs.size=some _:=j (z (O (GY _ (f u b))));have g1:(zH5 s.heap t u a b).get? s.heap.objs.size=some _:=j (z (O (Y (GY _ (f t a)))));show _/\_;rw [G,J,L] at U;rw [B,G] at g3;rw [J] at Z;rw [B] at g2;rw [L];exact ⟨⟨_,U,rfl⟩,q _ U g3 Z (at_new g1) (at_new g2) z5 fun c o x=>j (z (O (Y (k1 x))))⟩
end
end Zp
end L2
namespace L2
open PySem PySem.Spec PyProof.Rows
section
section
variable {X:Cx} {pins:List (Addr×Obj)} {σ:St} {H:Hp} {s:D0} {h':Heap}
theorem Inv.turnedL {t':Nat} {fp:List Addr} (I:Inv X pins σ H s) (hf:∀ b∈fp,bZ X pins H b) (k:∀ b o,b∉fp->s.heap.get? b=some o->h'.get? b=some o):Inv X pins σ H { s with heap:=h',toks:=t' }:=by
 have nit:∀ b u,H b=some u->b∉fp:=fun b u e z=>by rw [(hf b z).1] at e;cases e
 refine I.step (g':=s.gens) (d':=s.drawn) (ch:=fp) (fun b B => ?_) (fun b o _ _ j e _=>k b o j e) (fun b o _ _ j e _=>⟨o.slots,k b o j e⟩) (fun _ _ _ _ n=>n)
  (fun b o j e=>⟨o,k b o j e⟩) (fun _ _ e=>e) (fun _ _ _ e=>e) (fun b ps e=>⟨#[],by rw [e];simp⟩) (fun m hm => ?_) (fun b u e => ?_) I.bare
 ·obtain ⟨_,f1,_,F,f4,G⟩:=hf b B;exact ⟨F,f1,f4,G⟩
 ·obtain ⟨o,es,ep,ho,r⟩:=hm;exact ⟨o,es,ep,k _ o (fun z=>(hf _ z).2.1 rfl) ho,r⟩
 ·refine (I.hok b u e).stay (fun c v j q=>k c v ?_ q) (fun _ q=>q) fun _ _ q=>q
  rcases j with z | z
  ·rw [z];exact nit b u e
  ·exact nit c _ z
end
def SqV (K:Frag) (t:Bool) (H:Hp) (a:Addr) (xs:List V):Prop:=match t with | true=>SqT K H a xs | false=>SqL K H a xs
theorem Inv.sqv {X:Cx} {pins:List (Addr×Obj)} {σ:St} {H:Hp} {s:D0} {t:Bool} {a:Addr} {xs:List V} (I:Inv X pins σ H s) (h:SqV X.K t H a xs):∃ its:List h7,Vals xs its/\Zp.Sq t s.heap a its.toArray:=by
 cases t with
 | true=>obtain ⟨its,r,p,_⟩:=I.tuple h;exact ⟨its,r,p⟩
 | false=>obtain ⟨its,r,p,_⟩:=I.list h;exact ⟨its,r,p.isList⟩
theorem Inv.sqv_inj {X:Cx} {pins:List (Addr×Obj)} {σ:St} {H:Hp} {s:D0} {t:Bool} {a:Addr} {xs ys:List V} (I:Inv X pins σ H s) (h:SqV X.K t H a xs) (h':SqV X.K t H a ys):xs=ys:=by
 cases t with
 | true=>exact I.tuple_inj h h'
 | false=>exact I.list_inj h h'
noncomputable def Itz (K:Frag) (t u:Bool) (a b:Addr):It :=
 ⟨fun i H => ∃ xs ys x y,SqV K t H a xs/\SqV K u H b ys/\xs[i]? = some x/\ys[i]? = some y,
  fun i H v H' => ∃ p x y,H p=none/\v = .ref p/\H'=upd H p (.tup [x,y]) /\ ∀ xs ys,SqV K t H a xs->SqV K u H b ys->xs[i]? = some x/\ys[i]? = some y,
  fun i H => ∃ xs ys,SqV K t H a xs/\SqV K u H b ys/\(xs.length<=i∨ys.length<=i)⟩
theorem xo {P:Hu} {w:HW} {K:Frag} {elts:List Expr} {cx} {pos:Pos} {t u:Bool} {z T O i j a b:Addr} (D:OC z T O i j a b) :
 fo P w K (.Tuple elts cx pos) (Itz K t u a b) [z,T,O,i,j] z (fun k h=>KN h z T O .none/\K5 h T (.ref i) (.ref j)/\(∃ p r,K5 h O p r)/\Zp.At t h i a k/\Zp.At u h j b k) where
 mem:=by simp
 obj:=fun k h ⟨B,F,⟨p,r,G⟩,hi,J⟩ c q=>by
  simp only [Ha,Ht,or_false] at q
  rcases q with rfl | rfl | rfl | rfl | rfl
  ·exact ⟨_,B,fun v e=>by cases e⟩
  ·exact ⟨_,F,fun v e=>by cases e⟩
  ·exact ⟨_,G,fun v e=>by cases e⟩
  ·exact hi.lt
  ·exact J.lt
 keep:=fun k h h' ⟨B,F,⟨p,r,G⟩,hi,J⟩ kk=>⟨kk z (by simp) _ B,kk T (by simp) _ F,⟨p,r,kk O (by simp) _ G⟩,hi.up fun o e=>kk i (by simp) o e,J.up fun o e=>kk j (by simp) o e⟩
 item:=by
  intro X Y hw Z q k pins s σ H E I hf st hg;subst Y hw Z;obtain ⟨B,F,⟨p,r,G⟩,hi,J⟩:=st;obtain ⟨xs,ys,x,y,qx,qy,ex,ey⟩:=hg;obtain ⟨is,rx,px⟩:=I.sqv qx;obtain ⟨js,ry,py⟩:=I.sqv qy;obtain ⟨ux,EJ,rux⟩:=rx.get ex;obtain ⟨uy,EK,ruy⟩:=ry.get ey;refine Zp.nxt_item D B F G hi J px py (by simpa using EJ) (by simpa using EK) fun h1 z1 o1 i1 j1 p1 U=>⟨_,rfl, ?_⟩
  refine Ng (s := { s with heap:=h1 }) z1 fun h2 z2 s2 => ?_
  have lt:∀ {c o},s.heap.get? c=some o->c≠s.heap.objs.size:=fun e=>HQ (Hb e);have nz:s.heap.objs.size≠z:=(lt B).symm;have EL:∃ o,s.heap.get? i=some o:=hi.lt.imp fun _ h=>h.1;have EM:∃ o,s.heap.get? j=some o:=J.lt.imp fun _ h=>h.1;have up:∀ c o,c≠z->h1.get? c=some o->h2.get? c=some o:=fun c o n e=>s2.extBut _ _ n e;have IL:Inv X pins σ (upd H s.heap.objs.size (.tup [x,y])) { s with heap:=s.heap.push { cls := .type "tuple",data := .seq #[ux,uy] },toks:=s.toks } :=
   I.laid (fun b o e=>q7 _ e) (Hc _) ⟨by rw [GU];simp,[ux,uy], .cons rux (.cons ruy .nil),LS _ _⟩
  have fr:∀ c∈[z,T,O,i,j],c≠s.heap.objs.size:=fun c q=>by
   simp only [Ha,Ht,or_false] at q
   rcases q with rfl | rfl | rfl | rfl | rfl
   ·exact lt B
   ·exact lt F
   ·exact lt G
   ·obtain ⟨o,e⟩:=EL;exact lt e
   ·obtain ⟨o,e⟩:=EM;exact lt e
  have un:∀ c∈[z,T,O,i,j],upd H s.heap.objs.size (.tup [x,y]) c=none:=fun c q=>by
   rw [ak (fr c q)];exact (hf c q).1
  have kk:∀ c o,c∉[z,T,O,i,j]->(s.heap.push { cls := .type "tuple",data := .seq #[ux,uy] }).get? c=some o->h2.get? c=some o:=fun c o q e=>by
   simp only [Ha,Ht,or_false,not_or] at q
   rcases Mn e with ⟨rfl,rfl⟩ | e
   ·exact up _ _ nz p1
   ·exact up _ _ q.1 (U c o q.1 q.2.2.1 q.2.2.2.1 q.2.2.2.2 e)
  have I2:Inv X pins σ (upd H s.heap.objs.size (.tup [x,y])) { s with heap:=h2,toks:=s.toks } :=
   (Inv.turnedL (s := { s with heap:=s.heap.push { cls := .type "tuple",data := .seq #[ux,uy] },toks:=s.toks }) (h':=h2) (t':=s.toks) (fp := [z,T,O,i,j]) IL (fun c q=>⟨un c q,(hf c q).2⟩) kk)
  refine ⟨.ref s.heap.objs.size,_,I2,rfl,⟨_,x,y,I.hok.fresh (Hc _),rfl,rfl,fun xs' ys' q1 q2 => ?_⟩,⟨z2,up _ _ D.TIz (U _ _ D.TIz D.TITO D.TIi1 D.TIi2 F),⟨_,_,up _ _ D.TOz o1⟩,i1.up fun o e=>up _ o D.i1z e,j1.up fun o e=>up _ o D.i2z e⟩,un⟩;rw [I.sqv_inj q1 qx,I.sqv_inj q2 qy];exact ⟨ex,ey⟩
 done:=by
  intro X Y hw Z q k pins s σ H E I hf st hg;subst Y hw Z;obtain ⟨B,F,⟨p,r,G⟩,hi,J⟩:=st;obtain ⟨xs,ys,qx,qy,L⟩:=hg;obtain ⟨is,rx,px⟩:=I.sqv qx;obtain ⟨js,ry,py⟩:=I.sqv qy;have lx:=rx.length;have ly:=ry.length;refine Zp.nxt_end (I.ok.hd q) D B F G hi J px py (L.imp (fun e=>by simp;lia) (fun e=>by simp;lia)) fun h1 U=>⟨rfl,I.turnedL (t':=s.toks) hf fun c o q e => ?_⟩
  simp only [Ha,Ht,or_false,not_or] at q;exact U c o q.1 q.2.2.1 q.2.2.2.1 q.2.2.2.2 e
 self:=fun A k s Q E st h=>LY st.1 h
section
variable {X:Cx}
noncomputable def Ez (K:Frag) (ta:TA):TI:=fun σ H R=>ta σ H fun vs H1 => ∃ a b t u xs ys,vs=[.ref a, .ref b]/\SqV K t H1 a xs/\SqV K u H1 b ys/\R (Itz K t u a b) H1
theorem C6 {elts:List Expr} {cx} {pos p pos':Pos} {a b:Expr} {ta:TA} (G:Gl X "zip") (hm:X.mg "zip" = none) (J:PA X [a,b] ta) (hs:Hv [a,b] X.env=[(false,eval a X.env),(false,eval b X.env)]) (j:Hv [b] X.env=[(false,eval b X.env)]) :
 PI X (.Tuple elts cx pos) (.Call (.Name "zip" p) [a,b] [] pos') (Ez X.K ta):=by
 intro pins s σ H R I h;refine Call_ (dM I G hm (u := .type "zip") (by decide +kernel) (J2 (thn (J pos' pins s σ H _ I h) fun us s1 ⟨vs,H1,z,L,O⟩ => ?_) (by rw [hs,j]) (by rw [j];rfl)))
 obtain ⟨a',b',t,u,xs,ys,rfl,qx,qy,q⟩:=O
 cases L with
 | cons r rr =>
   cases rr with
   | cons r' rr =>
     cases rr
     cases r
     cases r'
     obtain ⟨is,rx,px⟩:=z.sqv qx;obtain ⟨js,ry,py⟩:=z.sqv qy;refine Zp.call_zip px py fun h1 B t1 U Y Z sz k1 => ?_;refine LY B ?_;have la:a' < s1.heap.objs.size:=by cases t <;> (obtain ⟨o,e,_⟩:=px;exact Hb e)
     have lb:b' < s1.heap.objs.size:=by cases u <;> (obtain ⟨o,e,_⟩:=py;exact Hb e)
     have D:OC (s1.heap.objs.size+4) (s1.heap.objs.size+2) (s1.heap.objs.size+3) s1.heap.objs.size (s1.heap.objs.size+1) a' b':=by constructor <;> (intro e;subst_vars;first | lia | (simp only [Addr] at *;lia))
     refine ⟨_,_,_,_,H1,rfl,z.kept (t':=s1.toks) k1,xo (t:=t) (u:=u) D,⟨B,t1,⟨_,_,U⟩,Y,Z⟩,fun c F => ?_,q⟩;have hle:s1.heap.objs.size<=c:=by
      simp only [Ha,Ht,or_false] at F
      rcases F with rfl | rfl | rfl | rfl | rfl <;> lia
     exact z.fpOk hle (z.hok.fresh hle)
end
end
end L2
namespace L2
namespace Zp
open PySem PySem.Spec PyProof.Rows
noncomputable abbrev bD (h:Heap) (T:Addr) (a b c:h7):Prop:=h.get? T=some { cls := .type "tuple",data := .seq #[a,b,c] }
structure Z3 (t u v:Bool) (n a b c:Addr) (f0:h7) (k:Nat) (h:Heap):Prop where
 z:KN h (n+5) (n+3) (n+4) f0
 T:bD h (n+3) (.ref n) (.ref (n+1)) (.ref (n+2))
 O:∃ p q r,bD h (n+4) p q r
 i:At t h n a k
 j:At u h (n+1) b k
 l:At v h (n+2) c k
section
variable {prog:Hu} {w:HW} {A:Ib} {E:h7->D0->Prop} {s:D0}
theorem eR {T:Addr} {a b c x:h7} {k:Nat} {Q:Unit->D0->Prop} (j:bD s.heap T a b c)
 (h:∀ h',h'.get? T=some { cls := .type "tuple",data := .seq ((#[a,b,c]:Array h7).setIfInBounds k x) }->IJ T s.heap h'->Q () { s with heap:=h' }) :
 Hd (model prog w) A (updateSeq T (·.setIfInBounds k x)) Q E s:=by
 refine wpAny_updateSeq j rfl (h _ ?_ (Mz ..));rw [LP _ j rfl];simp [K1]
theorem gN {a n k:Nat} (h:a < n):a≠n+k:=by lia
theorem kN {n j k:Nat} (h:j≠k):n+j≠n+k:=by lia
theorem oN {n k:Nat} (h:k≠0):n≠n+k:=by lia
theorem pN {n k:Nat} (h:k≠0):n+k≠n:=by lia
open Builtin.SmallTypes in
theorem zY {n a b c:Addr} {t u v:Bool} {k:Nat} {xs ys zs:Array h7} {x y e:h7} {Q:h7->D0->Prop} (la:a < n) (lb:b < n) (lc:c < n)
 (Z:Z3 t u v n a b c .none k s.heap) (ha:Sq t s.heap a xs) (hb:Sq u s.heap b ys) (hc:Sq v s.heap c zs) (hx:xs[k]? = some x) (hy:ys[k]? = some y) (he:zs[k]? = some e)
 (q:∀ h',Z3 t u v n a b c (Lu s.heap.objs.size) (k+1) h'->bD h' s.heap.objs.size x y e ->
   (∀ c o,c≠n->c≠n+1->c≠n+2->c≠n+4->c≠n+5->s.heap.get? c=some o->h'.get? c=some o)->Q (.ref s.heap.objs.size) { s with heap:=h' }) :
 Hd (model prog w) A (Jl.«zip.__next__» ⟨[.ref (n+5)],[]⟩) (fun fin s' => ∃ v,fin = .done (.ret v)/\Q v s') E s:=by
 obtain ⟨O,hT,⟨p1,p2,U,hO⟩,hi,hj,hl⟩:=Z;refine gV (m:=field (.ref (n+5)) 2) (HH O rfl (x := .bool false) rfl ?_);refine gV (m:=field (.ref (n+5)) 3) (HH O rfl (x := .ref (n+3)) rfl ?_);refine gV (Ia hT rfl ?_);refine gV (m:=ownedTupleIsFree (.ref (n+5))) ?_;unfold ownedTupleIsFree;refine gV (HH O rfl (x := .none) rfl (tv ?_));simp only [if_true];refine gV (IG (gV (HH O rfl (x := .ref (n+4)) rfl (gV (Hz O (by simp) fun g1 z1 s1 => ?_)))))
 have Z1:KN g1 (n+5) (n+3) (n+4) .ellipsis:=z1;clear z1;refine gV ?_;simp only [KR,Mt,Jx,LB];refine gV (gV (Jm (gV (m:=nextOf (.ref n)) ?_)));refine nx_item (hi.up fun o e=>s1.extBut _ o (oN (by decide)) e) (ha.up fun o e=>s1.extBut _ o (gN la) e) hx fun g2 EJ s2=>tv ?_
 have O2:bD g2 (n+4) p1 p2 U:=s2.extBut _ _ (pN (by decide)) (s1.extBut _ _ (kN (by decide)) hO)
 refine gV (Ia O2 rfl (gV (eR O2 fun g3 o3 s3 => ?_)));have O3:bD g3 (n+4) x p2 U:=o3;clear o3;have k3:∀ c o,c≠n->c≠n+4->c≠n+5->s.heap.get? c=some o->g3.get? c=some o:=fun c o z F B e=>s3.extBut _ _ F (s2.extBut _ _ z (s1.extBut _ _ B e));refine gV (Ke (tv (gV (gV (Jm (gV (m:=nextOf (.ref (n+1))) ?_))))));refine nx_item (hj.up fun o e=>k3 _ o (pN (by decide)) (kN (by decide)) (kN (by decide)) e) (hb.up fun o e=>k3 _ o (gN (k := 0) lb) (gN lb) (gN lb) e) hy fun g4 EK s4=>tv ?_
 have O4:bD g4 (n+4) x p2 U:=s4.extBut _ _ (kN (by decide)) O3
 refine gV (Ia O4 rfl (gV (eR O4 fun g5 o5 s5 => ?_)));have O5:bD g5 (n+4) x y U:=o5;clear o5;have k5:∀ c o,c≠n->c≠n+1->c≠n+4->c≠n+5->s.heap.get? c=some o->g5.get? c=some o:=fun c o z F B G e=>s5.extBut _ _ B (s4.extBut _ _ F (k3 c o z B G e));refine gV (Ke (tv (gV (gV (Jm (gV (m:=nextOf (.ref (n+2))) ?_))))));refine nx_item (hl.up fun o e=>k5 _ o (pN (by decide)) (kN (by decide)) (kN (by decide)) (kN (by decide)) e) (hc.up fun o e=>k5 _ o (gN (k := 0) lc) (gN lc) (gN lc) (gN lc) e) he fun g6 EL J=>tv ?_
 have O6:bD g6 (n+4) x y U:=J.extBut _ _ (kN (by decide)) O5
 refine gV (Ia O6 rfl (gV (eR O6 fun j o7 L => ?_)));have O7:bD j (n+4) x y e:=o7;clear o7;refine gV (Ke (tv (tv (gV (Ia O7 rfl (gV (N1 ?_)))))));have sz:j.objs.size=s.heap.objs.size:=by rw [L.1,J.1,s5.1,s4.1,s3.1,s2.1,s1.1]
 have k7:∀ c o,c≠n->c≠n+1->c≠n+2->c≠n+4->c≠n+5->s.heap.get? c=some o->j.get? c=some o:=fun c o z F B G Y e=>L.extBut _ _ G (J.extBut _ _ B (k5 c o z F G Y e));have Z7:KN j (n+5) (n+3) (n+4) .ellipsis:=L.extBut _ _ (kN (by decide)) (J.extBut _ _ (kN (by decide)) (s5.extBut _ _ (kN (by decide)) (s4.extBut _ _ (kN (by decide)) (s3.extBut _ _ (kN (by decide)) (s2.extBut _ _ (pN (by decide)) Z1)))))
 have T7:=k7 _ _ (pN (by decide)) (kN (by decide)) (kN (by decide)) (kN (by decide)) (kN (by decide)) hT
 have I7:At t j n a (k+1):=EJ.up fun o e=>L.extBut _ o (oN (by decide)) (J.extBut _ o (oN (by decide)) (s5.extBut _ o (oN (by decide)) (s4.extBut _ o (oN (by decide)) (s3.extBut _ o (oN (by decide)) e))))
 have J7:At u j (n+1) b (k+1):=EK.up fun o e=>L.extBut _ o (kN (by decide)) (J.extBut _ o (kN (by decide)) (s5.extBut _ o (kN (by decide)) e))
 have L7:At v j (n+2) c (k+1):=EL.up fun o e=>L.extBut _ o (kN (by decide)) e
 have zl:n+5 < j.objs.size:=Hb Z7;refine gV (m:=ownedTupleHandOut (.ref (n+5)) (.ref j.objs.size)) ?_;unfold ownedTupleHandOut;refine gV (Hz (q7 _ Z7) (by simp) fun g8 z8 s8 => ?_)
 have Z8:KN g8 (n+5) (n+3) (n+4) (Lu j.objs.size):=z8;clear z8;refine Hz Z8 (by simp) fun g9 z9 s9 => ?_
 have Z9:KN g9 (n+5) (n+3) (n+4) (Lu j.objs.size):=z9;clear z9;have up:∀ c o,c≠n+5->j.get? c=some o->g9.get? c=some o:=fun c o z e=>s9.extBut _ _ z (s8.extBut _ _ z (q7 _ e));have P9:bD g9 j.objs.size x y e:=s9.extBut _ _ (IW zl) (s8.extBut _ _ (IW zl) (GY _ rfl));rw [sz] at Z9 P9;refine tv ⟨_,rfl, ?_⟩;show Q (.ref j.objs.size) _;rw [sz];exact q g9 ⟨Z9,up _ _ (kN (by decide)) T7,⟨_,_,_,up _ _ (kN (by decide)) O7⟩,I7.up fun o e=>up _ o (oN (by decide)) e,J7.up fun o e=>up _ o (kN (by decide)) e,L7.up fun o e=>up _ o (kN (by decide)) e⟩ P9 fun c o z F B G Y e=>up c o Y (k7 c o z F B G Y e)
open Builtin.SmallTypes in
theorem C7 {n a b c:Addr} {t u v:Bool} {k:Nat} {xs ys zs:Array h7} {Q:Fin->D0->Prop} (hn:A.handled=none) (la:a < n) (lb:b < n) (lc:c < n)
 (Z:Z3 t u v n a b c .none k s.heap) (ha:Sq t s.heap a xs) (hb:Sq u s.heap b ys) (hc:Sq v s.heap c zs) (U:xs[k]? = none∨ys[k]? = none∨zs[k]? = none)
 (q:∀ h' e,(∀ c o,c≠n->c≠n+1->c≠n+2->c≠n+4->c≠n+5->s.heap.get? c=some o->h'.get? c=some o)->(∃ o,h'.get? e=some o/\o.cls = .type "StopIteration")->E (.ref e) { s with heap:=h' }) :
 Hd (model prog w) A (Jl.«zip.__next__» ⟨[.ref (n+5)],[]⟩) Q E s:=by
 obtain ⟨Y,hT,⟨p1,p2,p3,hO⟩,hi,hj,hl⟩:=Z;refine gV (m:=field (.ref (n+5)) 2) (HH Y rfl (x := .bool false) rfl ?_);refine gV (m:=field (.ref (n+5)) 3) (HH Y rfl (x := .ref (n+3)) rfl ?_);refine gV (Ia hT rfl ?_);refine gV (m:=ownedTupleIsFree (.ref (n+5))) ?_;unfold ownedTupleIsFree;refine gV (HH Y rfl (x := .none) rfl (tv ?_));simp only [if_true];refine gV (IG (gV (HH Y rfl (x := .ref (n+4)) rfl (gV (Hz Y (by simp) fun g1 z1 s1 => ?_)))))
 have Z1:KN g1 (n+5) (n+3) (n+4) .ellipsis:=z1;clear z1;refine gV ?_;simp only [KR,Mt,Jx,LB];refine gV (gV (Jm (gV (m:=nextOf (.ref n)) ?_)));have EJ:At t g1 n a k:=hi.up fun o e=>s1.extBut _ o (oN (by decide)) e
 have EK:Sq t g1 a xs:=ha.up fun o e=>s1.extBut _ o (gN la) e;have fin:∀ {h':Heap} {e:Addr} {o:Obj},(∀ c o,c≠n->c≠n+1->c≠n+2->c≠n+4->c≠n+5->s.heap.get? c=some o->h'.get? c=some o)->KN h' (n+5) (n+3) (n+4) .ellipsis->h'.get? e=some o->o.cls = .type "StopIteration" -> Hd (model prog w) A (setField (.ref (n+5)) 0 .none) (fun _ s'=>E (.ref e) s') E { s with heap:=h' }:=fun {h' e o} kk Z j B=>by
  have ez:e≠n+5:=fun x=>by subst x;rw [Z] at j;cases j;simp at B
  exact Hz Z (by simp) fun g3 _ s3=>q g3 e (fun c o F G J O L x=>s3.extBut _ _ L (kk c o F G J O L x)) ⟨o,s3.extBut _ _ ez j,B⟩
 cases hx:xs[k]? with
 | none =>
   refine nx_end hn EJ EK hx fun g2 e s2 he => ?_;obtain ⟨oe,j,B⟩:=he;exact fin (fun c o F _ _ _ L x=>s2 _ _ F (s1.extBut _ _ L x)) (s2 _ _ (pN (by decide)) Z1) j B
 | some x =>
   refine nx_item EJ EK hx fun g2 EN s2=>tv ?_;have O2:bD g2 (n+4) p1 p2 p3:=s2.extBut _ _ (pN (by decide)) (s1.extBut _ _ (kN (by decide)) hO)
   refine gV (Ia O2 rfl (gV (eR O2 fun g3 o3 s3 => ?_)));have O3:bD g3 (n+4) x p2 p3:=o3;clear o3;have k3:∀ c o,c≠n->c≠n+4->c≠n+5->s.heap.get? c=some o->g3.get? c=some o:=fun c o F G J e=>s3.extBut _ _ G (s2.extBut _ _ F (s1.extBut _ _ J e));have Z3:KN g3 (n+5) (n+3) (n+4) .ellipsis:=s3.extBut _ _ (kN (by decide)) (s2.extBut _ _ (pN (by decide)) Z1)
   refine gV (Ke (tv (gV (gV (Jm (gV (m:=nextOf (.ref (n+1))) ?_))))));have EL:At u g3 (n+1) b k:=hj.up fun o e=>k3 _ o (pN (by decide)) (kN (by decide)) (kN (by decide)) e
   have EM:Sq u g3 b ys:=hb.up fun o e=>k3 _ o (gN (k := 0) lb) (gN lb) (gN lb) e
   cases hy:ys[k]? with
   | none =>
     refine nx_end hn EL EM hy fun g4 e s4 he => ?_;obtain ⟨oe,j,B⟩:=he;exact fin (fun c o F G _ O L x=>s4 _ _ G (k3 c o F O L x)) (s4 _ _ (kN (by decide)) Z3) j B
   | some y =>
     refine nx_item EL EM hy fun g4 EO s4=>tv ?_;have O4:bD g4 (n+4) x p2 p3:=s4.extBut _ _ (kN (by decide)) O3
     refine gV (Ia O4 rfl (gV (eR O4 fun g5 o5 s5 => ?_)));have k5:∀ c o,c≠n->c≠n+1->c≠n+4->c≠n+5->s.heap.get? c=some o->g5.get? c=some o:=fun c o F G J O e=>s5.extBut _ _ J (s4.extBut _ _ G (k3 c o F J O e));have Z5:KN g5 (n+5) (n+3) (n+4) .ellipsis:=s5.extBut _ _ (kN (by decide)) (s4.extBut _ _ (kN (by decide)) Z3)
     refine gV (Ke (tv (gV (gV (Jm (gV (m:=nextOf (.ref (n+2))) ?_))))));refine nx_end hn (hl.up fun o e=>k5 _ o (pN (by decide)) (kN (by decide)) (kN (by decide)) (kN (by decide)) e) (hc.up fun o e=>k5 _ o (gN (k := 0) lc) (gN lc) (gN lc) (gN lc) e) ?_ fun g6 e s6 he => ?_
     ·rcases U with z | z | z
      ·rw [hx] at z;cases z
      ·rw [hy] at z;cases z
      ·exact z
     ·obtain ⟨oe,j,B⟩:=he;exact fin (fun c o F G J O L x=>s6 _ _ J (k5 c o F G O L x)) (s6 _ _ (kN (by decide)) Z5) j B
theorem nxt3_item {n a b c:Addr} {t u v:Bool} {k:Nat} {xs ys zs:Array h7} {x y e:h7} {Q:Option h7->D0->Prop} (la:a < n) (lb:b < n) (lc:c < n)
 (Z:Z3 t u v n a b c .none k s.heap) (j:Sq t s.heap a xs) (B:Sq u s.heap b ys) (G:Sq v s.heap c zs) (hx:xs[k]? = some x) (J:ys[k]? = some y) (he:zs[k]? = some e)
 (q:∀ h',Z3 t u v n a b c (Lu s.heap.objs.size) (k+1) h'->bD h' s.heap.objs.size x y e ->
   (∀ c o,c≠n->c≠n+1->c≠n+2->c≠n+4->c≠n+5->s.heap.get? c=some o->h'.get? c=some o)->Q (some (.ref s.heap.objs.size)) { s with heap:=h' }) :
 Hd (model prog w) A (Kt (.ref (n+5))) Q E s:=by
 have ty:s.TypeIs (.ref (n+5)) "zip" := ⟨_,Z.z,rfl⟩;unfold Kt;exact gV (Jn (HN (name:=Ic "__next__") ty Jy (HX Jy ty LX
  (zY la lb lc Z j B G hx J he fun h' a1 a2 L=>tv (q h' a1 a2 L)) (LC _))))
theorem nxt3_end {n a b c:Addr} {t u v:Bool} {k:Nat} {xs ys zs:Array h7} {Q:Option h7->D0->Prop} (G:A.handled=none) (la:a < n) (lb:b < n) (lc:c < n)
 (Z:Z3 t u v n a b c .none k s.heap) (J:Sq t s.heap a xs) (L:Sq u s.heap b ys) (B:Sq v s.heap c zs) (j:xs[k]? = none∨ys[k]? = none∨zs[k]? = none)
 (q:∀ h',(∀ c o,c≠n->c≠n+1->c≠n+2->c≠n+4->c≠n+5->s.heap.get? c=some o->h'.get? c=some o)->Q none { s with heap:=h' }):Hd (model prog w) A (Kt (.ref (n+5))) Q E s:=by
 have ty:s.TypeIs (.ref (n+5)) "zip" := ⟨_,Z.z,rfl⟩;unfold Kt;refine gV (Jn (HN (name:=Ic "__next__") ty Jy (HX Jy ty LX
  (C7 G la lb lc Z J L B j fun h' e O he => ?_) (LC _))))
 obtain ⟨o,ho,B⟩:=he;exact gV (Jh (T := "StopIteration") (b:=true) ⟨o,ho,B⟩ N2 (tv (q _ O)))
theorem kg (a b c:h7):checkTypeCall "zip" ⟨[a,b,c],[]⟩=pure ():=by kernel_rfl
theorem mF (a b c:h7):Qb "zip.__new__" ⟨[.type "zip",a,b,c],[]⟩=pure ():=by kernel_rfl
theorem fX (a b c d:h7):argsOk "object.__init__" ⟨[a,b,c,d],[]⟩:=by
 unfold argsOk;rw [signature?_of (id := "object.__init__") (n := ['_', '_', 't', 'i', 'n', 'i', '_', '_']) (o := ['t', 'c', 'e', 'j', 'b', 'o']) (by kernel_rfl) F.owner_object];kernel_rfl
noncomputable def yH1 (h:Heap) (a:Addr):Heap:=h.push (itO true a)
noncomputable def yH2 (h:Heap) (a b:Addr):Heap:=(yH1 h a).push (itO false b)
noncomputable def yH3 (h:Heap) (a b c:Addr):Heap:=(yH2 h a b).push (itO true c)
noncomputable def yH4 (h:Heap) (a b c:Addr):Heap:=(yH3 h a b c).push { cls := .type "tuple",data := .seq #[.ref h.objs.size, .ref (yH1 h a).objs.size, .ref (yH2 h a b).objs.size] }
noncomputable def yH5 (h:Heap) (a b c:Addr):Heap:=(yH4 h a b c).push { cls := .type "tuple",data := .seq #[.none, .none, .none] }
noncomputable def yH6 (h:Heap) (a b c:Addr):Heap:=(yH5 h a b c).push { cls := .type "zip",data := .fields #[.none, .bool false, .bool false, .ref (yH3 h a b c).objs.size, .ref (yH4 h a b c).objs.size] }
theorem sg (a b c:Addr) (xs ys zs:Array h7) :
 Meets (Jl.«zip.__new__» ⟨[.type "zip", .ref a, .ref b, .ref c],[]⟩) (fun _ R s=>s.heap.IsTuple a xs/\s.heap.IsList b ys/\s.heap.IsTuple c zs/\R (.ok (.ret (.ref (yH5 s.heap a b c).objs.size))) { s with heap:=yH6 s.heap a b c }) :=
 .of_wp fun prog w A R s h=>by
  obtain ⟨j,g,d,tk,os⟩:=s;obtain ⟨q,z,B,h⟩:=h;have hs:=sub_zip;have e1:KS (Jp ⟨j,g,d,tk,os⟩) a xs:=q;have e2:Nr (Jp ⟨j.push { cls := .type "tuple_iterator",data := .fields #[.ref a, .int 0 0] },g,d,tk,os⟩) b ys:=NI z _;have F:KS (Jp ⟨(j.push { cls := .type "tuple_iterator",data := .fields #[.ref a, .int 0 0] }).push { cls := .type "list_iterator",data := .fields #[.ref b, .int 0 0] },g,d,tk,os⟩) c zs:=LD (LD B _) _
  wp_walk using Iy e1,J4 e2,Iy F
  exact ⟨_,rfl,h⟩
theorem call_zip3 {a b c:Addr} {xs ys zs:Array h7} {Q:h7->D0->Prop} (ha:s.heap.IsTuple a xs) (hb:s.heap.IsList b ys) (hc:s.heap.IsTuple c zs)
 (q:∀ h',Z3 true false true s.heap.objs.size a b c .none 0 h'->(∀ c o,s.heap.get? c=some o->h'.get? c=some o)->Q (.ref (s.heap.objs.size+5)) { s with heap:=h' }) :
 Hd (model prog w) A (call (.type "zip") [.ref a, .ref b, .ref c]) Q E s:=by
 refine PR F.called_zip (by decide) (kg _ _ _) (mF _ _ _) (fun obj=>fX obj _ _ _) QF (sg a b c xs ys zs) ⟨ha,hb,hc, ?_⟩
 have j:(yH1 s.heap a).objs.size=s.heap.objs.size+1:=Ip ..;have z:(yH2 s.heap a b).objs.size=s.heap.objs.size+2:=by unfold yH2;rw [Ip,j]
 have B:(yH3 s.heap a b c).objs.size=s.heap.objs.size+3:=by unfold yH3;rw [Ip,z]
 have G:(yH4 s.heap a b c).objs.size=s.heap.objs.size+4:=by unfold yH4;rw [Ip,B]
 have L:(yH5 s.heap a b c).objs.size=s.heap.objs.size+5:=by unfold yH5;rw [Ip,G]
 have O:∀ {x o},(yH5 s.heap a b c).get? x=some o->(yH6 s.heap a b c).get? x=some o:=fun e=>q7 _ e;have U:∀ {x o},(yH4 s.heap a b c).get? x=some o->(yH6 s.heap a b c).get? x=some o:=fun e=>O (q7 _ e);have Y:∀ {x o},(yH3 s.heap a b c).get? x=some o->(yH6 s.heap a b c).get? x=some o:=fun e=>U (q7 _ e);have Z:∀ {x o},(yH2 s.heap a b).get? x=some o->(yH6 s.heap a b c).get? x=some o:=fun e=>Y (q7 _ e);have k2:∀ {x o},(yH1 s.heap a).get? x=some o->(yH6 s.heap a b c).get? x=some o:=fun e=>Z (q7 _ e);have J:(yH6 s.heap a b c).get? (yH5 s.heap a b c).objs.size=some _:=GY _ rfl;have g5:(yH6 s.heap a b c).get? (yH4 s.heap a b c).objs.size=some _:=O (GY _ rfl);have g4:(yH6 s.heap a b c).get? (yH3 s.heap a b c).objs.size=some _:=U (GY _ rfl);have g3:(yH6 s.heap a b c).get? (yH2 s.heap a b).objs.size=some _:=Y (GY _ rfl);have g2:(yH6 s.heap a b c).get? (yH1 s.heap a).objs.size=some _:=Z (GY _ rfl);have g1:(yH6 s.heap a b c).get? s.heap.objs.size=some _:=k2 (GY _ rfl);rw [B,G,L] at J;rw [G] at g5;rw [j,z,B] at g4;rw [z] at g3;rw [j] at g2;show _/\_;rw [L];exact ⟨⟨_,J,rfl⟩,q _ ⟨J,g4,⟨_,_,_,g5⟩,at_new g1,at_new g2,at_new g3⟩ fun x o e=>k2 (q7 _ e)⟩
end
end Zp
open PySem PySem.Spec PyProof.Rows
noncomputable def xq (K:Frag) (t u v:Bool) (a b c:Addr):It :=
 ⟨fun i H => ∃ xs ys zs x y z,SqV K t H a xs/\SqV K u H b ys/\SqV K v H c zs/\xs[i]? = some x/\ys[i]? = some y/\zs[i]? = some z,
  fun i H r H' => ∃ p x y z,H p=none/\r = .ref p/\H'=upd H p (.tup [x,y,z]) /\ ∀ xs ys zs,SqV K t H a xs->SqV K u H b ys->SqV K v H c zs->xs[i]? = some x/\ys[i]? = some y/\zs[i]? = some z,
  fun i H => ∃ xs ys zs,SqV K t H a xs/\SqV K u H b ys/\SqV K v H c zs/\(xs.length<=i∨ys.length<=i∨zs.length<=i)⟩
theorem uA {P:Hu} {w:HW} {K:Frag} {elts:List Expr} {cx} {pos:Pos} {t u v:Bool} {n a b c:Addr} (la:a < n) (lb:b < n) (lc:c < n) :
 fo P w K (.Tuple elts cx pos) (xq K t u v a b c) [n+5,n+3,n+4,n,n+1,n+2] (n+5) (Zp.Z3 t u v n a b c .none) where
 mem:=by simp
 obj:=fun k h Z x hx=>by
  obtain ⟨p,q,r,G⟩:=Z.O;simp only [Ha,Ht,or_false] at hx
  rcases hx with rfl | rfl | rfl | rfl | rfl | rfl
  ·exact ⟨_,Z.z,fun v e=>by cases e⟩
  ·exact ⟨_,Z.T,fun v e=>by cases e⟩
  ·exact ⟨_,G,fun v e=>by cases e⟩
  ·exact Z.i.lt
  ·exact Z.j.lt
  ·exact Z.l.lt
 keep:=fun k h h' Z kk=>⟨kk _ (by simp) _ Z.z,kk _ (by simp) _ Z.T,let ⟨p,q,r,G⟩:=Z.O; ⟨p,q,r,kk _ (by simp) _ G⟩,Z.i.up fun o e=>kk _ (by simp) o e,Z.j.up fun o e=>kk _ (by simp) o e,Z.l.up fun o e=>kk _ (by simp) o e⟩
 item:=by
  intro X U hw Y J k pins s σ H E I hf Z hg;subst U hw Y;obtain ⟨xs,ys,zs,x,y,z,qx,qy,qz,ex,ey,ez⟩:=hg;obtain ⟨is,rx,px⟩:=I.sqv qx;obtain ⟨js,ry,py⟩:=I.sqv qy;obtain ⟨ks,rz,pz⟩:=I.sqv qz;obtain ⟨ux,EJ,rux⟩:=rx.get ex;obtain ⟨uy,EK,ruy⟩:=ry.get ey;obtain ⟨uz,EL,ruz⟩:=rz.get ez;refine Zp.nxt3_item la lb lc Z px py pz (by simpa using EJ) (by simpa using EK) (by simpa using EL) fun h1 F p1 k1=>⟨_,rfl, ?_⟩
  refine Ng (s := { s with heap:=h1 }) F.z fun h2 z2 s2 => ?_
  have up:∀ c o,c≠n+5->h1.get? c=some o->h2.get? c=some o:=fun c o n e=>s2.extBut _ _ n e;have IL:Inv X pins σ (upd H s.heap.objs.size (.tup [x,y,z])) { s with heap:=s.heap.push { cls := .type "tuple",data := .seq #[ux,uy,uz] },toks:=s.toks } :=
   I.laid (fun b o e=>q7 _ e) (Hc _) ⟨by rw [GU];simp,[ux,uy,uz], .cons rux (.cons ruy (.cons ruz .nil)),LS _ _⟩
  have EM:n+5 < s.heap.objs.size:=Hb Z.z;have fr:∀ c∈[n+5,n+3,n+4,n,n+1,n+2],c < s.heap.objs.size:=fun c B=>by
   simp only [Ha,Ht,or_false] at B
   rcases B with rfl | rfl | rfl | rfl | rfl | rfl <;> first | lia | (simp only [Addr] at *;lia)
  have un:∀ c∈[n+5,n+3,n+4,n,n+1,n+2],upd H s.heap.objs.size (.tup [x,y,z]) c=none:=fun c B=>by
   rw [ak (HQ (fr c B))];exact (hf c B).1
  have kk:∀ c o,c∉[n+5,n+3,n+4,n,n+1,n+2]->(s.heap.push { cls := .type "tuple",data := .seq #[ux,uy,uz] }).get? c=some o->h2.get? c=some o:=fun c o B e=>by
   simp only [Ha,Ht,or_false,not_or] at B
   rcases Mn e with ⟨rfl,rfl⟩ | e
   ·exact up _ _ (IW EM) p1
   ·exact up _ _ B.1 (k1 c o B.2.2.2.1 B.2.2.2.2.1 B.2.2.2.2.2 B.2.2.1 B.1 e)
  have I2:Inv X pins σ (upd H s.heap.objs.size (.tup [x,y,z])) { s with heap:=h2,toks:=s.toks } :=
   (Inv.turnedL (s := { s with heap:=s.heap.push { cls := .type "tuple",data := .seq #[ux,uy,uz] },toks:=s.toks }) (h':=h2) (t':=s.toks) (fp := [n+5,n+3,n+4,n,n+1,n+2]) IL (fun c B=>⟨un c B,(hf c B).2⟩) kk)
  obtain ⟨p,q,r,G⟩:=F.O;refine ⟨.ref s.heap.objs.size,_,I2,rfl,⟨_,x,y,z,I.hok.fresh (Hc _),rfl,rfl,fun xs' ys' zs' q1 q2 q3 => ?_⟩,⟨z2,up _ _ (Zp.kN (by decide)) F.T,⟨p,q,r,up _ _ (Zp.kN (by decide)) G⟩,F.i.up fun o e=>up _ o (Zp.oN (by decide)) e,F.j.up fun o e=>up _ o (Zp.kN (by decide)) e,F.l.up fun o e=>up _ o (Zp.kN (by decide)) e⟩,un⟩
  rw [I.sqv_inj q1 qx,I.sqv_inj q2 qy,I.sqv_inj q3 qz];exact ⟨ex,ey,ez⟩
 done:=by
  intro X U hw Y J k pins s σ H E I hf Z hg;subst U hw Y;obtain ⟨xs,ys,zs,qx,qy,qz,L⟩:=hg;obtain ⟨is,rx,px⟩:=I.sqv qx;obtain ⟨js,ry,py⟩:=I.sqv qy;obtain ⟨ks,rz,pz⟩:=I.sqv qz;have lx:=rx.length;have ly:=ry.length;have lz:=rz.length;refine Zp.nxt3_end (I.ok.hd J) la lb lc Z px py pz (L.imp (fun e=>by simp;lia) (fun e=>e.imp (fun e=>by simp;lia) (fun e=>by simp;lia))) fun h1 k1=>⟨rfl,I.turnedL (t':=s.toks) hf fun c o B e => ?_⟩
  simp only [Ha,Ht,or_false,not_or] at B;exact k1 c o B.2.2.2.1 B.2.2.2.2.1 B.2.2.2.2.2 B.2.2.1 B.1 e
 self:=fun A k s Q E Z h=>LY Z.z h
section
variable {X:Cx}
noncomputable def DE (K:Frag) (ta:TA):TI:=fun σ H R=>ta σ H fun vs H1 => ∃ a b c xs ys zs,vs=[.ref a, .ref b, .ref c]/\SqT K H1 a xs/\SqL K H1 b ys/\SqT K H1 c zs/\R (xq K true false true a b c) H1
theorem zZ {elts:List Expr} {cx} {pos p pos':Pos} {a b c:Expr} {ta:TA} (G:Gl X "zip") (hm:X.mg "zip" = none) (J:PA X [a,b,c] ta) (hs:Hv [a,b,c] X.env=[(false,eval a X.env),(false,eval b X.env),(false,eval c X.env)]) (B:Hv [b,c] X.env=[(false,eval b X.env),(false,eval c X.env)]) :
 PI X (.Tuple elts cx pos) (.Call (.Name "zip" p) [a,b,c] [] pos') (DE X.K ta):=by
 intro pins s σ H R I h;refine Call_ (dM I G hm (u := .type "zip") (by decide +kernel) (J2 (thn (J pos' pins s σ H _ I h) fun us s1 ⟨vs,H1,j,L,O⟩ => ?_) (by rw [hs,B]) (by rw [B];rfl)))
 obtain ⟨a',b',c',xs,ys,zs,rfl,qx,qy,qz,q⟩:=O
 cases L with
 | cons r rr =>
   cases rr with
   | cons r' rr =>
     cases rr with
     | cons r'' rr =>
       cases rr
       cases r
       cases r'
       cases r''
       obtain ⟨is,rx,px,_⟩:=j.tuple qx;obtain ⟨js,ry,py,_⟩:=j.list qy;obtain ⟨ks,rz,pz,_⟩:=j.tuple qz;refine Zp.call_zip3 px py.isList pz fun h1 F U => ?_;refine LY F.z ?_;have la:a' < s1.heap.objs.size:=by obtain ⟨o,e,_⟩:=px;exact Hb e
       have lb:b' < s1.heap.objs.size:=by obtain ⟨o,e,_⟩:=py.isList;exact Hb e
       have lc:c' < s1.heap.objs.size:=by obtain ⟨o,e,_⟩:=pz;exact Hb e
       refine ⟨_,_,_,_,H1,rfl,j.kept (t':=s1.toks) U,uA (t:=true) (u:=false) (v:=true) la lb lc,F,fun x hx => ?_,q⟩;have hle:s1.heap.objs.size<=x:=by
        simp only [Ha,Ht,or_false] at hx
        rcases hx with rfl | rfl | rfl | rfl | rfl | rfl <;> lia
       exact j.fpOk hle (j.hok.fresh hle)
end
end L2
namespace L2
namespace En
open PySem PySem.Spec PyProof.Rows
section
variable {prog:Hu} {w:HW} {A:Ib} {E:h7->D0->Prop} {s:D0}
open Builtin.SmallTypes Zp in
theorem C8 {z i a:Addr} {t:Bool} {k:Nat} {xs:Array h7} {x old:h7} {Q:h7->D0->Prop} (U:Ob s.heap z i k old) (hi:At t s.heap i a k) (ha:Sq t s.heap a xs) (hx:xs[k]? = some x) (j:z≠i)
 (q:∀ h',Qc h' z i ((k:Int)+1) x s.heap.objs.size->At t h' i a (k+1)->h'.get? s.heap.objs.size=some { cls := .type "tuple",data := .seq #[.int k s.toks,x] } ->
   (∀ b o,b≠z->b≠i->s.heap.get? b=some o->h'.get? b=some o)->Q (.ref s.heap.objs.size) { s with heap:=h',toks:=s.toks+1 }) :
 Hd (model prog w) A (Jl.«enumerate.__next__» ⟨[.ref z],[]⟩) (fun fin s' => ∃ v,fin = .done (.ret v)/\Q v s') E s:=by
 obtain ⟨B,g,d,tk,os⟩:=s;refine gV (m:=field (.ref z) 2) (HH U rfl (x := .ref i) rfl (gV (nx_item hi ha hx fun g1 i1 s1 => ?_)));have S1:IJ i B g1:=s1;clear s1;have Y:Ob g1 z i k old:=(S1.2 z j).trans U;refine gV (m:=field (.ref z) 3) (HH (s:=⟨g1,g,d,tk,os⟩) Y rfl (x:=Lu k) rfl ?_);refine gV (m:=field (.ref z) 4) (HH (s:=⟨g1,g,d,tk,os⟩) Y rfl (x := .none) rfl ?_);refine gV (m:=mkInt k) (wpAny_mkInt ?_);refine gV (m:=setField (.ref z) 3 (Lu ((k:Int)+1))) (Hz (s:=⟨g1,g,d,tk+1,os⟩) Y (by simp) fun g2 z2 s2 => ?_)
 have Z:IJ z g1 g2:=s2;have Z2:Ob g2 z i ((k:Int)+1) old:=z2;clear s2 z2;refine gV (m:=setField (.ref z) 4 .none) (Hz (s:=⟨g2,g,d,tk+1,os⟩) Z2 (by simp) fun g3 z3 s3 => ?_)
 have S3:IJ z g2 g3:=s3;have Z3:Ob g3 z i ((k:Int)+1) old:=z3;clear s3 z3;refine gV (m:=newTuple [.int k tk,x]) (N1 ?_);have G:Ob (g3.push { cls := .type "tuple",data := .seq #[.int k tk,x] }) z i ((k:Int)+1) old:=q7 _ Z3;have sz:g3.objs.size=B.objs.size:=by rw [S3.1,Z.1,S1.1]
 have zl:z < B.objs.size:=Hb U;have T4:(g3.push { cls := .type "tuple",data := .seq #[.int k tk,x] }).get? B.objs.size=some { cls := .type "tuple",data := .seq #[.int k tk,x] }:=by rw [<- sz];exact GY _ rfl
 have K4:∀ b o,b≠z->b≠i->B.get? b=some o->(g3.push { cls := .type "tuple",data := .seq #[.int k tk,x] }).get? b=some o:=fun b o bz bi e =>
  q7 _ (S3.extBut b o bz (Z.extBut b o bz (S1.extBut b o bi e)))
 have I4:At t (g3.push { cls := .type "tuple",data := .seq #[.int k tk,x] }) i a (k+1):=i1.up fun o e=>q7 _ (S3.extBut i o j.symm (Z.extBut i o j.symm e));rw [sz];generalize g3.push { cls := .type "tuple",data := .seq #[.int k tk,x] }=F at G T4 K4 I4;refine gV (m:=ownedTupleIsFree (.ref z)) ?_;unfold ownedTupleIsFree;refine gV (HH (s:=⟨F,g,d,tk+1,os⟩) G rfl (x := .none) rfl (tv ?_));simp only [if_true];refine gV (IG (gV (HH (s:=⟨F,g,d,tk+1,os⟩) G rfl (x:=old) rfl (gV (Hz (s:=⟨F,g,d,tk+1,os⟩) G (by simp) fun J z5 s5 => ?_)))))
 have S5:IJ z F J:=s5;have Z5:Ob J z i ((k:Int)+1) x:=z5;clear s5 z5;refine gV (m:=ownedTupleHandOut (.ref z) (.ref B.objs.size)) ?_;unfold ownedTupleHandOut;refine gV (Hz (s:=⟨J,g,d,tk+1,os⟩) Z5 (by simp) fun L z6 s6 => ?_)
 have S6:IJ z J L:=s6;have Z6:Qc L z i ((k:Int)+1) x B.objs.size:=z6;clear s6 z6;refine Hz (s:=⟨L,g,d,tk+1,os⟩) Z6 (by simp) fun O z7 s7 => ?_
 have S7:IJ z L O:=s7;have Z7:Qc O z i ((k:Int)+1) x B.objs.size:=z7;clear s7 z7;have up:∀ b o,b≠z->F.get? b=some o->O.get? b=some o:=fun b o bz e=>S7.extBut b o bz (S6.extBut b o bz (S5.extBut b o bz e));exact gV (Ke (tv ⟨_,rfl,q O Z7 (I4.up fun o e=>up i o j.symm e) (up _ _ (IW zl) T4) fun b o bz bi e=>up b o bz (K4 b o bz bi e)⟩))
theorem nxt_item {z i a:Addr} {t:Bool} {k:Nat} {xs:Array h7} {x old:h7} {Q:Option h7->D0->Prop} (B:Ob s.heap z i k old) (hi:Zp.At t s.heap i a k) (G:Zp.Sq t s.heap a xs) (hx:xs[k]? = some x) (j:z≠i)
 (q:∀ h',Qc h' z i ((k:Int)+1) x s.heap.objs.size->Zp.At t h' i a (k+1)->h'.get? s.heap.objs.size=some { cls := .type "tuple",data := .seq #[.int k s.toks,x] } ->
   (∀ b o,b≠z->b≠i->s.heap.get? b=some o->h'.get? b=some o)->Q (some (.ref s.heap.objs.size)) { s with heap:=h',toks:=s.toks+1 }) :
 Hd (model prog w) A (Kt (.ref z)) Q E s:=by
 have ty:s.TypeIs (.ref z) "enumerate" := ⟨_,B,rfl⟩;unfold Kt;exact gV (Jn (HN (name:=Ic "__next__") ty Ku (HX Ku ty Oc
  (C8 B hi G hx j fun h' a1 a2 J L=>tv (q h' a1 a2 J L)) (NJ _))))
theorem nxt_end {z i a:Addr} {t:Bool} {k:Nat} {xs:Array h7} {old:h7} {Q:Option h7->D0->Prop} (B:A.handled=none) (j:Ob s.heap z i k old) (hi:Zp.At t s.heap i a k) (G:Zp.Sq t s.heap a xs) (hx:xs[k]? = none)
 (q:∀ h',Qt i s.heap h'->Q none { s with heap:=h' }):Hd (model prog w) A (Kt (.ref z)) Q E s:=by
 have ty:s.TypeIs (.ref z) "enumerate" := ⟨_,j,rfl⟩;unfold Kt;refine gV (Jn (HN (name:=Ic "__next__") ty Ku (HX Ku ty Oc ?_ (NJ _))));refine gV (m:=field (.ref z) 2) (HH j rfl (x := .ref i) rfl (gV (Zp.nx_end B hi G hx fun h' x he hs => ?_)));obtain ⟨o,ho,J⟩:=hs;exact gV (Jh (T := "StopIteration") (b:=true) ⟨o,ho,J⟩ N2 (tv (q _ he)))
open AutoSeq1 (wpAny_loadPart') in
theorem A0 (l:Addr) (items:Array h7) (n:Nat) (dct:Option Addr) (sl:Array (Option h7)) :
 Meets (Jl.«enumerate.__new__» ⟨[.type "enumerate", .ref l],[]⟩) (fun _ R s=>s.heap.get? l=some { cls := .type "tuple",dict:=dct,data := .seq items n,slots:=sl } /\
  R (.ok (.ret (.ref (s.heap.push (Zp.itO true l)).objs.size))) { s with heap:=(s.heap.push (Zp.itO true l)).push { cls := .type "enumerate",data := .fields #[.none, .bool false, .ref s.heap.objs.size,Lu 0, .none, .none] } }) :=
 .of_wp fun prog w A R s h=>by
  obtain ⟨B,g,d,tk,os⟩:=s;obtain ⟨j,h⟩:=h;have q:=sub_enumerate;have z:KS (Jp ⟨B,g,d,tk,os⟩) l items:=⟨_,j,rfl,n,rfl⟩
  wp_walk using Ko j
  refine wpAny_stack_any fun st=>tv ?_
  split
  ·rename_i c _ _ _ _ _
   cases (c==ID "enumerate") <;> (wp_walk using Ko j,Iy z;exact ⟨_,rfl,h⟩)
  ·wp_walk using Ko j,Iy z
   exact ⟨_,rfl,h⟩
theorem call_enum {t:Bool} {l:Addr} {items:Array h7} {Q:h7->D0->Prop} (B:Zp.Sq t s.heap l items)
 (q:∀ h',Ob h' (s.heap.objs.size+1) s.heap.objs.size 0 .none->Zp.At t h' s.heap.objs.size l 0->(∀ b o,s.heap.get? b=some o->h'.get? b=some o)->Q (.ref (s.heap.objs.size+1)) { s with heap:=h' }) :
 Hd (model prog w) A (call (.type "enumerate") [.ref l]) Q E s:=by
 cases t with
 | false=>exact call_enumerate_list B fun h' a b _ k=>q h' a b k
 | true =>
   obtain ⟨⟨c,dct,dt,sl⟩,J,L,n,hd⟩:=B;have j:c = .type "tuple" := L;have z:dt = .seq items n:=hd;subst j z;refine PR F.called_enumerate (by decide) (F.typeCall_enumerate_1 _) (F.newCall_enumerate_1 _) (fun obj=>F.args_object_init_2 obj _) F.entry_enumerate_new (A0 l items n dct sl) ⟨J, ?_⟩
   have G:(s.heap.push (Zp.itO true l)).objs.size=s.heap.objs.size+1:=Ip ..;have e:((s.heap.push (Zp.itO true l)).push { cls := .type "enumerate",data := .fields #[.none, .bool false, .ref s.heap.objs.size,Lu 0, .none, .none] }).get? (s.heap.push (Zp.itO true l)).objs.size=some _:=GY _ rfl;rw [G] at e;show _/\_;rw [G];exact ⟨⟨_,e,rfl⟩,q _ e (Zp.at_new (q7 _ (GY _ rfl))) fun b o x=>q7 _ (q7 _ x)⟩
end
end En
open PySem PySem.Spec PyProof.Rows
noncomputable def Ite (K:Frag) (t:Bool) (a:Addr):It :=
 ⟨fun i H => ∃ xs x,SqV K t H a xs/\xs[i]? = some x,
  fun i H v H' => ∃ p x,H p=none/\v = .ref p/\H'=upd H p (.tup [.int (i:Nat),x]) /\ ∀ xs,SqV K t H a xs->xs[i]? = some x,
  fun i H => ∃ xs,SqV K t H a xs/\xs.length<=i⟩
theorem uB {P:Hu} {w:HW} {K:Frag} {elts:List Expr} {cx} {pos:Pos} {t:Bool} {z i a:Addr} (B:z≠i) :
 fo P w K (.Tuple elts cx pos) (Ite K t a) [z,i] z (fun k h=>(∃ old,Ob h z i k old)/\Zp.At t h i a k) where
 mem:=by simp
 obj:=fun k h ⟨⟨old,q⟩,hi⟩ c j=>by
  simp only [Ha,Ht,or_false] at j
  rcases j with rfl | rfl
  ·exact ⟨_,q,fun v e=>by cases e⟩
  ·exact hi.lt
 keep:=fun k h h' ⟨⟨old,q⟩,hi⟩ kk=>⟨⟨old,kk z (by simp) _ q⟩,hi.up fun o e=>kk i (by simp) o e⟩
 item:=by
  intro X F hw G j k pins s σ H E I hf st hg;subst F hw G;obtain ⟨⟨old,q⟩,hi⟩:=st;obtain ⟨xs,x,qx,ex⟩:=hg;obtain ⟨is,rx,px⟩:=I.sqv qx;obtain ⟨ux,J,rux⟩:=rx.get ex;refine En.nxt_item q hi px (by simpa using J) B fun h1 Y Z p1 L=>⟨_,rfl, ?_⟩
  refine wpAny_letOwnedTupleGo_enum (s := { s with heap:=h1,toks:=s.toks+1 }) Y fun h2 z2 s2 => ?_
  have lt:∀ {c o},s.heap.get? c=some o->c≠s.heap.objs.size:=fun e=>HQ (Hb e);have nz:s.heap.objs.size≠z:=(lt q).symm;have O:∃ o,s.heap.get? i=some o:=hi.lt.imp fun _ h=>h.1;have up:∀ c o,c≠z->h1.get? c=some o->h2.get? c=some o:=fun c o n e=>s2.extBut _ _ n e;have IL:Inv X pins σ (upd H s.heap.objs.size (.tup [.int (k:Nat),x])) { s with heap:=s.heap.push { cls := .type "tuple",data := .seq #[.int k s.toks,ux] },toks:=s.toks+1 } :=
   I.laid (fun b o e=>q7 _ e) (Hc _) ⟨by rw [GU];simp,[.int k s.toks,ux], .cons ⟨_,rfl⟩ (.cons rux .nil),LS _ _⟩
  have fr:∀ c∈[z,i],c≠s.heap.objs.size:=fun c j=>by
   simp only [Ha,Ht,or_false] at j
   rcases j with rfl | rfl
   ·exact lt q
   ·obtain ⟨o,e⟩:=O;exact lt e
  have un:∀ c∈[z,i],upd H s.heap.objs.size (.tup [.int (k:Nat),x]) c=none:=fun c j=>by
   rw [ak (fr c j)];exact (hf c j).1
  have kk:∀ c o,c∉[z,i]->(s.heap.push { cls := .type "tuple",data := .seq #[.int k s.toks,ux] }).get? c=some o->h2.get? c=some o:=fun c o j e=>by
   simp only [Ha,Ht,or_false,not_or] at j
   rcases Mn e with ⟨rfl,rfl⟩ | e
   ·exact up _ _ nz p1
   ·exact up _ _ j.1 (L c o j.1 j.2 e)
  have I2:Inv X pins σ (upd H s.heap.objs.size (.tup [.int (k:Nat),x])) { s with heap:=h2,toks:=s.toks+1 } :=
   Inv.turnedL (s := { s with heap:=s.heap.push { cls := .type "tuple",data := .seq #[.int k s.toks,ux] },toks:=s.toks+1 }) (h':=h2) (t':=s.toks+1) (fp := [z,i]) IL (fun c j=>⟨un c j,(hf c j).2⟩) kk
  refine ⟨.ref s.heap.objs.size,_,I2,rfl,⟨_,x,I.hok.fresh (Hc _),rfl,rfl,fun xs' q1 => ?_⟩,⟨⟨ux,by simpa using z2⟩,Z.up fun o e=>up _ o B.symm e⟩,un⟩
  rw [I.sqv_inj q1 qx];exact ex
 done:=by
  intro X F hw G j k pins s σ H E I hf st hg;subst F hw G;obtain ⟨⟨old,q⟩,hi⟩:=st;obtain ⟨xs,qx,U⟩:=hg;obtain ⟨is,rx,px⟩:=I.sqv qx;have lx:=rx.length;refine En.nxt_end (I.ok.hd j) q hi px (by simp;lia) fun h1 L=>⟨rfl,I.turnedL (t':=s.toks) hf fun c o j e => ?_⟩
  simp only [Ha,Ht,or_false,not_or] at j;exact L c o j.2 e
 self:=fun A k s Q E ⟨⟨old,q⟩,_⟩ h=>PU q h
section
variable {X:Cx}
noncomputable def DF (K:Frag) (ta:TA):TI:=fun σ H R=>ta σ H fun vs H1 => ∃ a t xs,vs=[.ref a]/\SqV K t H1 a xs/\R (Ite K t a) H1
theorem A1 {elts:List Expr} {cx} {pos p pos':Pos} {a:Expr} {ta:TA} (F:Gl X "enumerate") (hm:X.mg "enumerate" = none) (G:PA X [a] ta) (hs:Hv [a] X.env=[(false,eval a X.env)]) :
 PI X (.Tuple elts cx pos) (.Call (.Name "enumerate" p) [a] [] pos') (DF X.K ta):=by
 intro pins s σ H R I h;refine Call_ (dM I F hm (u := .type "enumerate") boot_enumerate (J2 (thn (G pos' pins s σ H _ I h) fun us s1 ⟨vs,H1,j,J,L⟩ => ?_) hs rfl));obtain ⟨a',t,xs,rfl,qx,q⟩:=L
 cases J with
 | cons r rr =>
   cases rr
   cases r
   obtain ⟨is,rx,px⟩:=j.sqv qx;refine En.call_enum px fun h1 z O U => ?_;refine PU z ?_;refine ⟨_,_,_,_,H1,rfl,j.kept (t':=s1.toks) U,uB (t:=t) (a:=a') (by simp),⟨⟨_,z⟩,O⟩,fun c B => ?_,q⟩
   have hle:s1.heap.objs.size<=c:=by
    simp only [Ha,Ht,or_false] at B
    rcases B with rfl | rfl <;> lia
   exact j.fpOk hle (j.hok.fresh hle)
end
end L2
namespace L2
namespace Rv
open PySem PySem.Spec PyProof.Rows
end Rv
open PySem PySem.Spec PyProof.Rows
end L2
namespace L2
namespace Mi
open PySem PySem.Spec PyProof.Rows
section
inductive D where
 | non | bl (b:Bool) | int (i:Int) | str (x:Str) | tup (ds:List D) | con (ds:List D) | ref (a:Addr)
inductive O where
 | lst (ds:List D)
 | dct (t:Bool) (kvs:List (D×D))
 | fdc (kvs:List (D×D))
noncomputable abbrev Mem:=Addr->Option O
noncomputable def fz:Option O->Bool
 | some (.lst _)=>false
 | some (.dct _ _)=>false
 | _=>true
noncomputable abbrev av:=List (Option D)
noncomputable def ag (M:Mem) (a:Addr) (o:O):Mem:=fun b=>if b=a then some o else M b
theorem ad {M:Mem} {a:Addr} {o:O}:ag M a o a=some o:=by unfold ag;rw [if_pos rfl]
theorem aK {M:Mem} {a b:Addr} {o:O} (h:b≠a):ag M a o b=M b:=by unfold ag;rw [if_neg h]
def SqF (K:Frag) (H:Hp) (a:Addr) (xs:List V):Prop :=
 (∃ o,H a=some (.frz o (.lst xs))) ∨
  ∃ (o:Obj) (its:Array h7) (n:Nat),K.lookup a=some o/\o.cls = .type "list" /\ o.dict=none/\o.data = .seq its n/\its.size<=GX/\Vals xs its.toList
theorem SqF.sq {K:Frag} {H:Hp} {a:Addr} {xs:List V} (h:SqF K H a xs):SqL K H a xs:=by
 rcases h with ⟨o,h⟩ | h
 ·exact .inl (.inr ⟨o,h⟩)
 ·exact .inr h
noncomputable def fk2:Bool:=false
noncomputable def fk:List D->Bool
 | [.int _, .int _, .int _] => true
 | [.tup _,_] => true
 | [.int _,_] => fk2
 | _=>false
def TupR (K:Frag) (H:Hp) (ds:List D) (a:Addr) (vs:List V):Prop:=H a=some (.tup vs)∨(fk ds=false/\SqT K H a vs)
theorem TupR.sq {K:Frag} {H:Hp} {ds:List D} {a:Addr} {vs:List V} (h:TupR K H ds a vs):SqT K H a vs:=h.elim SqT.of (·.2)
mutual
noncomputable def RD (K:Frag) (H:Hp):D->V->Prop
 | .non,v=>v = .non
 | .bl b,v=>v = .bl b
 | .int i,v=>v = .int i
 | .str x,v=>v = .str x
 | .tup ds,v => ∃ a vs,v = .ref a/\TupR K H ds a vs/\RDs K H ds vs
 | .con ds,v => ∃ a vs,v = .ref a/\SqF K H a vs/\RDs K H ds vs
 | .ref a,v=>v = .ref a
noncomputable def RDs (K:Frag) (H:Hp):List D->List V->Prop
 | [],vs=>vs=[]
 | d::ds,vs => ∃ v r,vs=v::r/\RD K H d v/\RDs K H ds r
end
structure Stab (H H':Hp):Prop where
 tup:∀ a xs,H a=some (.tup xs)->H' a=some (.tup xs)
 frz:∀ a o u,H a=some (.frz o u)->H' a=some (.frz o u)
theorem Stab.sqT {K:Frag} {H H':Hp} (st:Stab H H') {a:Addr} {xs:List V} (h:SqT K H a xs):SqT K H' a xs:=by
 rcases h with (h | ⟨o,h⟩) | h
 ·exact .inl (.inl (st.tup _ _ h))
 ·exact .inl (.inr ⟨o,st.frz _ _ _ h⟩)
 ·exact .inr h
theorem Stab.sqF {K:Frag} {H H':Hp} (st:Stab H H') {a:Addr} {xs:List V} (h:SqF K H a xs):SqF K H' a xs:=by
 rcases h with ⟨o,h⟩ | h
 ·exact .inl ⟨o,st.frz _ _ _ h⟩
 ·exact .inr h
mutual
theorem RD.mono {K:Frag} {H H':Hp} (st:Stab H H'):∀ {d:D} {v:V},RD K H d v->RD K H' d v
 | .non,_,h=>h
 | .bl _,_,h=>h
 | .int _,_,h=>h
 | .str _,_,h=>h
 | .tup ds,v,h=>by
  unfold RD at h ⊢;obtain ⟨a,vs,e,q,r⟩:=h;exact ⟨a,vs,e,q.imp (st.tup _ _) (fun z=>⟨z.1,st.sqT z.2⟩),RDs.mono st r⟩
 | .con ds,v,h=>by
  unfold RD at h ⊢;obtain ⟨a,vs,e,q,r⟩:=h;exact ⟨a,vs,e,st.sqF q,RDs.mono st r⟩
 | .ref _,_,h=>h
theorem RDs.mono {K:Frag} {H H':Hp} (st:Stab H H'):∀ {ds:List D} {vs:List V},RDs K H ds vs->RDs K H' ds vs
 | [],_,h=>h
 | d::ds,vs,h=>by
   unfold RDs at h ⊢;obtain ⟨v,r,e,h1,h2⟩:=h;exact ⟨v,r,e,RD.mono st h1,RDs.mono st h2⟩
end
section
variable {K:Frag} {H H':Hp}
theorem Rj {i:Int} {v:V}:RD K H (.int i) v↔v = .int i:=by unfold RD;exact QP
theorem Rm {b:Bool} {v:V}:RD K H (.bl b) v↔v = .bl b:=by unfold RD;exact QP
theorem Rr {v:V}:RD K H .non v↔v = .non:=by unfold RD;exact QP
theorem Rt {x:Str} {v:V}:RD K H (.str x) v↔v = .str x:=by unfold RD;exact QP
theorem Rk {a:Addr} {v:V}:RD K H (.ref a) v↔v = .ref a:=by unfold RD;exact QP
theorem Rx {ds:List D} {v:V}:RD K H (.tup ds) v ↔ ∃ a vs,v = .ref a/\TupR K H ds a vs/\RDs K H ds vs:=by rw [RD]
theorem Rw {ds:List D} {v:V} (h:∃ a vs,v = .ref a/\H a=some (.tup vs)/\RDs K H ds vs):RD K H (.tup ds) v:=Rx.mpr (let ⟨a,vs,e,h,r⟩:=h; ⟨a,vs,e, .inl h,r⟩)
theorem Ro {ds:List D} {v:V} (h:RD K H (.tup ds) v):∃ a vs,v = .ref a/\SqT K H a vs/\RDs K H ds vs:=let ⟨a,vs,e,h,r⟩:=Rx.mp h; ⟨a,vs,e,h.sq,r⟩
theorem RB {ds:List D} {v:V} (f:fk ds=true) (h:RD K H (.tup ds) v):∃ a vs,v = .ref a/\H a=some (.tup vs)/\RDs K H ds vs:=let ⟨a,vs,e,h,r⟩:=Rx.mp h; ⟨a,vs,e,h.elim id fun z=>(by rw [f] at z;cases z.1),r⟩
theorem Rq {ds:List D} {v:V}:RD K H (.con ds) v ↔ ∃ a vs,v = .ref a/\SqF K H a vs/\RDs K H ds vs:=by rw [RD]
theorem RDs.nil_iff {vs:List V}:RDs K H [] vs↔vs=[]:=by rw [RDs]
theorem Rl {d:D} {ds:List D} {vs:List V}:RDs K H (d::ds) vs ↔ ∃ v r,vs=v::r/\RD K H d v/\RDs K H ds r:=by rw [RDs]
theorem RDs.nil:RDs K H [] []:=RDs.nil_iff.mpr rfl
theorem RDs.cons {d:D} {ds:List D} {v:V} {vs:List V} (h:RD K H d v) (r:RDs K H ds vs):RDs K H (d::ds) (v::vs):=Rl.mpr ⟨v,vs,rfl,h,r⟩
theorem RDs.length:∀ {ds:List D} {vs:List V},RDs K H ds vs->vs.length=ds.length
 | [],_,h=>by rw [RDs.nil_iff.mp h];rfl
 | d::ds,_,h=>by
   obtain ⟨v,r,rfl,_,h2⟩:=Rl.mp h;simp [RDs.length h2]
theorem RDs.get:∀ {ds:List D} {vs:List V} {i:Nat} {d:D},RDs K H ds vs->ds[i]? = some d -> ∃ v,vs[i]? = some v/\RD K H d v
 | [],_,_,_,_,e=>by simp at e
 | d::ds,_,0,d',h,e=>by
   obtain ⟨v,r,rfl,h1,h2⟩:=Rl.mp h;simp at e;subst e;exact ⟨v,rfl,h1⟩
 | d::ds,_,i+1,d',h,e=>by
   obtain ⟨v,r,rfl,h1,h2⟩:=Rl.mp h;obtain ⟨u,j,q⟩:=RDs.get (i:=i) (d:=d') h2 (by simpa using e)
   exact ⟨u,by simpa using j,q⟩
theorem RDs.getV {ds:List D} {vs:List V} {i:Nat} {v:V} (h:RDs K H ds vs) (e:vs[i]? = some v):∃ d,ds[i]? = some d/\RD K H d v:=by
 have z:=h.length;have hi:i < vs.length:=(Ho.mp e).1;obtain ⟨d,hd⟩:∃ d,ds[i]? = some d:=⟨ds[i]'(by lia),D1 (by lia)⟩
 obtain ⟨u,j,q⟩:=h.get hd;rw [e] at j;cases j;exact ⟨d,hd,q⟩
theorem RDs.append:∀ {ds es:List D} {vs us:List V},RDs K H ds vs->RDs K H es us->RDs K H (ds++es) (vs++us)
 | [],_,_,_,h,q=>by rw [RDs.nil_iff.mp h];exact q
 | d::ds,_,_,_,h,q=>by
   obtain ⟨v,r,rfl,h1,h2⟩:=Rl.mp h;exact RDs.cons h1 (RDs.append h2 q)
theorem RDs.take:∀ {ds:List D} {vs:List V} (n:Nat),RDs K H ds vs->RDs K H (ds.take n) (vs.take n)
 | [],_,n,h=>by rw [RDs.nil_iff.mp h];simp;exact RDs.nil
 | _::_,_,0,h=>by simp;exact RDs.nil
 | d::ds,_,n+1,h=>by
   obtain ⟨v,r,rfl,h1,h2⟩:=Rl.mp h;exact RDs.cons h1 (RDs.take n h2)
theorem RDs.drop:∀ {ds:List D} {vs:List V} (n:Nat),RDs K H ds vs->RDs K H (ds.drop n) (vs.drop n)
 | [],_,n,h=>by rw [RDs.nil_iff.mp h];simp;exact RDs.nil
 | d::ds,_,0,h=>h
 | d::ds,_,n+1,h=>by
   obtain ⟨v,r,rfl,h1,h2⟩:=Rl.mp h;exact RDs.drop n h2
theorem RDs.set:∀ {ds:List D} {vs:List V} (n:Nat) {d:D} {v:V},RD K H d v->RDs K H ds vs->RDs K H (ds.set n d) (vs.set n v)
 | [],_,n,_,_,_,h=>by rw [RDs.nil_iff.mp h];exact RDs.nil
 | d::ds,_,0,_,_,q,h=>by
   obtain ⟨v,r,rfl,h1,h2⟩:=Rl.mp h;exact RDs.cons q h2
 | d::ds,_,n+1,_,_,q,h=>by
   obtain ⟨v,r,rfl,h1,h2⟩:=Rl.mp h;exact RDs.cons h1 (RDs.set n q h2)
theorem RDs.reverse {ds:List D} {vs:List V} (h:RDs K H ds vs):RDs K H ds.reverse vs.reverse:=by
 induction ds generalizing vs with
 | nil=>rw [RDs.nil_iff.mp h];exact RDs.nil
 | cons d ds ih =>
   obtain ⟨v,r,rfl,h1,h2⟩:=Rl.mp h;rw [Kz,Kz];exact (ih h2).append (RDs.cons h1 RDs.nil)
theorem RDs.rep {ds:List D} {vs:List V} (h:RDs K H ds vs):∀ k:Nat,RDs K H (Hm k ds).flatten (Hm k vs).flatten
 | 0=>RDs.nil
 | k+1=>by
   rw [IC,IC,Io,Io];exact h.append (h.rep k)
theorem RDs.ints:∀ (ns:List Int),RDs K H (ns.map D.int) (ns.map V.int)
 | [] => RDs.nil
 | n::ns=>RDs.cons (Rj.mpr rfl) (RDs.ints ns)
end
mutual
noncomputable def D.eqb:D->D->Bool
 | .non, .non=>true
 | .bl a, .bl b=>a==b
 | .int a, .int b=>decide (a=b)
 | .str a, .str b=>decide (a=b)
 | .tup a, .tup b=>D.eqbs a b
 | .con a, .con b=>D.eqbs a b
 | .ref a, .ref b=>decide (a=b)
 | _,_=>false
noncomputable def D.eqbs:List D->List D->Bool
 | [],[] => true
 | a::r,b::s=>D.eqb a b&&D.eqbs r s
 | _,_=>false
end
mutual
theorem RG:∀ (a b:D),D.eqb a b=true->a=b
 | .non, .non,_=>rfl
 | .bl a, .bl b,h=>by simp [D.eqb] at h;rw [h]
 | .int a, .int b,h=>by simp [D.eqb] at h;rw [h]
 | .str a, .str b,h=>by simp [D.eqb] at h;rw [h]
 | .tup a, .tup b,h=>by simp [D.eqb] at h;rw [RA a b h]
 | .con a, .con b,h=>by simp [D.eqb] at h;rw [RA a b h]
 | .ref a, .ref b,h=>by simp [D.eqb] at h;rw [h]
 | .non, .bl _,h=>by simp [D.eqb] at h
 | .non, .int _,h=>by simp [D.eqb] at h
 | .non, .str _,h=>by simp [D.eqb] at h
 | .non, .tup _,h=>by simp [D.eqb] at h
 | .non, .con _,h=>by simp [D.eqb] at h
 | .non, .ref _,h=>by simp [D.eqb] at h
 | .bl _, .non,h=>by simp [D.eqb] at h
 | .bl _, .int _,h=>by simp [D.eqb] at h
 | .bl _, .str _,h=>by simp [D.eqb] at h
 | .bl _, .tup _,h=>by simp [D.eqb] at h
 | .bl _, .con _,h=>by simp [D.eqb] at h
 | .bl _, .ref _,h=>by simp [D.eqb] at h
 | .int _, .non,h=>by simp [D.eqb] at h
 | .int _, .bl _,h=>by simp [D.eqb] at h
 | .int _, .str _,h=>by simp [D.eqb] at h
 | .int _, .tup _,h=>by simp [D.eqb] at h
 | .int _, .con _,h=>by simp [D.eqb] at h
 | .int _, .ref _,h=>by simp [D.eqb] at h
 | .str _, .non,h=>by simp [D.eqb] at h
 | .str _, .bl _,h=>by simp [D.eqb] at h
 | .str _, .int _,h=>by simp [D.eqb] at h
 | .str _, .tup _,h=>by simp [D.eqb] at h
 | .str _, .con _,h=>by simp [D.eqb] at h
 | .str _, .ref _,h=>by simp [D.eqb] at h
 | .tup _, .non,h=>by simp [D.eqb] at h
 | .tup _, .bl _,h=>by simp [D.eqb] at h
 | .tup _, .int _,h=>by simp [D.eqb] at h
 | .tup _, .str _,h=>by simp [D.eqb] at h
 | .tup _, .con _,h=>by simp [D.eqb] at h
 | .tup _, .ref _,h=>by simp [D.eqb] at h
 | .con _, .non,h=>by simp [D.eqb] at h
 | .con _, .bl _,h=>by simp [D.eqb] at h
 | .con _, .int _,h=>by simp [D.eqb] at h
 | .con _, .str _,h=>by simp [D.eqb] at h
 | .con _, .tup _,h=>by simp [D.eqb] at h
 | .con _, .ref _,h=>by simp [D.eqb] at h
 | .ref _, .non,h=>by simp [D.eqb] at h
 | .ref _, .bl _,h=>by simp [D.eqb] at h
 | .ref _, .int _,h=>by simp [D.eqb] at h
 | .ref _, .str _,h=>by simp [D.eqb] at h
 | .ref _, .tup _,h=>by simp [D.eqb] at h
 | .ref _, .con _,h=>by simp [D.eqb] at h
theorem RA:∀ (a b:List D),D.eqbs a b=true->a=b
 | [],[],_=>rfl
 | a::r,b::s,h=>by
   simp [D.eqbs] at h;rw [RG a b h.1,RA r s h.2]
 | [],_::_,h=>by simp [D.eqbs] at h
 | _::_,[],h=>by simp [D.eqbs] at h
end
mutual
theorem RC:∀ (a:D),D.eqb a a=true
 | .non=>rfl
 | .bl _=>by simp [D.eqb]
 | .int _=>by simp [D.eqb]
 | .str _=>by simp [D.eqb]
 | .tup a=>by simp [D.eqb,Ry a]
 | .con a=>by simp [D.eqb,Ry a]
 | .ref _=>by simp [D.eqb]
theorem Ry:∀ (a:List D),D.eqbs a a=true
 | [] => rfl
 | a::r=>by simp [D.eqbs,RC a,Ry r]
end
noncomputable instance:DecidableEq D:=fun a b=>if h:D.eqb a b=true then isTrue (RG a b h) else isFalse fun e=>h (by rw [e];exact RC b)
noncomputable def RKey:D->Key->Prop
 | .int i,k=>k = .inl i
 | .str x,k=>k = .inr x
 | _,_=>False
noncomputable def RKeys:D->List Key->Prop
 | .tup ds,ks=>HZ RKey ds ks
 | _,_=>False
noncomputable def dget (kvs:List (D×D)) (k:D):Option D:=(kvs.find? fun p=>decide (p.1=k)).map (·.2)
noncomputable def cj (kvs:List (D×D)) (k v:D):List (D×D):=if (kvs.any fun p=>decide (p.1=k))=true then kvs.map (fun p=>if p.1=k then (p.1,v) else p) else kvs++[(k,v)]
noncomputable def fw:D->Bool
 | .int _=>true
 | .str _=>true
 | _=>false
noncomputable def bQ:D->Bool
 | .tup ds=>ds.all fw&&fk ds
 | _=>false
noncomputable def gK (t:Bool) (k:D):Bool:=if t then bQ k else fw k
theorem nj {k:D} (h:fw k=true):∃ q,RKey k q:=by
 cases k <;> first | (simp [fw] at h;done) | exact ⟨_,rfl⟩
theorem qv:∀ {ds:List D},ds.all fw=true -> ∃ ks,HZ RKey ds ks
 | [],_=>⟨[], .nil⟩
 | d::ds,h=>by
   simp only [K6,z4] at h;obtain ⟨k,j⟩:=nj h.1;obtain ⟨ks,hs⟩:=qv h.2;exact ⟨k::ks, .cons j hs⟩
theorem kh {k:D} (h:bQ k=true):∃ q,RKeys k q:=by
 cases k <;> first | (simp [bQ] at h;done) | exact qv (OD.mp h).1
theorem ki {ds:List D} (h:bQ (.tup ds)=true):fk ds=true:=(OD.mp h).2
noncomputable def RO (K:Frag) (H:Hp) (a:Addr):O->Prop
 | .lst ds => ∃ vs,H a=some (.lst vs)/\RDs K H ds vs
 | .dct false kvs => ∃ ps,H a=some (.dK ps)/\HZ (fun (p:D×D) (q:Key×V)=>RKey p.1 q.1/\RD K H p.2 q.2) kvs ps
 | .dct true kvs => ∃ ps,H a=some (.dT ps)/\HZ (fun (p:D×D) (q:List Key×V)=>RKeys p.1 q.1/\RD K H p.2 q.2) kvs ps
 | .fdc kvs => ∃ o ps,H a=some (.frz o (.dT ps))/\HZ (fun (p:D×D) (q:List Key×V)=>RKeys p.1 q.1/\RD K H p.2 q.2) kvs ps
def RM (K:Frag) (M:Mem) (H:Hp):Prop := ∀ a o,M a=some o->RO K H a o
def RS (K:Frag) (H:Hp) (σ:St) (ρ:av):Prop := σ.length = ρ.length /\ ∀ (i:Nat) (d:D), ρ[i]? = some (some d) -> ∃ v, σ[i]? = some (some v)/\RD K H d v
structure Ext (M:Mem) (H:Hp) (M':Mem) (H':Hp):Prop where
 kp:∀ a o,fz (M a)=true->H a=some o->H' a=some o
 nw:∀ a o,fz (M a)=true->H a=some o->M' a=M a
section
variable {K:Frag} {M M' M'':Mem} {H H' H'':Hp}
theorem Ext.keep (x:Ext M H M' H') (a:Addr) (o:HO) (n:M a=none) (e:H a=some o):H' a=some o:=x.kp a o (by rw [n];rfl) e
theorem Ext.new (x:Ext M H M' H') (a:Addr) (o:HO) (n:M a=none) (e:H a=some o):M' a=none:=(x.nw a o (by rw [n];rfl) e).trans n
theorem Ext.refl:Ext M H M H:=⟨fun _ _ _ h=>h,fun _ _ _ _=>rfl⟩
theorem Ext.trans (a:Ext M H M' H') (b:Ext M' H' M'' H''):Ext M H M'' H'' :=
 ⟨fun c o n h=>b.kp c o (by rw [a.nw c o n h];exact n) (a.kp c o n h),fun c o n h=>(b.nw c o (by rw [a.nw c o n h];exact n) (a.kp c o n h)).trans (a.nw c o n h)⟩
theorem RM.mut (r:RM K M H) {a:Addr} {o:O} (h:M a=some o):∃ ho,H a=some ho/\(∀ xs,ho ≠ .tup xs)/\(fz (some o)=false->Mut (some ho) /\ ∀ ob u,ho ≠ .frz ob u):=by
 have q:=r a o h
 cases o with
 | lst ds =>
   obtain ⟨vs,e,_⟩:=q;exact ⟨_,e,fun _ z=>(by cases z),fun _=>⟨trivial,fun _ _ z=>(by cases z)⟩⟩
 | dct t kvs =>
   cases t with
   | false=>obtain ⟨ps,e,_⟩:=q;exact ⟨_,e,fun _ z=>(by cases z),fun _=>⟨trivial,fun _ _ z=>(by cases z)⟩⟩
   | true=>obtain ⟨ps,e,_⟩:=q;exact ⟨_,e,fun _ z=>(by cases z),fun _=>⟨trivial,fun _ _ z=>(by cases z)⟩⟩
 | fdc kvs=>obtain ⟨ob,ps,e,_⟩:=q;exact ⟨_,e,fun _ z=>(by cases z),fun z=>(by cases z)⟩
theorem RM.fzT (r:RM K M H) {a:Addr} {xs:List V} (e:H a=some (.tup xs)):M a=none:=by
 cases q:M a with
 | none=>rfl
 | some o =>
   obtain ⟨ho,j,z,_⟩:=r.mut q;rw [e] at j;cases j;exact absurd rfl (z xs)
theorem RM.fzF (r:RM K M H) {a:Addr} {ob:Obj} {u:HO} (e:H a=some (.frz ob u)):fz (M a)=true:=by
 cases q:M a with
 | none=>rfl
 | some o =>
   obtain ⟨ho,j,_,B⟩:=r.mut q;rw [e] at j;cases j
   cases z:fz (some o) with
   | true=>rfl
   | false=>exact absurd rfl ((B z).2 ob u)
theorem RM.out (r:RM K M H) {a:Addr} (h:H a=none):M a=none:=by
 cases e:M a with
 | none=>rfl
 | some o =>
   obtain ⟨ho,q,_⟩:=r.mut e;rw [h] at q;cases q
theorem Ext.stab (r:RM K M H) (x:Ext M H M' H'):Stab H H' where
 tup:=fun a xs e=>x.keep a _ (r.fzT e) e
 frz:=fun a o u e=>x.kp a _ (r.fzF e) e
theorem RS.mono (st:Stab H H') {σ:St} {ρ:av} (h:RS K H σ ρ):RS K H' σ ρ :=
 ⟨h.1,fun i d e=>let ⟨v,q,r⟩:=h.2 i d e; ⟨v,q,r.mono st⟩⟩
theorem RS.set {σ:St} {ρ:av} (h:RS K H σ ρ) (i:Nat) {d:D} {v:V} (r:RD K H d v):RS K H (σ.set i (some v)) (ρ.set i (some d)):=by
 refine ⟨by simp [h.1],fun j e q => ?_⟩
 by_cases hij:i=j
 ·subst hij;have hi:i < ρ.length:=by
   have:=(Ho.mp q).1;simpa using this
  rw [Kf hi] at q
  cases q
  exact ⟨v,by rw [Kf (by rw [h.1];exact hi)],r⟩
 ·rw [Mk hij] at q ⊢;exact h.2 j e q
noncomputable def kj (fr:List (Option Nat)) (ρ:av):av:=fr.map fun o=>o.bind fun j=>(ρ[j]?).join
theorem RS.inh {σ:St} {ρ:av} (h:RS K H σ ρ) (fr:List (Option Nat)):RS K H (inh fr σ) (kj fr ρ):=by
 refine ⟨by simp [L2.inh,kj],fun i d e => ?_⟩
 unfold kj at e;unfold L2.inh;rw [HB] at e ⊢
 cases q:fr[i]? with
 | none=>rw [q] at e;cases e
 | some o =>
   rw [q] at e
   cases o with
   | none=>cases e
   | some j =>
     have e':some ((ρ[j]?).join)=some (some d):=e
     cases q' : ρ[j]? with
     | none=>rw [q'] at e';cases e'
     | some w =>
       rw [q'] at e'
       cases e'
       obtain ⟨v,v1,v2⟩:=h.2 j d q';exact ⟨v,by simp [v1],v2⟩
theorem RO.mono (st:Stab H H') {a:Addr} {o:O} (h:RO K H a o) (e:∀ ho,H a=some ho->H' a=some ho):RO K H' a o:=by
 cases o with
 | lst ds=>obtain ⟨vs,q,r⟩:=h;exact ⟨vs,e _ q,r.mono st⟩
 | dct t kvs =>
   cases t with
   | false=>obtain ⟨ps,q,r⟩:=h;exact ⟨ps,e _ q,Rp r fun _ _ z=>⟨z.1,z.2.mono st⟩⟩
   | true=>obtain ⟨ps,q,r⟩:=h;exact ⟨ps,e _ q,Rp r fun _ _ z=>⟨z.1,z.2.mono st⟩⟩
 | fdc kvs=>obtain ⟨ob,ps,q,r⟩:=h;exact ⟨ob,ps,e _ q,Rp r fun _ _ z=>⟨z.1,z.2.mono st⟩⟩
theorem RM.new {p:Addr} {ho:HO} (r:RM K M H) (n:H p=none):RM K M (upd H p ho):=fun a o e=>by
 have ne:a≠p:=fun z=>by subst z;obtain ⟨_,q,_⟩:=r.mut e;rw [n] at q;cases q
 refine (r a o e).mono ⟨fun b xs q => ?_,fun b o u q => ?_⟩ fun j q=>by rw [ak ne];exact q
 ·rw [ak (aV q n)];exact q
 ·rw [ak (aV q n)];exact q
theorem Ru {p:Addr} {ho:HO} (n:H p=none):Ext M H M (upd H p ho):=⟨fun a o _ e=>by rw [ak (aV e n)];exact e,fun _ _ _ _=>rfl⟩
theorem RM.lay {p:Addr} {ho:HO} {o:O} (r:RM K M H) (n:H p=none) (h:RO K (upd H p ho) p o):RM K (ag M p o) (upd H p ho):=fun a o' e=>by
 by_cases z:a=p
 ·subst z;rw [ad] at e;cases e;exact h
 ·rw [aK z] at e;exact r.new n a o' e
theorem Ext.lay {p:Addr} {ho:HO} {o:O} (n:H p=none):Ext M H (ag M p o) (upd H p ho) :=
 ⟨fun a u _ e=>by rw [ak (aV e n)];exact e,fun a u m e=>by rw [aK (aV e n)]⟩
theorem RM.put {p:Addr} {ho:HO} {o o0:O} (r:RM K M H) (m:M p=some o0) (h:RO K (upd H p ho) p o) (w:fz (some o0)=false:=by rfl):RM K (ag M p o) (upd H p ho):=fun a o' e=>by
 by_cases z:a=p
 ·subst z;rw [ad] at e;cases e;exact h
 ·rw [aK z] at e;obtain ⟨J,j,B,F⟩:=r.mut m;refine (r a o' e).mono ⟨fun b xs q => ?_,fun b o u q => ?_⟩ fun G q=>by rw [ak z];exact q
  ·rw [ak (fun z=>by subst z;rw [j] at q;cases q;exact B xs rfl)];exact q
  ·rw [ak (fun z=>by subst z;rw [j] at q;cases q;exact (F w).2 o u rfl)];exact q
theorem Ext.put {p:Addr} {ho:HO} {o o0:O} (m:M p=some o0) (w:fz (some o0)=false:=by rfl):Ext M H (ag M p o) (upd H p ho) :=
 ⟨fun a u n e=>by rw [ak (fun z=>by subst z;rw [m,w] at n;cases n)];exact e,fun a u n e=>aK (fun z=>by subst z;rw [m,w] at n;cases n)⟩
theorem RM.stabPut {p:Addr} {ho:HO} {o0:O} (r:RM K M H) (m:M p=some o0) (w:fz (some o0)=false:=by rfl):Stab H (upd H p ho):=(Ext.put (o:=o0) (ho:=ho) m w).stab r
end
noncomputable abbrev QD:=D->Mem->Prop
noncomputable abbrev TEd:=av->Mem->QD->Prop
noncomputable abbrev TTd:=av->Mem->(Bool->Mem->Prop)->Prop
noncomputable abbrev TAd:=av->Mem->(List D->Mem->Prop)->Prop
structure bv where
 nx:av->Mem->Prop
 rt:QD
 bk:av->Mem->Prop:=fun _ _=>False
 ct:av->Mem->Prop:=fun _ _=>False
noncomputable abbrev TSd:=bv->av->Mem->Prop
def ab (T:TEd):Prop := ∀ ρ M Q Q',(∀ d M',Q d M'->Q' d M')->T ρ M Q->T ρ M Q'
def aG (T:TTd):Prop := ∀ ρ M Q Q',(∀ d M',Q d M'->Q' d M')->T ρ M Q->T ρ M Q'
def bp (T:TAd):Prop := ∀ ρ M Q Q',(∀ d M',Q d M'->Q' d M')->T ρ M Q->T ρ M Q'
structure LeD (a b:bv):Prop where
 nx:∀ ρ M,a.nx ρ M->b.nx ρ M
 rt:∀ d M,a.rt d M->b.rt d M
 bk:∀ ρ M,a.bk ρ M->b.bk ρ M
 ct:∀ ρ M,a.ct ρ M->b.ct ρ M
def aF (T:TSd):Prop := ∀ a b ρ M,LeD a b->T a ρ M->T b ρ M
noncomputable def KE' (K:Frag) (M:Mem) (H:Hp) (Q:VK):QD:=fun d M' => ∀ v H',Ext M H M' H'->RM K M' H'->RD K H' d v->Q v H'
noncomputable def KT' (K:Frag) (M:Mem) (H:Hp) (Q:Bool->Hp->Prop):Bool->Mem->Prop:=fun b M' => ∀ H',Ext M H M' H'->RM K M' H'->Q b H'
noncomputable def KA' (K:Frag) (M:Mem) (H:Hp) (Q:List V->Hp->Prop):List D->Mem->Prop:=fun ds M' => ∀ vs H',Ext M H M' H'->RM K M' H'->RDs K H' ds vs->Q vs H'
noncomputable def lE (K:Frag) (T:TEd):TE:=fun σ H Q => ∃ ρ M,RS K H σ ρ /\ RM K M H/\T ρ M (KE' K M H Q)
noncomputable def lT (K:Frag) (T:TTd):TT:=fun σ H Q => ∃ ρ M,RS K H σ ρ /\ RM K M H/\T ρ M (KT' K M H Q)
noncomputable def lA (K:Frag) (T:TAd):TA:=fun σ H Q => ∃ ρ M,RS K H σ ρ /\ RM K M H/\T ρ M (KA' K M H Q)
structure Link (K:Frag) (M:Mem) (H:Hp) (a:bv) (b:bC):Prop where
 nx:∀ ρ M' σ H',Ext M H M' H'->RS K H' σ ρ -> RM K M' H'->a.nx ρ M'->b.nx σ H'
 rt:∀ d M' v H',Ext M H M' H'->RM K M' H'->RD K H' d v->a.rt d M'->b.rt v H'
 bk:∀ ρ M' σ H',Ext M H M' H'->RS K H' σ ρ -> RM K M' H'->a.bk ρ M'->b.bk σ H'
 ct:∀ ρ M' σ H',Ext M H M' H'->RS K H' σ ρ -> RM K M' H'->a.ct ρ M'->b.ct σ H'
noncomputable def lS (K:Frag) (T:TSd):TS:=fun D σ H => ∃ ρ M A,RS K H σ ρ /\ RM K M H/\Link K M H A D/\T A ρ M
theorem Link.ext {K:Frag} {M M':Mem} {H H':Hp} {a:bv} {b:bC} (l:Link K M H a b) (x:Ext M H M' H'):Link K M' H' a b :=
 ⟨fun ρ M2 σ H2 y=>l.nx ρ M2 σ H2 (x.trans y),fun d M2 v H2 y=>l.rt d M2 v H2 (x.trans y),fun ρ M2 σ H2 y=>l.bk ρ M2 σ H2 (x.trans y),fun ρ M2 σ H2 y=>l.ct ρ M2 σ H2 (x.trans y)⟩
theorem PE.imp {X:Cx} {e:Expr} {t t':TE} (h:PE X e t) (i:∀ σ H Q,t' σ H Q->t σ H Q):PE X e t':=fun pins s σ H Q I q=>h pins s σ H Q I (i _ _ _ q)
theorem PT.imp {X:Cx} {e:Expr} {t t':TT} (h:PT X e t) (i:∀ σ H Q,t' σ H Q->t σ H Q):PT X e t':=fun pins s σ H Q I q=>h pins s σ H Q I (i _ _ _ q)
theorem PW.imp {X:Cx} {e:Expr} {t t':TT} (h:PW X e t) (i:∀ σ H Q,t' σ H Q->t σ H Q):PW X e t':=fun wh pins s σ H Q I q=>h wh pins s σ H Q I (i _ _ _ q)
theorem PA.imp {X:Cx} {e:List Expr} {t t':TA} (h:PA X e t) (i:∀ σ H Q,t' σ H Q->t σ H Q):PA X e t':=fun p pins s σ H Q I q=>h p pins s σ H Q I (i _ _ _ q)
theorem PS.imp {X:Cx} {e:Stmt} {t t':TS} (h:PS X e t) (i:∀ D σ H,t' D σ H->t D σ H):PS X e t':=fun pins s σ H D I q=>h pins s σ H D I (i _ _ _ q)
theorem PSs.imp {X:Cx} {e:List Stmt} {t t':TS} (h:PSs X e t) (i:∀ D σ H,t' D σ H->t D σ H):PSs X e t':=fun pins s σ H D I q=>h pins s σ H D I (i _ _ _ q)
end
section
theorem KE'.ext {K:Frag} {M M2 M':Mem} {H H2:Hp} {Q:VK} {d:D} (x:Ext M H M2 H2) (h:KE' K M H Q d M'):KE' K M2 H2 Q d M':=fun v H' y=>h v H' (x.trans y)
theorem KT'.ext {K:Frag} {M M2 M':Mem} {H H2:Hp} {Q:Bool->Hp->Prop} {d:Bool} (x:Ext M H M2 H2) (h:KT' K M H Q d M'):KT' K M2 H2 Q d M':=fun H' y=>h H' (x.trans y)
noncomputable abbrev R2d:=D->D->Mem->QD->Prop
noncomputable abbrev R1d:=D->Mem->QD->Prop
noncomputable abbrev RAd:=List D->Mem->QD->Prop
def ar (r:R2d):Prop := ∀ x y M Q Q',(∀ d M',Q d M'->Q' d M')->r x y M Q->r x y M Q'
def si (r:R1d):Prop := ∀ x M Q Q',(∀ d M',Q d M'->Q' d M')->r x M Q->r x M Q'
def aX (r:RAd):Prop := ∀ x M Q Q',(∀ d M',Q d M'->Q' d M')->r x M Q->r x M Q'
noncomputable def l2 (K:Frag) (rd:R2d):R2:=fun v u H Q => ∃ x y M,RM K M H/\RD K H x v/\RD K H y u/\rd x y M (KE' K M H Q)
noncomputable def l1 (K:Frag) (rd:R1d):V->Hp->VK->Prop:=fun v H Q => ∃ x M,RM K M H/\RD K H x v/\rd x M (KE' K M H Q)
noncomputable def lR (K:Frag) (rd:RAd):List V->Hp->VK->Prop:=fun vs H Q => ∃ ds M,RM K M H/\RDs K H ds vs/\rd ds M (KE' K M H Q)
noncomputable def lMt (K:Frag) (rd:D->List D->Mem->QD->Prop):V->List V->Hp->VK->Prop:=fun v vs H Q => ∃ x ds M,RM K M H/\RD K H x v/\RDs K H ds vs/\rd x ds M (KE' K M H Q)
noncomputable def cy (i:Nat):TEd:=fun ρ M Q => ∃ d, ρ[i]? = some (some d)/\Q d M
noncomputable def wC (d:D):TEd:=fun _ M Q=>Q d M
noncomputable def wOp (rd:R2d) (ta tb:TEd):TEd:=fun ρ M Q=>ta ρ M fun x M1=>tb ρ M1 fun y M2=>rd x y M2 Q
noncomputable def wUn (rd:R1d) (ta:TEd):TEd:=fun ρ M Q=>ta ρ M fun x M1=>rd x M1 Q
noncomputable def bq:TAd:=fun _ M Q=>Q [] M
noncomputable def aD (ta:TEd) (tr:TAd):TAd:=fun ρ M Q=>ta ρ M fun x M1=>tr ρ M1 fun xs M2=>Q (x::xs) M2
noncomputable def wAr (rd:RAd) (t:TAd):TEd:=fun ρ M Q=>t ρ M fun ds M1=>rd ds M1 Q
theorem xr {i:Nat}:ab (cy i):=fun _ _ _ _ h ⟨d,e,q⟩=>⟨d,e,h _ _ q⟩
theorem jc {d:D}:ab (wC d):=fun _ _ _ _ h q=>h _ _ q
theorem eS {rd:R2d} {ta tb:TEd} (j:ar rd) (z:ab ta) (B:ab tb):ab (wOp rd ta tb):=fun ρ M Q Q' h q =>
 z _ _ _ _ (fun x J F=>B _ _ _ _ (fun y M2 G=>j _ _ _ _ _ h G) F) q
theorem A2 {rd:R1d} {ta:TEd} (j:si rd) (z:ab ta):ab (wUn rd ta):=fun ρ M Q Q' h q=>z _ _ _ _ (fun x F B=>j _ _ _ _ h B) q
theorem ao:bp bq:=fun _ _ _ _ h q=>h _ _ q
theorem al {ta:TEd} {tr:TAd} (j:ab ta) (z:bp tr):bp (aD ta tr):=fun ρ M Q Q' h q =>
 j _ _ _ _ (fun x G B=>z _ _ _ _ (fun xs M2 F=>h _ _ F) B) q
theorem gL {rd:RAd} {t:TAd} (j:aX rd) (z:bp t):ab (wAr rd t):=fun ρ M Q Q' h q=>z _ _ _ _ (fun ds F B=>j _ _ _ _ h B) q
section
variable {X:Cx} {a b:Expr} {ta tb:TEd} {pos:Pos}
theorem C9 {i:Nat} {x:Str} (B:X.N[i]? = some x) (j:Vis X.env.scope x) (hd:(x==("__debug__":Str))=false) (z:(x==("__classdict__":Str))=false):PE X (.Name x pos) (lE X.K (cy i)):=by
 refine PE.imp (Bt B j hd z) fun σ H Q h => ?_;obtain ⟨ρ,M,rs,rm,d,e,q⟩:=h;obtain ⟨v,j,rd⟩:=rs.2 i d e;exact ⟨v,j,q v H Ext.refl rm rd⟩
theorem le_int {i:Int} {j:Nat}:PE X (.Constant (.int i) j pos) (lE X.K (wC (.int i))) :=
 PE.imp Bu fun σ H Q ⟨ρ,M,rs,rm,q⟩=>q _ H Ext.refl rm (Rj.mpr rfl)
theorem DG {i:Bool} {j:Nat}:PE X (.Constant (.bool i) j pos) (lE X.K (wC (.bl i))) :=
 PE.imp Di fun σ H Q ⟨ρ,M,rs,rm,q⟩=>q _ H Ext.refl rm (Rm.mpr rfl)
theorem Ca {j:Nat}:PE X (.Constant .none j pos) (lE X.K (wC .non)) :=
 PE.imp Bv fun σ H Q ⟨ρ,M,rs,rm,q⟩=>q _ H Ext.refl rm (Rr.mpr rfl)
theorem gM {K:Frag} {rd:R2d} (L:ar rd) (ma:ab ta) (mb:ab tb) (σ:St) (H:Hp) (Q:VK) (h:lE K (wOp rd ta tb) σ H Q):tOp (l2 K rd) (lE K ta) (lE K tb) σ H Q:=by
 obtain ⟨ρ,M,rs,rm,q⟩:=h;refine ⟨ρ,M,rs,rm,ma _ _ _ _ (fun x O U v H1 G j z => ?_) q⟩;refine ⟨ρ,O,rs.mono (G.stab rm),j,mb _ _ _ _ (fun y M2 Y u H2 J B F => ?_) U⟩;exact ⟨x,y,M2,B,z.mono (J.stab j),F,L _ _ _ _ _ (fun d M' k=>k.ext (G.trans J)) Y⟩
theorem DH {op:KG} {rd:R2d} (ho:OpR X (IU op) (l2 X.K rd)) (j:ar rd) (ma:ab ta) (mb:ab tb) (q:PE X a (lE X.K ta)) (z:PE X b (lE X.K tb)):PE X (.BinOp a op b pos) (lE X.K (wOp rd ta tb)) :=
 PE.imp (Dt ho q z) (gM j ma mb)
theorem Cb {op:P5} {rd:R2d} (ho:OpR X (Il op) (l2 X.K rd)) (j:ar rd) (ma:ab ta) (mb:ab tb) (q:PE X a (lE X.K ta)) (z:PE X b (lE X.K tb)) (hm:L8 op b=false) :
 PE X (.Compare a [op] [b] pos) (lE X.K (wOp rd ta tb)):=PE.imp (zQ ho q z hm) (gM j ma mb)
noncomputable def fx (t:TEd):TTd:=fun ρ M Q=>t ρ M fun x M1 => ∃ k,x = .bl k/\Q k M1
theorem nk {t:TEd} (h:ab t):aG (fx t):=fun ρ M Q Q' i q=>h _ _ _ _ (fun x z ⟨k,e,j⟩=>⟨k,e,i _ _ j⟩) q
theorem no {K:Frag} {t:TEd} (m:ab t) (σ:St) (H:Hp) (Q:Bool->Hp->Prop) (h:lT K (fx t) σ H Q):rS (lE K t) σ H Q:=by
 obtain ⟨ρ,M,rs,rm,q⟩:=h;refine ⟨ρ,M,rs,rm,m _ _ _ _ (fun x G ⟨k,e,B⟩ v H1 F j z => ?_) q⟩;subst e;exact ⟨k,Rm.mp z,B H1 F j⟩
theorem Cc {op:P5} {rd:R2d} (ho:OpR X (Il op) (l2 X.K rd)) (j:ar rd) (ma:ab ta) (mb:ab tb) (q:PE X a (lE X.K ta)) (z:PE X b (lE X.K tb)) (hm:L8 op b=false) :
 PT X (.Compare a [op] [b] pos) (lT X.K (fx (wOp rd ta tb))) :=
 PT.imp (zR ho q z hm) fun σ H Q h=>by
  have h1:=no (eS j ma mb) σ H Q h;exact gM j ma mb σ H _ h1
theorem DI {op:UnaryOp} {rd:R1d} (ho:UnR X (unaryOp op) (l1 X.K rd)) (B:si rd) (ma:ab ta) (F:PE X a (lE X.K ta)):PE X (.UnaryOp op a pos) (lE X.K (wUn rd ta)) :=
 PE.imp (Du ho F) fun σ H Q ⟨ρ,M,rs,rm,q⟩=>⟨ρ,M,rs,rm,ma _ _ _ _ (fun x G J v H1 L j z=>⟨x,G,j,z,B _ _ _ _ (fun d M' k=>k.ext L) J⟩) q⟩
theorem DJ {rd:R2d} (ho:IxR X (l2 X.K rd)) (j:ar rd) (ma:ab ta) (mb:ab tb) (q:PE X a (lE X.K ta)) (z:PE X b (lE X.K tb)) (hs:kc b):PE X (.Subscript a b pos) (lE X.K (wOp rd ta tb)) :=
 PE.imp (DB ho q z hs) (gM j ma mb)
theorem cR:PA X [] (lA X.K bq):=PA.imp iZ fun σ H Q ⟨ρ,M,rs,rm,q⟩=>q _ H Ext.refl rm RDs.nil
theorem uC {K:Frag} {tr:TAd} (ma:ab ta) (mr:bp tr) (σ:St) (H:Hp) (Q:List V->Hp->Prop) (h:lA K (aD ta tr) σ H Q):yR (lE K ta) (lA K tr) σ H Q:=by
 obtain ⟨ρ,M,rs,rm,q⟩:=h;refine ⟨ρ,M,rs,rm,ma _ _ _ _ (fun x L O v H1 G j z => ?_) q⟩;refine ⟨ρ,L,rs.mono (G.stab rm),j,mr _ _ _ _ (fun xs M2 U vs H2 J B F => ?_) O⟩;exact U (v::vs) H2 (G.trans J) B (RDs.cons (z.mono (J.stab j)) F)
theorem bh {e:Expr} {es:List Expr} {tr:TAd} (ma:ab ta) (mr:bp tr) (j:PE X e (lE X.K ta)) (q:PA X es (lA X.K tr)) (hs:Hv (e::es) X.env=(false,eval e X.env)::Hv es X.env) :
 PA X (e::es) (lA X.K (aD ta tr)):=PA.imp (cH j q hs) (uC ma mr)
theorem bJ {K:Frag} {rd:RAd} {t:TAd} (B:aX rd) (mt:bp t) (σ:St) (H:Hp) (Q:VK) (h:lE K (wAr rd t) σ H Q):tCB (lR K rd) (lA K t) σ H Q:=by
 obtain ⟨ρ,M,rs,rm,q⟩:=h;exact ⟨ρ,M,rs,rm,mt _ _ _ _ (fun ds F G vs H1 J j z=>⟨ds,F,j,z,B _ _ _ _ (fun d M' k=>k.ext J) G⟩) q⟩
noncomputable def nr:RAd:=fun ds M Q=>ds.length<=GX/\Q (.tup ds) M
noncomputable def nv:RAd:=fun ds M Q=>ds.length<=GX /\ ∀ p,M p=none->Q (.ref p) (ag M p (.lst ds))
theorem uD:aX nr:=fun _ _ _ _ h ⟨z,q⟩=>⟨z,h _ _ q⟩
theorem uE:aX nv:=fun _ _ _ _ h ⟨z,q⟩=>⟨z,fun p n=>h _ _ (q p n)⟩
theorem dC {K:Frag} {M:Mem} {H:Hp} {Q:VK} {ds:List D} {vs:List V} {p:Addr} (rm:RM K M H) (rd:RDs K H ds vs) (q:KE' K M H Q (.tup ds) M) (n:H p=none):Q (.ref p) (upd H p (.tup vs)):=by
 have x:Ext M H M (upd H p (.tup vs)):=Ru n;exact q (.ref p) _ x (rm.new n) (Rw ⟨p,vs,rfl,aw,rd.mono (x.stab rm)⟩)
theorem cI {K:Frag} {M:Mem} {H:Hp} {Q:VK} {ds:List D} {vs:List V} {p:Addr} (rm:RM K M H) (rd:RDs K H ds vs) (q:∀ p,M p=none->KE' K M H Q (.ref p) (ag M p (.lst ds))) (n:H p=none):Q (.ref p) (upd H p (.lst vs)):=by
 have x:Ext M H (ag M p (.lst ds)) (upd H p (.lst vs)):=Ext.lay n;have x0:Ext M H M (upd H p (.lst vs)):=Ru n;exact q p (rm.out n) (.ref p) _ x (rm.lay n ⟨vs,aw,rd.mono (x0.stab rm)⟩) (Rk.mpr rfl)
theorem Cd {es:List Expr} {t:TAd} {k:Nat} (mt:bp t) (h:PA X es (lA X.K t)):PE X (.Tuple es k pos) (lE X.K (wAr nr t)) :=
 PE.imp (uf h) fun σ H Q ⟨ρ,M,rs,rm,q⟩=>⟨ρ,M,rs,rm,mt _ _ _ _ (fun ds J ⟨z,F⟩ vs H1 G B j=>⟨by rw [j.length];exact z,fun p n=>dC B j (F.ext G) n⟩) q⟩
theorem Ce {es:List Expr} {t:TAd} (mt:bp t) (h:PA X es (lA X.K t)):PE X (.List es pos) (lE X.K (wAr nv t)) :=
 PE.imp (BX h) fun σ H Q ⟨ρ,M,rs,rm,q⟩=>⟨ρ,M,rs,rm,mt _ _ _ _ (fun ds J ⟨z,F⟩ vs H1 G B j=>⟨by rw [j.length];exact z,fun p n=>cI B j (fun p' n'=>(F p' n').ext G) n⟩) q⟩
end
end
end Mi
end L2
namespace L2
open PySem PySem.Spec PyProof.Rows
namespace Mi
end Mi
end L2
namespace L2
open PySem PySem.Spec PyProof.Rows
section
theorem iB:fillsNumberSlot (.type "tuple") "mul" = pure false :=
 PyProof.Rows.fillsNumberSlot_seq (id := "tuple.__mul__") (r:=some (.builtin "tuple.__rmul__")) F.slot_tuple_mul.lookup (by decide +kernel) F.slot_tuple_rmul.lookup (by decide +kernel)
theorem ny:seqRepeat? (.type "tuple")=pure (some (.builtin "tuple.__mul__")):=by
 unfold seqRepeat?;rw [NK (T := "tuple") (name := "__mul__") (id := "tuple.__mul__") F.slot_tuple_mul.lookup (by decide +kernel),NK (T := "tuple") (name := "__rmul__") (id := "tuple.__rmul__") F.slot_tuple_rmul.lookup (by decide +kernel)]
 rfl
theorem km (a:Int) (t:Tok) (l:Addr) (items:Array h7) (n:Nat) (d:Option Addr) (sl:Array (Option h7)) :
 Meets (Jl.«int.__rmul__» ⟨[.int a t, .ref l],[]⟩) (fun _ R s=>s.heap.get? l=some { cls := .type "tuple",dict:=d,data := .seq items n,slots:=sl }/\R (.ok (.ret Value.notImplemented)) s) :=
 .of_wp fun prog w A R s h=>by obtain ⟨j,g,d,tk,os⟩:=s;obtain ⟨q,h⟩:=h;wp_walk;exact ⟨_,rfl,h⟩
open AutoSeq1 (wpAny_loadPart') in
theorem uF (l:Addr) (items:Array h7) (n:Nat) (dd:Option Addr) (sl:Array (Option h7)) (x:Int) (u:Tok) (h1 : -(2 ^ 63)<=x) (h2:x < 2 ^ 63) (z:items.size*x.toNat<=GX) :
 Meets (Jl.«tuple.__mul__» ⟨[.ref l, .int x u],[]⟩) (fun _ R s=>s.heap.get? l=some { cls := .type "tuple",dict:=dd,data := .seq items n,slots:=sl } /\
  (if items.isEmpty || x==1 then R (.ok (.ret (.ref l))) s else R (.ok (.ret (.ref s.heap.objs.size))) { s with heap:=s.heap.push { cls := .type "tuple",data := .seq ((Hm x.toNat items).foldl (· ++ ·) #[]) } })) :=
 .of_wp fun prog w A R s h=>by
  obtain ⟨O,g,d,tk,os⟩:=s;obtain ⟨j,h⟩:=h;have f1:=AutoSeq1.idx_int;have B:(decide (x < -(2 ^ 63)) || decide (x≥2 ^ 63))=false:=by
   rw [decide_eq_false (by lia),decide_eq_false (by lia)];rfl
  wp_walk using Ko j
  refine Oj (decide_eq_false (by rw [B];decide)) ?_
  dsimp only
  by_cases e1:(items.isEmpty || x==1)=true
  ·rw [if_pos e1] at h
   wp_walk using Ko j
   exact ⟨_,rfl,h⟩
  ·rw [if_neg e1] at h
   wp_walk using Ko j
   simp only [Ol,not_or] at e1
   by_cases e2:x<=0
   ·have q:(decide (x<=0) || items.isEmpty)=true:=by rw [decide_eq_true e2];rfl
    rw [if_pos q];have F:x.toNat=0:=by lia
    rw [F] at h
    wp_walk
    exact ⟨_,rfl,h⟩
   ·have q : ¬ (decide (x<=0) || items.isEmpty)=true:=by simp;exact ⟨by lia,by simpa using e1.1⟩
    rw [if_neg q];have hx:((items.size:Nat):Int)*x=((items.size*x.toNat:Nat):Int):=by
     rw [Jz,L4 (by lia)]
    have hs:GX=16777216:=GU;have G : ¬ ((items.size:Nat):Int)*x > (2 ^ 63 - 1) / 8:=by rw [hx];lia
    rw [if_neg G];have J : ¬ N3 (((items.size:Nat):Int)*x)=true:=by
     rw [hx];unfold N3;intro L;have U:=of_decide_eq_true L;lia
    rw [if_neg J]
    wp_walk
    have hsz:((Hm x.toNat items).foldl (· ++ ·) #[]).size<=GX:=by
     have:∀ (k:Nat) (a:Array h7),((Hm k items).foldl (· ++ ·) a).size=a.size+items.size*k:=by
      intro k;induction k with
      | zero=>intro a;simp
      | succ k ih=>intro a;rw [IC,Ld,ih,KA,Nat.mul_succ];lia
     rw [this];simpa using z
    refine Oj (decide_eq_false (QY.mpr hsz)) ?_
    wp_walk
    exact ⟨_,rfl,h⟩
end
section
section
variable {X:Cx}
noncomputable def zc (K:Frag):R2:=fun x y H Q => ∃ l k xs,x = .ref l/\y = .int k/\SqT K H l xs /\ -(2 ^ 63)<=k/\k < 2 ^ 63/\xs.length*k.toNat<=GX /\
 ((xs=[]∨k=1)->Q (.ref l) H)/\(¬ (xs=[]∨k=1) -> ∀ p,H p=none->Q (.ref p) (upd H p (.tup (Hm k.toNat xs).flatten)))
theorem A3:OpR X (IU .Mult) (zc X.K):=by
 intro pins s σ H x y v u Q I rx ry h;obtain ⟨l,k,xs,rfl,rfl,G,h1,h2,j,J,L⟩:=h
 cases rx
 obtain ⟨t,rfl⟩:=ry;obtain ⟨its,r,p1,_⟩:=I.tuple G;have O:=r.length;obtain ⟨⟨cls,dd,dat,sl⟩,e,B,n,hd⟩:=p1;dsimp only at B hd;subst B hd;have hlen:its.toArray.size*k.toNat<=GX:=by rw [H9, <- O];exact j
 have f0:∀ m:Nat,LU (fun Y Z=>Y++Z) #[] (Hm m its.toArray)=(Hm m its).flatten.toArray:=fun m=>by
  have:=fU its m [];rw [Le] at this;exact this
 refine Nf (T := "tuple") (U := "int") (by decide) ⟨_,e,rfl⟩ (fun s'=>O8 s' k t) iB QE Mr ny F.slot_int_index.lookup
  (KL Mr (O8 s k t) Q8 (PN _ _) (km k t l its.toArray n dd sl)
    ⟨e,rfl,⟨_,e,rfl⟩,KL F.slot_tuple_mul ⟨_,e,rfl⟩ F.entry_tuple_mul (F.args_tuple_mul_2 _ _) (uF l its.toArray n dd sl k t h1 h2 hlen) ⟨e, ?_⟩⟩)
 have hi:(its.toArray.isEmpty || k==1)=true↔(xs=[]∨k=1):=by
  rw [<- r.nil_iff];simp
 split
 ·next c=>exact ⟨.ref l,H,I,rfl,J (hi.mp c)⟩
 ·next c =>
  rw [f0];refine ⟨.ref s.heap.objs.size,_,I.laid (t':=s.toks) (o := .tup (Hm k.toNat xs).flatten) (fun b ob q=>q7 _ q) (Hc _) ?_,rfl,L (fun z=>c (hi.mpr z)) _ (I.hok.fresh (Hc _))⟩;exact ⟨by rw [qu,KP];exact j,_,r.rep k.toNat,LS _ _⟩
end
end
section
section
variable {X:Cx}
theorem A4:OpR X (IU .Add) (fun x y H Q => ∃ a b ys,x = .ref a/\y = .ref b/\SqT X.K H a []/\SqT X.K H b ys/\Q (.ref b) H):=by
 intro pins s σ H x y v u Q I rx ry h;obtain ⟨a,b,ys,rfl,rfl,U,Y,q⟩:=h
 cases rx
 cases ry
 obtain ⟨its,Z,p1,_⟩:=I.tuple U;obtain ⟨j,r2,p2,_⟩:=I.tuple Y;have e0:its=[]:=Z.nil_iff.mpr rfl;obtain ⟨⟨cls,dd,data,sl⟩,ho,L,n,hd⟩:=id p1;obtain ⟨⟨O,G,data2,J⟩,z,B,n2,hd2⟩:=id p2;simp only at L hd B hd2;subst L hd B hd2;exact PJ ⟨_,ho,rfl⟩ ⟨_,z,rfl⟩ NG P6 Lz Lr (La _ _)
  (tuple_addW0 a b its.toArray j.toArray n n2 dd G sl J (by simp [e0])) ⟨ho,z,⟨.ref b,H,I,rfl,q⟩⟩
end
end
end L2
namespace L2
namespace Mi
open PySem PySem.Spec PyProof.Rows
section
def MulOk (i j:Int):Prop:=(-(2 ^ 64) < i/\i < 2 ^ 64)∨(-(2 ^ 64) < j/\j < 2 ^ 64)∨(OY i<=2 ^ 20/\OY j<=2 ^ 20)
theorem MulOk.ok {i j:Int} (h:MulOk i j):IntMulOk i j:=by
 rcases h with h | h | h
 ·exact IntMulOk.of_left (intBits_le_64 h.1 h.2)
 ·exact IntMulOk.of_right (intBits_le_64 h.1 h.2)
 ·exact IntMulOk.of_bits h.1 h.2
noncomputable def fY:R2d
 | .int i, .int j,M,Q=>Q (.int (i+j)) M
 | .tup a, .tup b,M,Q=>(a≠[]∨True)/\a.length+b.length<=GX/\Q (.tup (a++b)) M
 | .ref a, .ref b,M,Q => ∃ xs ys,M a=some (.lst xs)/\M b=some (.lst ys)/\xs.length+ys.length<=GX /\ ∀ p,M p=none->Q (.ref p) (ag M p (.lst (xs++ys)))
 | .str x, .str y,M,Q=>x.length+y.length<=GX/\Q (.str (x++y)) M
 | _,_,_,_=>False
noncomputable def kn:R2d
 | .int i, .int j,M,Q=>Q (.int (i - j)) M
 | _,_,_,_=>False
noncomputable def ko:R2d
 | .int i, .int j,M,Q=>MulOk i j/\Q (.int (i*j)) M
 | .ref a, .int k,M,Q => ∃ xs,M a=some (.lst xs) /\ -(2 ^ 63)<=k/\k < 2 ^ 63/\xs.length*k.toNat<=GX /\ ∀ p,M p=none->Q (.ref p) (ag M p (.lst (Hm k.toNat xs).flatten))
 | .tup ds, .int k,M,Q => -(2 ^ 63)<=k/\k < 2 ^ 63/\ds.length*k.toNat<=GX/\Q (.tup (Hm k.toNat ds).flatten) M
 | _,_,_,_=>False
noncomputable def mL:R2d
 | .int i, .int j,M,Q => 0 < j/\j < 2 ^ 256/\Q (.int (i / j)) M
 | _,_,_,_=>False
noncomputable def sj:R2d
 | .int i, .int j,M,Q => 0 < j/\Q (.int (i % j)) M
 | _,_,_,_=>False
noncomputable def sk:R2d
 | .int i, .int j,M,Q => 0<=j/\j<=1000000/\i.natAbs < 2 ^ 64/\Q (.int (i ^ j.toNat)) M
 | _,_,_,_=>False
theorem nA:ar fY:=by
 intro x y M Q Q' h q
 cases x <;> cases y <;> first
  | exact q.elim
  | exact h _ _ q
  | exact ⟨q.1,h _ _ q.2⟩
  | exact ⟨q.1,q.2.1,h _ _ q.2.2⟩
  | (obtain ⟨xs,ys,e1,e2,z,q⟩:=q;exact ⟨xs,ys,e1,e2,z,fun p n=>h _ _ (q p n)⟩)
theorem xt:ar kn:=by
 intro x y M Q Q' h q
 cases x <;> cases y <;> first | exact q.elim | exact h _ _ q
theorem xu:ar ko:=by
 intro x y M Q Q' h q
 cases x <;> cases y <;> first
  | exact q.elim
  | exact ⟨q.1,h _ _ q.2⟩
  | exact ⟨q.1,q.2.1,q.2.2.1,h _ _ q.2.2.2⟩
  | (obtain ⟨xs,e1,j,z,B,q⟩:=q;exact ⟨xs,e1,j,z,B,fun p n=>h _ _ (q p n)⟩)
theorem uG:ar mL:=by
 intro x y M Q Q' h q
 cases x <;> cases y <;> first | exact q.elim | exact ⟨q.1,q.2.1,h _ _ q.2.2⟩
theorem xv:ar sj:=by
 intro x y M Q Q' h q
 cases x <;> cases y <;> first | exact q.elim | exact ⟨q.1,h _ _ q.2⟩
theorem xw:ar sk:=by
 intro x y M Q Q' h q
 cases x <;> cases y <;> first | exact q.elim | exact ⟨q.1,q.2.1,q.2.2.1,h _ _ q.2.2.2⟩
section
variable {X:Cx}
theorem OpR.of {f:h7->h7->Sem h7} {r r':R2} (h:OpR X f r) (i:∀ v u H Q,r' v u H Q->r v u H Q):OpR X f r':=fun pins s σ H x y v u Q I rx ry q=>h pins s σ H x y v u Q I rx ry (i _ _ _ _ q)
theorem IxR.of {r r':R2} (h:IxR X r) (i:∀ v u H Q,r' v u H Q->r v u H Q):IxR X r':=fun a b pins s σ H x y v u Q I rx ry q=>h a b pins s σ H x y v u Q I rx ry (i _ _ _ _ q)
theorem CallR.of {f:h7} {r r':List V->Hp->VK->Prop} (h:CallR X f r) (i:∀ vs H Q,r' vs H Q->r vs H Q):CallR X f r':=fun pins s σ H xs us Q I rx q=>h pins s σ H xs us Q I rx (i _ _ _ q)
theorem DK {K:Frag} {M:Mem} {H:Hp} {Q:VK} {a b:List D} {v u:V} (rm:RM K M H) (rx:RD K H (.tup a) v) (ry:RD K H (.tup b) u) (q:fY (.tup a) (.tup b) M (KE' K M H Q)):yT K v u H Q ∨ ∃ a b ys,v = .ref a/\u = .ref b/\SqT K H a []/\SqT K H b ys/\Q (.ref b) H:=by
 obtain ⟨a',vs,rfl,z,j⟩:=Ro rx;obtain ⟨b',us,rfl,B,F⟩:=Ro ry;obtain ⟨_,J,q⟩:=q;have l1:=j.length;have l2:=F.length
 by_cases G:a=[]
 ·subst G;have:vs=[]:=RDs.nil_iff.mp j;subst this;exact .inr ⟨a',b',us,rfl,rfl,z,B,q _ H Ext.refl rm ry⟩
 refine .inl ⟨a',b',vs,us,rfl,rfl,z,B,fun e=>G (HU.mp (by rw [<- l1,e];rfl)),by lia,fun e => ?_,fun _ p n=>dC rm (j.append F) q n⟩
 have eb:b=[]:=HU.mp (by rw [<- l2,e];rfl)
 subst eb;rw [Ja] at q;exact q _ H Ext.refl rm rx
theorem nB:OpR X (IU .Add) (l2 X.K fY):=by
 refine OpR.of (op_add.or ((op_catT.or A4).or (op_cat.or rV))) fun v u H Q h => ?_;obtain ⟨x,y,M,rm,rx,ry,q⟩:=h
 cases x <;> cases y <;> first
  | exact q.elim
  | (cases Rj.mp rx;cases Rj.mp ry;exact .inl ⟨_,_,rfl,rfl,q _ H Ext.refl rm (Rj.mpr rfl)⟩)
  | exact .inr (.inl (DK rm rx ry q))
  | (cases Rk.mp rx;cases Rk.mp ry
     obtain ⟨xs,ys,e1,e2,z,q⟩:=q;obtain ⟨vs,h1,j⟩:=rm _ _ e1;obtain ⟨us,h2,B⟩:=rm _ _ e2;have l1:=j.length;have l2:=B.length;refine .inr (.inr (.inl ⟨_,_,vs,us,rfl,rfl,h1,h2,by lia,fun p n=>cI rm (j.append B) q n⟩)))
  | (cases Rt.mp rx;cases Rt.mp ry;exact .inr (.inr (.inr ⟨_,_,rfl,rfl,q.1,q.2 _ H Ext.refl rm (Rt.mpr rfl)⟩)))
theorem xx:OpR X (IU .Sub) (l2 X.K kn):=by
 refine OpR.of BQ fun v u H Q h => ?_;obtain ⟨x,y,M,rm,rx,ry,q⟩:=h
 cases x <;> cases y <;> first
  | exact q.elim
  | (cases Rj.mp rx;cases Rj.mp ry;exact ⟨_,_,rfl,rfl,q _ H Ext.refl rm (Rj.mpr rfl)⟩)
theorem op_mul_i:OpR X (IU .Mult) (rI MulOk fun i j => .int (i*j)):=opI fun _ _ _ _ _ _ _ z q=>mul_int q z.ok
theorem DL {K:Frag} {M:Mem} {H:Hp} {Q:VK} {a:List D} {k:Int} {v u:V} (rm:RM K M H) (rx:RD K H (.tup a) v) (ry:RD K H (.int k) u) (q:ko (.tup a) (.int k) M (KE' K M H Q)):zc K v u H Q:=by
 obtain ⟨a',vs,rfl,z,j⟩:=Ro rx
 cases Rj.mp ry
 obtain ⟨B,F,G,q⟩:=q;have l1:=j.length;refine ⟨a',k,vs,rfl,rfl,z,B,F,by rw [l1];exact G,fun e => ?_,fun _ p n=>dC rm (j.rep _) q n⟩
 have ea:(Hm k.toNat a).flatten=a:=by
  rcases e with e | e
  ·have:a=[]:=HU.mp (by rw [<- l1,e];rfl)
   subst this;simp
  ·subst e;simp
 rw [ea] at q;exact q _ H Ext.refl rm rx
theorem xz:OpR X (IU .Mult) (l2 X.K ko):=by
 refine OpR.of (op_mul_i.or (op_rep.or A3)) fun v u H Q h => ?_;obtain ⟨x,y,M,rm,rx,ry,q⟩:=h
 cases x <;> cases y <;> first
  | exact q.elim
  | (cases Rj.mp rx;cases Rj.mp ry;exact .inl ⟨_,_,rfl,rfl,q.1,q.2 _ H Ext.refl rm (Rj.mpr rfl)⟩)
  | (cases Rk.mp rx;cases Rj.mp ry
     obtain ⟨xs,e1,z,B,F,q⟩:=q;obtain ⟨vs,h1,j⟩:=rm _ _ e1;have l1:=j.length;exact .inr (.inl ⟨_,_,vs,rfl,rfl,h1,z,B,by rw [l1];exact F,fun p n=>cI rm (j.rep _) q n⟩))
  | exact .inr (.inr (DL rm rx ry q))
theorem xA:OpR X (IU .FloorDiv) (rI (fun _ j => 0 < j/\j < 2 ^ 256) fun i j => .int (i / j)):=L2.opI fun i j _ _ _ _ _ z q=>by
 have h1:(0:Int) < j:=z.1;have h2:j < 2 ^ 256:=z.2;have B:j.natAbs.log2 < 256:=(Nat.log2_lt (by lia)).mpr (by lia)
 exact floordiv_int (by lia) (by rw [Int.fdiv_eq_ediv_of_nonneg i (by lia)];exact q) (.inl (PyProof.noPylong_of_log2 (by lia)))
theorem uH:OpR X (IU .FloorDiv) (l2 X.K mL):=by
 refine OpR.of xA fun v u H Q h => ?_;obtain ⟨x,y,M,rm,rx,ry,q⟩:=h
 cases x <;> cases y <;> first
  | exact q.elim
  | (cases Rj.mp rx;cases Rj.mp ry;exact ⟨_,_,rfl,rfl,⟨q.1,q.2.1⟩,q.2.2 _ H Ext.refl rm (Rj.mpr rfl)⟩)
theorem xB:OpR X (IU .Mod) (l2 X.K sj):=by
 refine OpR.of BR fun v u H Q h => ?_;obtain ⟨x,y,M,rm,rx,ry,q⟩:=h
 cases x <;> cases y <;> first
  | exact q.elim
  | (cases Rj.mp rx;cases Rj.mp ry;exact ⟨_,_,rfl,rfl,q.1,q.2 _ H Ext.refl rm (Rj.mpr rfl)⟩)
theorem xC:OpR X (IU .Pow) (l2 X.K sk):=by
 refine OpR.of BS fun v u H Q h => ?_;obtain ⟨x,y,M,rm,rx,ry,q⟩:=h
 cases x <;> cases y <;> first
  | exact q.elim
  | (cases Rj.mp rx;cases Rj.mp ry;exact ⟨_,_,rfl,rfl,⟨q.1,q.2.1,q.2.2.1⟩,q.2.2.2 _ H Ext.refl rm (Rj.mpr rfl)⟩)
noncomputable def sn:R1d
 | .int i,M,Q=>Q (.int (-i)) M
 | _,_,_=>False
theorem nC:si sn:=by
 intro x M Q Q' h q
 cases x <;> first | exact q.elim | exact h _ _ q
theorem UnR.of {f:h7->Sem h7} {r r':V->Hp->VK->Prop} (h:UnR X f r) (i:∀ v H Q,r' v H Q->r v H Q):UnR X f r':=fun pins s σ H x v Q I rx q=>h pins s σ H x v Q I rx (i _ _ _ q)
theorem xD:UnR X (unaryOp .USub) (l1 X.K sn):=by
 refine UnR.of BU fun v H Q h => ?_;obtain ⟨x,M,rm,rx,q⟩:=h
 cases x <;> first
  | exact q.elim
  | (cases Rj.mp rx;exact ⟨_,rfl,q _ H Ext.refl rm (Rj.mpr rfl)⟩)
noncomputable def aM {α β:Type} (f : α -> Option β):List α -> Option (List β)
 | [] => some []
 | x::xs=>(f x).bind fun y=>(aM f xs).map (y :: ·)
noncomputable def rb:Nat->Mem->D->Option Iz
 | _,_, .non=>some .none
 | _,_, .bl b=>some (.bool b)
 | _,_, .int i=>some (.int i)
 | _,_, .str x=>if PyData.strOk x=true then some (.str x) else none
 | n+1,M, .tup ds=>(aM (rb n M) ds).map PyData.tuple
 | n+1,M, .con ds=>(aM (rb n M) ds).map Qv
 | n+1,M, .ref a=>match M a with
   | some (.lst ds)=>(aM (rb n M) ds).map Qv
   | _=>none
 | 0,_, .tup _=>none
 | 0,_, .con _=>none
 | 0,_, .ref _=>none
theorem dq {n:Nat} {M:Mem} (ih:∀ d p,rb n M d=some p->p.depth<=n/\p.canLay0=true):∀ {ds:List D} {ps:List Iz},aM (rb n M) ds=some ps->JA ps<=n/\IE ps=true
 | [],ps,h=>by
  simp [aM] at h;subst h;exact ⟨J1 _,rfl⟩
 | d::ds,ps,h=>by
   simp only [aM] at h
   cases e1:rb n M d with
   | none=>rw [e1] at h;cases h
   | some p =>
     rw [e1] at h
     cases e2:aM (rb n M) ds with
     | none=>simp [e2] at h
     | some qs =>
       simp [e2] at h;subst h;obtain ⟨a1,a2⟩:=ih d p e1;obtain ⟨b1,b2⟩:=dq ih e2;refine ⟨?_, ?_⟩
       ·show max p.depth (JA qs)<=n;lia
       ·show (p.canLay0&&IE qs)=true;rw [a2,b2];rfl
theorem ck {M:Mem}:∀ (n:Nat) (d:D) (p:Iz),rb n M d=some p->p.depth<=n/\p.canLay0=true
 | n, .non,p,h=>by simp [rb] at h;subst h;exact ⟨J1 _,rfl⟩
 | n, .bl b,p,h=>by simp [rb] at h;subst h;exact ⟨J1 _,rfl⟩
 | n, .int b,p,h=>by simp [rb] at h;subst h;exact ⟨J1 _,rfl⟩
 | n, .str x,p,h=>by
   simp [rb] at h;obtain ⟨h1,h2⟩:=h;subst h2;exact ⟨J1 _,h1⟩
 | 0, .tup _,p,h=>by simp [rb] at h
 | 0, .con _,p,h=>by simp [rb] at h
 | 0, .ref _,p,h=>by simp [rb] at h
 | n+1, .tup ds,p,h=>by
   simp only [rb] at h
   cases e:aM (rb n M) ds with
   | none=>rw [e] at h;cases h
   | some ps =>
     rw [e] at h;cases h;obtain ⟨a,b⟩:=dq (ck n) e;exact ⟨NL a,b⟩
 | n+1, .con ds,p,h=>by
   simp only [rb] at h
   cases e:aM (rb n M) ds with
   | none=>rw [e] at h;cases h
   | some ps =>
     rw [e] at h;cases h;obtain ⟨a,b⟩:=dq (ck n) e;exact ⟨NL a,b⟩
 | n+1, .ref a,p,h=>by
   simp only [rb] at h
   cases e0:M a with
   | none=>rw [e0] at h;cases h
   | some o =>
     rw [e0] at h
     cases o with
     | dct _ _=>cases h
     | fdc _=>cases h
     | lst ds =>
       simp only at h
       cases e:aM (rb n M) ds with
       | none=>rw [e] at h;cases h
       | some ps =>
         rw [e] at h;cases h;obtain ⟨a,b⟩:=dq (ck n) e;exact ⟨NL a,b⟩
theorem dr {K:Frag} {H:Hp} {n:Nat} {M:Mem} {h:Heap} (ih:∀ d p v u,rb n M d=some p->RD K H d v->RelV v u -> ∃ as,LF h u p as) :
 ∀ {ds:List D} {ps:List Iz} {vs:List V} {us:List h7},aM (rb n M) ds=some ps->RDs K H ds vs->Vals vs us -> ∃ as,OE h us ps as
 | [],ps,vs,us,hm,r,rv=>by
  simp [aM] at hm;subst hm;rw [RDs.nil_iff.mp r] at rv
  cases rv
  exact ⟨_, .nil⟩
 | d::ds,ps,vs,us,hm,r,rv=>by
   obtain ⟨v,vr,rfl,j,q⟩:=Rl.mp r
   cases rv with
   | cons z B =>
     simp only [aM] at hm
     cases e1:rb n M d with
     | none=>rw [e1] at hm;cases hm
     | some p =>
       rw [e1] at hm
       cases e2:aM (rb n M) ds with
       | none=>simp [e2] at hm
       | some qs =>
         simp [e2] at hm;subst hm;obtain ⟨as,ra⟩:=ih d p v _ e1 j z;obtain ⟨bs,rbs⟩:=dr ih e2 q B;exact ⟨_, .cons ra rbs⟩
theorem bR {pins:List (Addr×Obj)} {σ:St} {H:Hp} {s:D0} {M:Mem} (I:Inv X pins σ H s) (rm:RM X.K M H):∀ (n:Nat) (d:D) (p:Iz) (v:V) (u:h7),rb n M d=some p->RD X.K H d v->RelV v u -> ∃ as,LF s.heap u p as
 | n, .non,p,v,u,h,r,q=>by simp [rb] at h;subst h;cases Rr.mp r;cases q;exact ⟨_, .none⟩
 | n, .bl b,p,v,u,h,r,q=>by simp [rb] at h;subst h;cases Rm.mp r;cases q;exact ⟨_, .bool b⟩
 | n, .int b,p,v,u,h,r,q=>by simp [rb] at h;subst h;cases Rj.mp r;obtain ⟨t,rfl⟩:=q;exact ⟨_, .int b t⟩
 | n, .str x,p,v,u,h,r,q=>by
   simp [rb] at h;obtain ⟨_,h2⟩:=h;subst h2;cases Rt.mp r;obtain ⟨t,rfl⟩:=q;exact ⟨_, .str x t⟩
 | 0, .tup _,p,_,_,h,_,_=>by simp [rb] at h
 | 0, .con _,p,_,_,h,_,_=>by simp [rb] at h
 | 0, .ref _,p,_,_,h,_,_=>by simp [rb] at h
 | n+1, .tup ds,p,v,u,h,r,q=>by
   simp only [rb] at h
   cases e:aM (rb n M) ds with
   | none=>rw [e] at h;cases h
   | some ps =>
     rw [e] at h;cases h;obtain ⟨a,vs,rfl,j,rs⟩:=Ro r
     cases q
     obtain ⟨its,rv,⟨o,ho,z,k,hd⟩,_⟩:=I.tuple j;obtain ⟨as,ra⟩:=dr (bR I rm n) e rs rv;exact ⟨_, .tuple ho z hd (by simpa using ra)⟩
 | n+1, .con ds,p,v,u,h,r,q=>by
   simp only [rb] at h
   cases e:aM (rb n M) ds with
   | none=>rw [e] at h;cases h
   | some ps =>
     rw [e] at h;cases h;obtain ⟨a,vs,rfl,j,rs⟩:=Rq.mp r
     cases q
     obtain ⟨its,rv,⟨o,k,ho,z,_,hd⟩,_⟩:=I.list j.sq;obtain ⟨as,ra⟩:=dr (bR I rm n) e rs rv;exact ⟨_, .list ho z hd (by simpa using ra)⟩
 | n+1, .ref a,p,v,u,h,r,q=>by
   simp only [rb] at h
   cases e0:M a with
   | none=>rw [e0] at h;cases h
   | some o =>
     rw [e0] at h
     cases o with
     | dct _ _=>cases h
     | fdc _=>cases h
     | lst ds =>
       simp only at h
       cases e:aM (rb n M) ds with
       | none=>rw [e] at h;cases h
       | some ps =>
         rw [e] at h;cases h
         cases Rk.mp r
         cases q
         obtain ⟨vs,j,rs⟩:=rm _ _ e0;obtain ⟨its,rv,⟨o,k,ho,z,_,hd⟩,_⟩:=I.list (SqL.of j);obtain ⟨as,ra⟩:=dr (bR I rm n) e rs rv;exact ⟨_, .list ho z hd (by simpa using ra)⟩
noncomputable def wEq:R2d:=fun x y M Q => ∃ p q,rb 16 M x=some p/\rb 16 M y=some q/\Q (.bl (IA p q)) M
noncomputable def wNe:R2d:=fun x y M Q => ∃ p q,rb 16 M x=some p/\rb 16 M y=some q/\Q (.bl (!PyData.eqv p q)) M
theorem A5:ar wEq:=fun _ _ _ _ _ h ⟨p,q,a,b,c⟩=>⟨p,q,a,b,h _ _ c⟩
theorem A6:ar wNe:=fun _ _ _ _ _ h ⟨p,q,a,b,c⟩=>⟨p,q,a,b,h _ _ c⟩
theorem A7 (F:X.A.units+16 < JH):OpR X (Il .Eq) (l2 X.K wEq):=by
 intro pins s σ H x y v u Q I rx ry h;obtain ⟨d,e,M,rm,rd,re,p,q,j,z,k⟩:=h;obtain ⟨as,ra⟩:=bR I rm _ _ _ _ _ j rd rx;obtain ⟨bs,rb'⟩:=bR I rm _ _ _ _ _ z re ry;obtain ⟨p1,p2⟩:=ck _ _ _ j;obtain ⟨G,B⟩:=ck _ _ _ z;exact SeqAt.compareEq_reads ra rb' p2 B (by lia) ⟨.bl _,H,I,rfl,k _ H Ext.refl rm (Rm.mpr rfl)⟩
theorem A8 (F:X.A.units+16 < JH):OpR X (Il .NotEq) (l2 X.K wNe):=by
 intro pins s σ H x y v u Q I rx ry h;obtain ⟨d,e,M,rm,rd,re,p,q,j,z,k⟩:=h;obtain ⟨as,ra⟩:=bR I rm _ _ _ _ _ j rd rx;obtain ⟨bs,rb'⟩:=bR I rm _ _ _ _ _ z re ry;obtain ⟨p1,p2⟩:=ck _ _ _ j;obtain ⟨G,B⟩:=ck _ _ _ z;exact SeqAt.compareNe_reads ra rb' p2 B (by lia) ⟨.bl _,H,I,rfl,k _ H Ext.refl rm (Rm.mpr rfl)⟩
noncomputable def wLt:R2d
 | .int i, .int j,M,Q=>Q (.bl (decide (i < j))) M
 | _,_,_,_=>False
noncomputable def wLe:R2d
 | .int i, .int j,M,Q=>Q (.bl (decide (i<=j))) M
 | _,_,_,_=>False
noncomputable def wGt:R2d
 | .int i, .int j,M,Q=>Q (.bl (decide (j < i))) M
 | _,_,_,_=>False
noncomputable def wGe:R2d
 | .int i, .int j,M,Q=>Q (.bl (decide (j<=i))) M
 | _,_,_,_=>False
theorem A9:ar wLt:=by
 intro x y M Q Q' h q
 cases x <;> cases y <;> first | exact q.elim | exact h _ _ q
theorem Aa:ar wLe:=by
 intro x y M Q Q' h q
 cases x <;> cases y <;> first | exact q.elim | exact h _ _ q
theorem Ab:ar wGt:=by
 intro x y M Q Q' h q
 cases x <;> cases y <;> first | exact q.elim | exact h _ _ q
theorem Ac:ar wGe:=by
 intro x y M Q Q' h q
 cases x <;> cases y <;> first | exact q.elim | exact h _ _ q
theorem Ad:OpR X (Il .Lt) (l2 X.K wLt):=by
 refine OpR.of Dv fun v u H Q h => ?_;obtain ⟨x,y,M,rm,rx,ry,q⟩:=h
 cases x <;> cases y <;> first
  | exact q.elim
  | (cases Rj.mp rx;cases Rj.mp ry;exact ⟨_,_,rfl,rfl,q _ H Ext.refl rm (Rm.mpr rfl)⟩)
theorem Ae:OpR X (Il .LtE) (l2 X.K wLe):=by
 refine OpR.of Dw fun v u H Q h => ?_;obtain ⟨x,y,M,rm,rx,ry,q⟩:=h
 cases x <;> cases y <;> first
  | exact q.elim
  | (cases Rj.mp rx;cases Rj.mp ry;exact ⟨_,_,rfl,rfl,q _ H Ext.refl rm (Rm.mpr rfl)⟩)
theorem Af:OpR X (Il .Gt) (l2 X.K wGt):=by
 refine OpR.of Dx fun v u H Q h => ?_;obtain ⟨x,y,M,rm,rx,ry,q⟩:=h
 cases x <;> cases y <;> first
  | exact q.elim
  | (cases Rj.mp rx;cases Rj.mp ry;exact ⟨_,_,rfl,rfl,q _ H Ext.refl rm (Rm.mpr rfl)⟩)
theorem Ag:OpR X (Il .GtE) (l2 X.K wGe):=by
 refine OpR.of Dy fun v u H Q h => ?_;obtain ⟨x,y,M,rm,rx,ry,q⟩:=h
 cases x <;> cases y <;> first
  | exact q.elim
  | (cases Rj.mp rx;cases Rj.mp ry;exact ⟨_,_,rfl,rfl,q _ H Ext.refl rm (Rm.mpr rfl)⟩)
end
end
section
noncomputable def wIx:R2d:=fun x y M Q=>match x with
 | .tup ds => ∃ i d,y = .int i/\atI ds i=some d/\Q d M
 | .con ds => ∃ i d,y = .int i/\atI ds i=some d/\Q d M
 | .ref a=>(∃ ds i d,M a=some (.lst ds)/\y = .int i/\atI ds i=some d/\Q d M)∨(∃ t kvs d,M a=some (.dct t kvs)/\gK t y=true/\dget kvs y=some d/\Q d M) ∨ ∃ kvs d,M a=some (.fdc kvs)/\bQ y=true/\dget kvs y=some d/\Q d M
 | _=>False
theorem qw:ar wIx:=by
 intro x y M Q Q' h q
 cases x with
 | tup ds=>obtain ⟨i,d,e,e2,q⟩:=q;exact ⟨i,d,e,e2,h _ _ q⟩
 | con ds=>obtain ⟨i,d,e,e2,q⟩:=q;exact ⟨i,d,e,e2,h _ _ q⟩
 | ref a =>
   rcases q with ⟨ds,i,d,e1,e2,j,q⟩ | ⟨t,kvs,d,e1,e2,j,q⟩ | ⟨kvs,d,e1,e2,j,q⟩
   ·exact .inl ⟨ds,i,d,e1,e2,j,h _ _ q⟩
   ·exact .inr (.inl ⟨t,kvs,d,e1,e2,j,h _ _ q⟩)
   ·exact .inr (.inr ⟨kvs,d,e1,e2,j,h _ _ q⟩)
 | _=>exact q.elim
theorem jd {K:Frag} {H:Hp} {ds:List D} {vs:List V} {i:Int} {d:D} (r:RDs K H ds vs) (e:atI ds i=some d):∃ v,atI vs i=some v/\RD K H d v:=by
 unfold atI at e ⊢;rw [r.length]
 cases q:ixN ds.length i with
 | none=>rw [q] at e;cases e
 | some j =>
   rw [q] at e;exact r.get e
theorem kr {K:Frag} {H:Hp} {k:D} {q:Key} {v:V} (r:RKey k q) (h:RD K H k v):v=kV q:=by
 cases k <;> first
  | exact r.elim
  | (cases (show q=_ from r);first | exact Rj.mp h | exact Rt.mp h)
theorem fy {K:Frag} {H:Hp}:∀ {ds:List D} {ks:List Key} {vs:List V},HZ RKey ds ks->RDs K H ds vs->vs=ks.map kV
 | _,_,vs, .nil,h=>by rw [RDs.nil_iff.mp h];rfl
 | _,_,vs, .cons r t,h=>by
   obtain ⟨v,vr,rfl,h1,h2⟩:=Rl.mp h;rw [kr r h1,fy t h2];rfl
theorem RKey.inj {d e:D} {k:Key} (a:RKey d k) (b:RKey e k):d=e:=by
 cases d <;> first
  | exact a.elim
  | (cases e <;> first | exact b.elim | (cases (show k=_ from a);injection (show _=_ from b) with z;rw [z]) | (cases (show k=_ from a);cases (show _=_ from b)))
theorem RKeysP.inj:∀ {d e:List D} {k:List Key},HZ RKey d k->HZ RKey e k->d=e
 | _,_,_, .nil, .nil=>rfl
 | _,_,_, .cons r t, .cons r' t'=>by rw [r.inj r',RKeysP.inj t t']
theorem RKeys.inj {d e:D} {k:List Key} (a:RKeys d k) (b:RKeys e k):d=e:=by
 cases d <;> first
  | exact a.elim
  | (cases e <;> first | exact b.elim | exact congrArg D.tup (RKeysP.inj a b))
theorem RKey.fun {d:D} {k k':Key} (a:RKey d k) (b:RKey d k'):k=k':=by
 cases d <;> first
  | exact a.elim
  | (cases (show k=_ from a);cases (show k'=_ from b);rfl)
theorem RKeysP.fun:∀ {d:List D} {k k':List Key},HZ RKey d k->HZ RKey d k'->k=k'
 | _,_,_, .nil, .nil=>rfl
 | _,_,_, .cons r t, .cons r' t'=>by rw [r.fun r',RKeysP.fun t t']
theorem RKeys.fun {d:D} {k k':List Key} (a:RKeys d k) (b:RKeys d k'):k=k':=by
 cases d <;> first
  | exact a.elim
  | exact RKeysP.fun a b
section
variable {κ:Type} [DecidableEq κ] {K:Frag} {H:Hp} {RK:D -> κ -> Prop} (inj:∀ {d e:D} {k : κ},RK d k->RK e k->d=e) (fn:∀ {d:D} {k k' : κ},RK d k->RK d k'->k=k')
include inj fn
theorem fA {k:D} {q : κ} (j:RK k q):∀ {kvs:List (D×D)} {ps:List (κ × V)},HZ (fun p r=>RK p.1 r.1/\RD K H p.2 r.2) kvs ps ->
 (∀ d,dget kvs k=some d -> ∃ v,bP ps q=some v/\RD K H d v)/\(dget kvs k=none->bP ps q=none)
 | _,_, .nil=>⟨fun d e=>by simp [dget] at e,fun _=>rfl⟩
 | _,_, .cons (a:=p) (b:=r) (l₂ := ps) B t=>by
   obtain ⟨F,G⟩:=fA j t
   by_cases e:p.1=k
   ·have e':r.1=q:=by
     have h1:=B.1;rw [e] at h1;exact fn h1 j
    refine ⟨fun d he => ?_,fun he => ?_⟩
    ·simp [dget,Jc,e] at he;subst he;exact ⟨r.2,fq e',B.2⟩
    ·simp [dget,Jc,e] at he
   ·have e' : ¬ r.1=q:=fun z=>e (by
     have h1:=B.1;rw [z] at h1;exact inj h1 j)
    have eq1:∀ l:List (D×D),dget (p::l) k=dget l k:=fun l=>by simp [dget,Jc,e]
    have eq2:bP (r::ps) q=bP ps q:=fu e';refine ⟨fun d he => ?_,fun he => ?_⟩
    ·rw [eq1] at he;rw [eq2];exact F d he
    ·rw [eq1] at he;rw [eq2];exact G he
end
section
variable {X:Cx}
theorem uI {K:Frag} {H:Hp} {a:Addr} {ps:List (List Key×V)} {kvs:List (D×D)} {k:D} {v:V} (B:Rd H a (.dT ps)) (pr:HZ (fun (p:D×D) (q:List Key×V)=>RKeys p.1 q.1/\RD K H p.2 q.2) kvs ps) (ok:bQ k=true) (rk:RD K H k v) :
 ∃ o,DGet H a v o/\(∀ d,dget kvs k=some d -> ∃ w,o=some w/\RD K H d w)/\(dget kvs k=none->o=none):=by
 obtain ⟨q,j⟩:=kh ok;obtain ⟨g1,g2⟩:=fA (RK:=RKeys) RKeys.inj RKeys.fun j pr;refine ⟨bP ps q, ?_,g1,g2⟩
 cases k <;> first
  | exact j.elim
  | (obtain ⟨b,us,rfl,z,ru⟩:=RB (ki ok) rk
     rw [fy j ru] at z;exact .inr ⟨ps,q,b,B,rfl,z,rfl⟩)
theorem qA {K:Frag} {M:Mem} {H:Hp} {a:Addr} {t:Bool} {kvs:List (D×D)} {k:D} {v:V} (rm:RM K M H) (e:M a=some (.dct t kvs)) (ok:gK t k=true) (rk:RD K H k v) :
 ∃ o,DGet H a v o/\(∀ d,dget kvs k=some d -> ∃ w,o=some w/\RD K H d w)/\(dget kvs k=none->o=none):=by
 have ro:=rm a _ e
 cases t with
 | false =>
   obtain ⟨ps,j,pr⟩:=ro;obtain ⟨q,z⟩:=nj (show fw k=true from ok);obtain ⟨g1,g2⟩:=fA (RK:=RKey) RKey.inj RKey.fun z pr;refine ⟨bP ps q, ?_,g1,g2⟩;rw [kr z rk];exact DGet.k j
 | true =>
   obtain ⟨ps,j,pr⟩:=ro;exact uI (.inl j) pr ok rk
theorem Ah (j:X.A.units+1 < JH):IxR X (fun x y H Q => ∃ a v,x = .ref a/\DGet H a y (some v)/\Q v H):=by
 intro value slice pins s σ H x y v u Q I rx ry h hs;obtain ⟨a,w,rfl,g,q⟩:=h
 cases rx
 have hd:IsD H a:=by
  rcases g with ⟨kvs,k,e,_⟩ | ⟨kvs,k,b,e,_⟩
  ·exact .inl ⟨kvs,e⟩
  ·exact .inr ⟨kvs,e⟩
 obtain ⟨z,_⟩:=j6 I hd;exact tail_any z PySem.F.slot_dict_getitem.lookup (uq j I g ry fun w' s' I' r'=>⟨w,H,I',r',q⟩) hs
theorem EA (B:X.A.units+1 < JH):IxR X (l2 X.K wIx):=by
 refine IxR.of (ix_list.or (ix_tup.or (Ah B))) fun v u H Q h => ?_;obtain ⟨x,y,M,rm,rx,ry,q⟩:=h
 cases x with
 | tup ds =>
   obtain ⟨i,d,rfl,e,q⟩:=q;obtain ⟨a,vs,rfl,j,rs⟩:=Ro rx
   cases Rj.mp ry
   obtain ⟨w,hw,rw'⟩:=jd rs e;exact .inr (.inl ⟨a,vs,i,w,rfl,rfl,j,hw,q w H Ext.refl rm rw'⟩)
 | con ds =>
   obtain ⟨i,d,rfl,e,q⟩:=q;obtain ⟨a,vs,rfl,j,rs⟩:=Rq.mp rx
   cases Rj.mp ry
   obtain ⟨w,hw,rw'⟩:=jd rs e;exact .inl ⟨a,vs,i,w,rfl,rfl,j.sq,hw,q w H Ext.refl rm rw'⟩
 | ref a =>
   cases Rk.mp rx
   rcases q with ⟨ds,i,d,e1,rfl,z,q⟩ | ⟨t,kvs,d,e1,e2,z,q⟩ | ⟨kvs,d,e1,e2,z,q⟩
   ·cases Rj.mp ry
    obtain ⟨vs,j,rs⟩:=rm _ _ e1;obtain ⟨w,hw,rw'⟩:=jd rs z;exact .inl ⟨a,vs,i,w,rfl,rfl,SqL.of j,hw,q w H Ext.refl rm rw'⟩
   ·obtain ⟨o,g,g1,_⟩:=qA rm e1 e2 ry;obtain ⟨w,rfl,rw'⟩:=g1 d z;exact .inr (.inr ⟨a,w,rfl,g,q w H Ext.refl rm rw'⟩)
   ·obtain ⟨ob,ps,F,pr⟩:=rm _ _ e1;obtain ⟨o,g,g1,_⟩:=uI (.inr ⟨ob,F⟩) pr e2 ry;obtain ⟨w,rfl,rw'⟩:=g1 d z;exact .inr (.inr ⟨a,w,rfl,g,q w H Ext.refl rm rw'⟩)
 | _=>exact q.elim
noncomputable def iC (M:Mem):D->Option Nat
 | .tup ds=>some ds.length
 | .con ds=>some ds.length
 | .ref a=>match M a with
  | some (.lst ds)=>some ds.length
  | _=>none
 | _=>none
noncomputable def fB:RAd:=fun xs M Q => ∃ x n,xs=[x]/\iC M x=some n/\Q (.int n) M
theorem nD:aX fB:=fun _ _ _ _ h ⟨x,n,e,l,q⟩=>⟨x,n,e,l,h _ _ q⟩
theorem RDs.one {K:Frag} {H:Hp} {d:D} {vs:List V} (h:RDs K H [d] vs):∃ v,vs=[v]/\RD K H d v:=by
 obtain ⟨v,r,rfl,h1,h2⟩:=Rl.mp h;rw [RDs.nil_iff.mp h2];exact ⟨v,rfl,h1⟩
theorem RDs.two {K:Frag} {H:Hp} {d e:D} {vs:List V} (h:RDs K H [d,e] vs):∃ v u,vs=[v,u]/\RD K H d v/\RD K H e u:=by
 obtain ⟨v,r,rfl,h1,h2⟩:=Rl.mp h;obtain ⟨u,rfl,j⟩:=RDs.one h2;exact ⟨v,u,rfl,h1,j⟩
theorem so:CallR X (.builtin "len") (lR X.K fB):=by
 refine CallR.of wV fun vs H Q h => ?_;obtain ⟨ds,M,rm,rs,x,n,rfl,l,q⟩:=h;obtain ⟨v,rfl,r⟩:=rs.one;refine ⟨v,n,rfl, ?_,q _ H Ext.refl rm (Rj.mpr rfl)⟩
 cases x with
 | tup ds =>
   cases l
   obtain ⟨a,us,rfl,j,ru⟩:=Ro r;exact .inr ⟨us,j,ru.length.symm⟩
 | con ds =>
   cases l
   obtain ⟨a,us,rfl,j,ru⟩:=Rq.mp r;exact .inl ⟨us,j.sq,ru.length.symm⟩
 | ref a =>
   cases Rk.mp r
   simp only [iC] at l
   cases e:M a with
   | none=>rw [e] at l;cases l
   | some o =>
     rw [e] at l
     cases o with
     | dct _ _=>cases l
     | fdc _=>cases l
     | lst ds =>
       cases l
       obtain ⟨us,j,ru⟩:=rm _ _ e;exact .inl ⟨us,SqL.of j,ru.length.symm⟩
 | _=>cases l
noncomputable def nE:RAd:=fun xs M Q => ∃ i,xs=[.int i]/\Q (.int (if i < 0 then -i else i)) M
noncomputable def mM:RAd:=fun xs M Q => ∃ i j,xs=[.int i, .int j]/\Q (.int (if j < i then j else i)) M
noncomputable def nF:RAd:=fun xs M Q=>(∃ i,xs=[.int i]/\Q (.int i) M) ∨ ∃ k,xs=[.bl k]/\Q (.int (if k then 1 else 0)) M
theorem nG:aX nE:=fun _ _ _ _ h ⟨i,e,q⟩=>⟨i,e,h _ _ q⟩
theorem lj:aX mM:=fun _ _ _ _ h ⟨i,j,e,q⟩=>⟨i,j,e,h _ _ q⟩
theorem nH:aX nF:=fun _ _ _ _ h q=>q.elim (fun ⟨i,e,q⟩ => .inl ⟨i,e,h _ _ q⟩) fun ⟨i,e,q⟩ => .inr ⟨i,e,h _ _ q⟩
theorem sr:CallR X (.builtin "abs") (lR X.K nE):=by
 refine CallR.of wU fun vs H Q h => ?_;obtain ⟨ds,M,rm,rs,i,rfl,q⟩:=h;obtain ⟨v,rfl,r⟩:=rs.one
 cases Rj.mp r
 exact ⟨i,rfl,q _ H Ext.refl rm (Rj.mpr rfl)⟩
theorem qd (z:X.calm=true):CallR X (.builtin "min") (lR X.K mM):=by
 refine CallR.of (ub z) fun vs H Q h => ?_;obtain ⟨ds,M,rm,rs,i,j,rfl,q⟩:=h;obtain ⟨v,u,rfl,B,F⟩:=rs.two
 cases Rj.mp B
 cases Rj.mp F
 exact ⟨i,j,rfl,q _ H Ext.refl rm (Rj.mpr rfl)⟩
theorem su:CallR X (.type "int") (lR X.K nF):=by
 refine CallR.of uc fun vs H Q h => ?_;obtain ⟨ds,M,rm,rs,⟨i,rfl,q⟩ | ⟨i,rfl,q⟩⟩:=h
 ·obtain ⟨v,rfl,r⟩:=rs.one
  cases Rj.mp r
  exact .inl ⟨i,rfl,q _ H Ext.refl rm (Rj.mpr rfl)⟩
 ·obtain ⟨v,rfl,r⟩:=rs.one
  cases Rm.mp r
  exact .inr ⟨i,rfl,q _ H Ext.refl rm (Rj.mpr rfl)⟩
noncomputable def aq (M:Mem):D->Option (List D)
 | .tup ds=>some ds
 | .con ds=>some ds
 | .ref a=>match M a with
  | some (.lst ds)=>some ds
  | _=>none
 | _=>none
theorem uJ {K:Frag} {M:Mem} {H:Hp} {x:D} {ds:List D} {v:V} (rm:RM K M H) (r:RD K H x v) (e:aq M x=some ds):∃ p vs,v = .ref p/\(SqL K H p vs∨SqT K H p vs)/\RDs K H ds vs:=by
 cases x with
 | tup es =>
   cases e
   obtain ⟨a,us,rfl,j,ru⟩:=Ro r;exact ⟨a,us,rfl, .inr j,ru⟩
 | con es =>
   cases e
   obtain ⟨a,us,rfl,j,ru⟩:=Rq.mp r;exact ⟨a,us,rfl, .inl j.sq,ru⟩
 | ref a =>
   cases Rk.mp r
   simp only [aq] at e
   cases e0:M a with
   | none=>rw [e0] at e;cases e
   | some o =>
     rw [e0] at e
     cases o with
     | dct _ _=>cases e
     | fdc _=>cases e
     | lst es =>
       cases e
       obtain ⟨us,j,ru⟩:=rm _ _ e0;exact ⟨a,us,rfl, .inl (SqL.of j),ru⟩
 | _=>cases e
noncomputable def sx:RAd:=fun xs M Q => ∃ x ds,xs=[x]/\aq M x=some ds /\ ∀ p,M p=none->Q (.ref p) (ag M p (.lst ds))
noncomputable def nI:RAd:=fun xs M Q => ∃ x ds,xs=[x]/\aq M x=some ds/\Q (.tup ds) M
theorem ll:aX sx:=fun _ _ _ _ h ⟨x,ds,e,l,q⟩=>⟨x,ds,e,l,fun p n=>h _ _ (q p n)⟩
theorem je:aX nI:=fun _ _ _ _ h ⟨x,ds,e,l,q⟩=>⟨x,ds,e,l,h _ _ q⟩
theorem qe:CallR X (.type "list") (lR X.K sx):=by
 refine CallR.of n0 fun vs H Q h => ?_;obtain ⟨ds,M,rm,rs,x,es,rfl,l,q⟩:=h;obtain ⟨v,rfl,r⟩:=rs.one;obtain ⟨p,us,rfl,sq,ru⟩:=uJ rm r l;exact ⟨p,us,rfl,sq,fun l' n=>cI rm ru q n⟩
theorem nJ:CallR X (.type "tuple") (lR X.K nI):=by
 refine CallR.of mC fun vs H Q h => ?_;obtain ⟨ds,M,rm,rs,x,es,rfl,l,q⟩:=h;obtain ⟨v,rfl,r⟩:=rs.one
 cases x with
 | tup ds' =>
   cases l
   obtain ⟨a,us,rfl,j,ru⟩:=Ro r;exact ⟨a,us,rfl, .inr ⟨j,q _ H Ext.refl rm r⟩⟩
 | con ds' =>
   cases l
   obtain ⟨a,us,rfl,j,ru⟩:=Rq.mp r;exact ⟨a,us,rfl, .inl ⟨j.sq,fun l' n=>dC rm ru q n⟩⟩
 | ref a =>
   cases Rk.mp r
   simp only [aq] at l
   cases e0:M a with
   | none=>rw [e0] at l;cases l
   | some o =>
     rw [e0] at l
     cases o with
     | dct _ _=>cases l
     | fdc _=>cases l
     | lst es' =>
       cases l
       obtain ⟨us,j,ru⟩:=rm _ _ e0;exact ⟨a,us,rfl, .inl ⟨SqL.of j,fun l' n=>dC rm ru q n⟩⟩
 | _=>cases l
end
end
section
section
variable {X:Cx}
noncomputable def xE (M:Mem):D->Option Bool
 | .non=>some false
 | .bl b=>some b
 | .int i=>some (i != 0)
 | .tup ds=>some (!ds.isEmpty)
 | .con ds=>some (!ds.isEmpty)
 | .ref a=>match M a with
  | some (.lst ds)=>some (!ds.isEmpty)
  | _=>none
 | _=>none
noncomputable def nK (t:TEd):TTd:=fun ρ M Q=>t ρ M fun x M1 => ∃ b,xE M1 x=some b/\Q b M1
theorem xF {t:TEd} (h:ab t):aG (nK t):=fun ρ M Q Q' i q=>h _ _ _ _ (fun x z ⟨k,e,j⟩=>⟨k,e,i _ _ j⟩) q
theorem Cf {K:Frag} {M:Mem} {H:Hp} {x:D} {b:Bool} {v:V} (rm:RM K M H) (r:RD K H x v) (e:xE M x=some b):wQ K v H b:=by
 have emp:∀ {ds:List D} {vs:List V},RDs K H ds vs->(!ds.isEmpty) = !vs.isEmpty:=fun {ds vs} h=>by
  have l:=h.length
  cases ds <;> cases vs <;> first | rfl | (simp at l)
 cases x with
 | non=>cases e;cases Rr.mp r;rfl
 | bl k=>cases e;cases Rm.mp r;rfl
 | int i=>cases e;cases Rj.mp r;rfl
 | tup ds =>
   cases e
   obtain ⟨a,vs,rfl,j,rs⟩:=Ro r;exact .inr (.inl ⟨vs,j,emp rs⟩)
 | con ds =>
   cases e
   obtain ⟨a,vs,rfl,j,rs⟩:=Rq.mp r;exact .inl ⟨vs,j.sq,emp rs⟩
 | ref a =>
   cases Rk.mp r
   simp only [xE] at e
   cases e0:M a with
   | none=>rw [e0] at e;cases e
   | some o =>
     rw [e0] at e
     cases o with
     | dct _ _=>cases e
     | fdc _=>cases e
     | lst ds =>
       cases e
       obtain ⟨vs,j,rs⟩:=rm _ _ e0;exact .inl ⟨vs,SqL.of j,emp rs⟩
 | str _=>cases e
variable {a b:Expr} {ta tb:TEd} {pos:Pos}
theorem Cg (m:ab ta) (B:PE X a (lE X.K ta)) (he:∀ whole,isTrue a X.env whole=(do let v <- whole;Nm a.pos;holding [v] (truthy v))):PT X a (lT X.K (nK ta)):=by
 refine PT.imp (wR B he) fun σ H Q h => ?_;obtain ⟨ρ,M,rs,rm,q⟩:=h;exact ⟨ρ,M,rs,rm,m _ _ _ _ (fun x J ⟨k,e,F⟩ v H1 G j z=>⟨k,Cf j z e,F H1 G j⟩) q⟩
noncomputable def jf (t:TTd):TTd:=fun ρ M Q=>t ρ M fun c M1=>Q (!c) M1
theorem uK {t:TTd} (h:aG t):aG (jf t):=fun ρ M Q Q' i q=>h _ _ _ _ (fun c z j=>i _ _ j) q
theorem Ch {tA:TTd} (m:aG tA) (j:PT X a (lT X.K tA)):PT X (.UnaryOp .Not a pos) (lT X.K (jf tA)):=by
 refine PT.imp (Bz j) fun σ H Q h => ?_;obtain ⟨ρ,M,rs,rm,q⟩:=h;exact ⟨ρ,M,rs,rm,m _ _ _ _ (fun c B z=>z) q⟩
noncomputable def jg (t u:TTd):TTd:=fun ρ M Q=>t ρ M fun c M1=>if c=true then u ρ M1 Q else Q false M1
noncomputable def nL (t u:TTd):TTd:=fun ρ M Q=>t ρ M fun c M1=>if c=true then Q true M1 else u ρ M1 Q
theorem uL {t u:TTd} (h:aG t) (k:aG u):aG (jg t u):=fun ρ M Q Q' i q=>h _ _ _ _ (fun c z j=>by
 cases c with
 | true=>rw [if_pos rfl] at j ⊢;exact k _ _ _ _ i j
 | false=>rw [if_neg H0] at j ⊢;exact i _ _ j) q
theorem xG {t u:TTd} (h:aG t) (k:aG u):aG (nL t u):=fun ρ M Q Q' i q=>h _ _ _ _ (fun c z j=>by
 cases c with
 | true=>rw [if_pos rfl] at j ⊢;exact i _ _ j
 | false=>rw [if_neg H0] at j ⊢;exact k _ _ _ _ i j) q
theorem Ai {tA:TTd} (j:PT X a (lT X.K tA)):PW X (.BoolOp .And [a] pos) (lT X.K tA):=zI j
theorem Ci {tA:TTd} (j:PT X a (lT X.K tA)):PW X (.BoolOp .Or [a] pos) (lT X.K tA):=Bw j
theorem Cj {tA tB:TTd} {rest:List Expr} (mA:aG tA) (mB:aG tB) (F:PT X a (lT X.K tA)) (G:PW X (.BoolOp .And (b::rest) pos) (lT X.K tB)):PW X (.BoolOp .And (a::b::rest) pos) (lT X.K (jg tA tB)):=by
 refine PW.imp (By F G) fun σ H Q h => ?_;obtain ⟨ρ,M,rs,rm,q⟩:=h;refine ⟨ρ,M,rs,rm,mA _ _ _ _ (fun c J z H1 B j => ?_) q⟩
 cases c with
 | true=>rw [if_pos rfl] at z ⊢;exact ⟨ρ,J,rs.mono (B.stab rm),j,mB _ _ _ _ (fun d M2 k=>k.ext B) z⟩
 | false=>rw [if_neg H0] at z ⊢;exact z H1 B j
theorem DM {tA tB:TTd} {rest:List Expr} (mA:aG tA) (mB:aG tB) (F:PT X a (lT X.K tA)) (G:PW X (.BoolOp .Or (b::rest) pos) (lT X.K tB)):PW X (.BoolOp .Or (a::b::rest) pos) (lT X.K (nL tA tB)):=by
 refine PW.imp (Dj F G) fun σ H Q h => ?_;obtain ⟨ρ,M,rs,rm,q⟩:=h;refine ⟨ρ,M,rs,rm,mA _ _ _ _ (fun c J z H1 B j => ?_) q⟩
 cases c with
 | true=>rw [if_pos rfl] at z ⊢;exact z H1 B j
 | false=>rw [if_neg H0] at z ⊢;exact ⟨ρ,J,rs.mono (B.stab rm),j,mB _ _ _ _ (fun d M2 k=>k.ext B) z⟩
noncomputable def jh (ta tb:TEd):TEd:=fun ρ M Q=>ta ρ M fun x M1 => ∃ c,x = .bl c/\if c=true then tb ρ M1 Q else Q (.bl false) M1
noncomputable def nM (ta tb:TEd):TEd:=fun ρ M Q=>ta ρ M fun x M1 => ∃ c,x = .bl c/\if c=true then Q (.bl true) M1 else tb ρ M1 Q
noncomputable def ji (ta:TEd):TEd:=fun ρ M Q=>ta ρ M fun x M1 => ∃ c,x = .bl c/\Q (.bl (!c)) M1
theorem uM (h:ab ta) (k:ab tb):ab (jh ta tb):=fun ρ M Q Q' i q=>h _ _ _ _ (fun x z ⟨c,e,j⟩=>⟨c,e,by
 cases c with
 | true=>rw [if_pos rfl] at j ⊢;exact k _ _ _ _ i j
 | false=>rw [if_neg H0] at j ⊢;exact i _ _ j⟩) q
theorem xH (h:ab ta) (k:ab tb):ab (nM ta tb):=fun ρ M Q Q' i q=>h _ _ _ _ (fun x z ⟨c,e,j⟩=>⟨c,e,by
 cases c with
 | true=>rw [if_pos rfl] at j ⊢;exact i _ _ j
 | false=>rw [if_neg H0] at j ⊢;exact k _ _ _ _ i j⟩) q
theorem uN (h:ab ta):ab (ji ta):=fun ρ M Q Q' i q=>h _ _ _ _ (fun x z ⟨c,e,j⟩=>⟨c,e,i _ _ j⟩) q
theorem uO {op:BoolOp} {t:TEd} (h:PE X a (lE X.K t)):PE X (.BoolOp op [a] pos) (lE X.K t):=BA h
theorem Ck {rest:List Expr} (ma:ab ta) (mb:ab tb) (G:PE X a (lE X.K ta)) (J:PE X (.BoolOp .And (b::rest) pos) (lE X.K tb)):PE X (.BoolOp .And (a::b::rest) pos) (lE X.K (jh ta tb)):=by
 refine PE.imp (BB G J) fun σ H Q h => ?_;obtain ⟨ρ,M,rs,rm,q⟩:=h;refine ⟨ρ,M,rs,rm,ma _ _ _ _ (fun x L ⟨c,e,z⟩ v H1 B j F => ?_) q⟩;subst e;refine ⟨c,Rm.mp F, ?_⟩
 cases c with
 | true=>rw [if_pos rfl] at z ⊢;exact ⟨ρ,L,rs.mono (B.stab rm),j,mb _ _ _ _ (fun d M2 k=>k.ext B) z⟩
 | false=>rw [if_neg H0] at z ⊢;exact z _ H1 B j (Rm.mpr rfl)
theorem DN {rest:List Expr} (ma:ab ta) (mb:ab tb) (G:PE X a (lE X.K ta)) (J:PE X (.BoolOp .Or (b::rest) pos) (lE X.K tb)):PE X (.BoolOp .Or (a::b::rest) pos) (lE X.K (nM ta tb)):=by
 refine PE.imp (Dn G J) fun σ H Q h => ?_;obtain ⟨ρ,M,rs,rm,q⟩:=h;refine ⟨ρ,M,rs,rm,ma _ _ _ _ (fun x L ⟨c,e,z⟩ v H1 B j F => ?_) q⟩;subst e;refine ⟨c,Rm.mp F, ?_⟩
 cases c with
 | true=>rw [if_pos rfl] at z ⊢;exact z _ H1 B j (Rm.mpr rfl)
 | false=>rw [if_neg H0] at z ⊢;exact ⟨ρ,L,rs.mono (B.stab rm),j,mb _ _ _ _ (fun d M2 k=>k.ext B) z⟩
theorem Cl (ma:ab ta) (B:PE X a (lE X.K ta)):PE X (.UnaryOp .Not a pos) (lE X.K (ji ta)):=by
 refine PE.imp (BC B) fun σ H Q h => ?_;obtain ⟨ρ,M,rs,rm,q⟩:=h;refine ⟨ρ,M,rs,rm,ma _ _ _ _ (fun x J ⟨c,e,F⟩ v H1 G j z => ?_) q⟩;subst e;exact ⟨c,Rm.mp z,F _ H1 G j (Rm.mpr rfl)⟩
noncomputable def wIf (t:TTd) (ta tb:TEd):TEd:=fun ρ M Q=>t ρ M fun c M1=>if c=true then ta ρ M1 Q else tb ρ M1 Q
theorem Aj {t:TTd} (h:aG t) (z:ab ta) (B:ab tb):ab (wIf t ta tb):=fun ρ M Q Q' i q=>h _ _ _ _ (fun c F j=>by
 cases c with
 | true=>rw [if_pos rfl] at j ⊢;exact z _ _ _ _ i j
 | false=>rw [if_neg H0] at j ⊢;exact B _ _ _ _ i j) q
theorem DO {c:Expr} {t:TTd} (mt:aG t) (ma:ab ta) (mb:ab tb) (G:PT X c (lT X.K t)) (J:PE X a (lE X.K ta)) (L:PE X b (lE X.K tb)):PE X (.IfExp c a b pos) (lE X.K (wIf t ta tb)):=by
 refine PE.imp (wF G J L) fun σ H Q h => ?_;obtain ⟨ρ,M,rs,rm,q⟩:=h;refine ⟨ρ,M,rs,rm,mt _ _ _ _ (fun x F z H1 B j => ?_) q⟩
 cases x with
 | true=>rw [if_pos rfl] at z ⊢;exact ⟨ρ,F,rs.mono (B.stab rm),j,ma _ _ _ _ (fun d M2 k=>k.ext B) z⟩
 | false=>rw [if_neg H0] at z ⊢;exact ⟨ρ,F,rs.mono (B.stab rm),j,mb _ _ _ _ (fun d M2 k=>k.ext B) z⟩
noncomputable def iD (xs:List D) (lo hi:Option Int):List D:=(xs.drop (HT.sIx xs.length 0 lo)).take (HT.sIx xs.length xs.length hi - HT.sIx xs.length 0 lo)
theorem nN {K:Frag} {H:Hp} {ds:List D} {vs:List V} (r:RDs K H ds vs) (lo hi:Option Int):RDs K H (iD ds lo hi) (fT vs lo hi):=by
 unfold iD fT;rw [r.length];exact (r.drop _).take _
noncomputable abbrev TOd:=av->Mem->(Option Int->Mem->Prop)->Prop
def fC (T:TOd):Prop := ∀ ρ M Q Q',(∀ d M',Q d M'->Q' d M')->T ρ M Q->T ρ M Q'
noncomputable def eT:TOd:=fun _ M Q=>Q none M
noncomputable def jj (t:TEd):TOd:=fun ρ M Q=>t ρ M fun x M1 => ∃ i,x = .int i/\Q (some i) M1
theorem qf:fC eT:=fun _ _ _ _ h q=>h _ _ q
theorem uP (h:ab ta):fC (jj ta):=fun ρ M Q Q' i q=>h _ _ _ _ (fun x z ⟨c,e,j⟩=>⟨c,e,i _ _ j⟩) q
noncomputable def lO (K:Frag) (T:TOd):TO:=fun σ H Q => ∃ ρ M,RS K H σ ρ /\ RM K M H/\T ρ M (fun o M' => ∀ H',Ext M H M' H'->RM K M' H'->Q o H')
theorem Ak:PO X none (lO X.K eT):=fun pins s σ H Q I h=>by
 obtain ⟨ρ,M,rs,rm,q⟩:=h;exact zV pins s σ H Q I (q H Ext.refl rm)
theorem Al {e:Expr} (m:ab ta) (h:PE X e (lE X.K ta)):PO X (some e) (lO X.K (jj ta)):=fun pins s σ H Q I hq=>by
 obtain ⟨ρ,M,rs,rm,q⟩:=hq;refine zW h pins s σ H Q I ⟨ρ,M,rs,rm,m _ _ _ _ (fun x G ⟨i,e,B⟩ v H1 F j z => ?_) q⟩;subst e;exact ⟨i,Rj.mp z,B H1 F j⟩
noncomputable def dP:D->Option Int->Option Int->Mem->QD->Prop:=fun x lo hi M Q=>match x with
 | .tup ds=>Q (.tup (iD ds lo hi)) M
 | .ref a => ∃ ds,M a=some (.lst ds) /\ ∀ p,M p=none->Q (.ref p) (ag M p (.lst (iD ds lo hi)))
 | .con ds => ∀ p,M p=none->Q (.ref p) (ag M p (.lst (iD ds lo hi)))
 | _=>False
noncomputable def wSl (te:TEd) (tl th:TOd):TEd:=fun ρ M Q=>te ρ M fun x M1=>tl ρ M1 fun l M2=>th ρ M2 fun u M3=>dP x l u M3 Q
theorem sy {x:D} {lo hi:Option Int} {M:Mem} {Q Q':QD} (h:∀ d M',Q d M'->Q' d M') (q:dP x lo hi M Q):dP x lo hi M Q':=by
 cases x with
 | tup ds=>exact h _ _ q
 | ref a=>obtain ⟨ds,e,q⟩:=q;exact ⟨ds,e,fun p n=>h _ _ (q p n)⟩
 | con ds=>exact fun p n=>h _ _ (q p n)
 | _=>exact q.elim
theorem Am {tl th:TOd} (m:ab ta) (ml:fC tl) (mh:fC th):ab (wSl ta tl th):=fun ρ M Q Q' i q =>
 m _ _ _ _ (fun x F j=>ml _ _ _ _ (fun l M2 z=>mh _ _ _ _ (fun u G B=>sy i B) z) j) q
theorem DP {e:Expr} {lo hi:Option Expr} {tl th:TOd} {p2:Pos} (m:ab ta) (ml:fC tl) (mh:fC th) (he:PE X e (lE X.K ta)) (hl:PO X lo (lO X.K tl)) (hu:PO X hi (lO X.K th)) :
 PE X (.Subscript e (.Slice lo hi none p2) pos) (lE X.K (wSl ta tl th)):=by
 refine PE.imp (wY (sl_tup.or (sl_list.or xf)) he hl hu) fun σ H Q h => ?_;obtain ⟨ρ,M,rs,rm,q⟩:=h;refine ⟨ρ,M,rs,rm,m _ _ _ _ (fun x M1 q1 v H1 O G U => ?_) q⟩;refine ⟨ρ,M1,rs.mono (O.stab rm),G,ml _ _ _ _ (fun l M2 q2 H2 Y L => ?_) q1⟩;refine ⟨ρ,M2,(rs.mono (O.stab rm)).mono (Y.stab G),L,mh _ _ _ _ (fun u M3 z H3 Z j => ?_) q2⟩;have B:=O.trans (Y.trans Z);have F:=(U.mono (Y.stab G)).mono (Z.stab L)
 cases x with
 | tup ds =>
   obtain ⟨a,vs,rfl,J,r⟩:=Ro F
   by_cases hw:HT.sIx vs.length 0 l=0/\HT.sIx vs.length vs.length u=vs.length
   ·refine .inr (.inr ⟨a,vs,rfl,J,hw, ?_⟩);have e:iD ds l u=ds:=by
     unfold iD;rw [<- r.length,hw.1,hw.2,r.length];simp
    simp only [dP] at z;rw [e] at z;exact z.ext B _ H3 Ext.refl j F
   ·simp only [dP] at z;exact .inl ⟨a,vs,rfl,J,hw,fun p n=>dC j (nN r l u) (z.ext B) n⟩
 | ref a =>
   cases Rk.mp F
   obtain ⟨ds,e,z⟩:=z;obtain ⟨vs,J,r⟩:=j _ _ e;exact .inr (.inl ⟨a,vs,rfl,SqL.of J,fun p n=>cI j (nN r l u) (fun p' n'=>(z p' n').ext B) n⟩)
 | con ds =>
   obtain ⟨a,vs,rfl,J,r⟩:=Rq.mp F;exact .inr (.inl ⟨a,vs,rfl,J.sq,fun p n=>cI j (nN r l u) (fun p' n'=>(z p' n').ext B) n⟩)
 | _=>exact z.elim
end
end
section
section
variable {X:Cx}
noncomputable def tyN (M:Mem):D->Option String
 | .non=>some "NoneType"
 | .bl _=>some "bool"
 | .int _=>some "int"
 | .str _=>some "str"
 | .tup _=>some "tuple"
 | .ref a=>match M a with
  | some (.lst _)=>some "list"
  | some (.dct _ _)=>some "dict"
  | _=>none
 | .con _=>none
noncomputable def dQ (T t:String):Bool:=t==T || (t == "bool" && T == "int")
theorem zd {K:Frag} {M:Mem} {H:Hp} {x:D} {t:String} {v:V} (rm:RM K M H) (r:RD K H x v) (e:tyN M x=some t):ca K H v (.type t):=by
 cases x with
 | non=>cases e;cases Rr.mp r;exact .non
 | bl k=>cases e;cases Rm.mp r;exact .bl k
 | int i=>cases e;cases Rj.mp r;exact .int i
 | str i=>cases e;cases Rt.mp r;exact .str i
 | tup ds =>
   cases e
   obtain ⟨a,vs,rfl,j,rs⟩:=Ro r;exact .tup j
 | con ds=>cases e
 | ref a =>
   cases Rk.mp r
   simp only [tyN] at e
   cases e0:M a with
   | none=>rw [e0] at e;cases e
   | some o =>
     rw [e0] at e
     cases o with
     | lst ds =>
       cases e
       obtain ⟨vs,j,rs⟩:=rm _ _ e0;exact .lst j
     | dct t kvs =>
       cases e
       have ro:=rm _ _ e0
       cases t with
       | false=>obtain ⟨ps,j,_⟩:=ro;exact .dK j
       | true=>obtain ⟨ps,j,_⟩:=ro;exact .dT j
     | fdc kvs=>cases e
noncomputable def cr:List String := ["NoneType", "bool", "int", "str", "tuple", "list", "dict"]
theorem ku (K:Frag):∀ T∈["bool", "int", "str", "tuple", "list", "dict"], ∀ t∈cr,PySem.W.kitOne K (.type t) (.type T)=some (dQ T t):=by
 intro T j t q;simp only [cr,Ha,Ht,or_false] at j q
 rcases j with rfl | rfl | rfl | rfl | rfl | rfl <;> rcases q with rfl | rfl | rfl | rfl | rfl | rfl | rfl <;> rfl
noncomputable def jk (T:String) (ta:TEd):TEd:=fun ρ M Q=>ta ρ M fun x M1 => ∃ t,tyN M1 x=some t/\Q (.bl (dQ T t)) M1
theorem uQ {T:String} {ta:TEd} (h:ab ta):ab (jk T ta):=fun ρ M Q Q' i q=>h _ _ _ _ (fun x z ⟨t,e,j⟩=>⟨t,e,i _ _ j⟩) q
theorem qB {M:Mem} {x:D} {t:String} (e:tyN M x=some t):t∈cr:=by
 cases x with
 | ref a =>
   simp only [tyN] at e
   cases e0:M a with
   | none=>rw [e0] at e;cases e
   | some o=>rw [e0] at e;cases o <;> cases e <;> simp [cr]
 | con _=>cases e
 | _=>cases e;simp [cr]
theorem uR (T:String) (j:T∈["bool", "int", "str", "tuple", "list", "dict"]):CallR X (.builtin "isinstance") (fun vs H Q => ∃ v t,vs=[v, .ty T]/\ca X.K H v (.type t)/\t∈cr/\Q (.bl (dQ T t)) H):=by
 intro pins s σ H xs us Q I r h;obtain ⟨v,t,rfl,ty,z,q⟩:=h;obtain ⟨u,c,rfl,ru,rc⟩:=mH r
 cases rc
 exact ue I ru ty (ku X.K T j t z) fun tk=>⟨.bl _,H,I.tok tk,rfl,q⟩
theorem An {e:Expr} {ta:TEd} {T:String} {y:Str} {p p2 pos:Pos} (L:T∈["bool", "int", "str", "tuple", "list", "dict"]) (m:ab ta) (he:PE X e (lE X.K ta)) (O:Gl X "isinstance") (hm:X.mg "isinstance" = none)
 (z:Gl X y) (B:X.mg y=none) (U:JE y=some (.type T)) (Y:y ≠ "__name__") (F:(y==("__debug__":Str))=false)
 (hs:Hv [e, .Name y p2] X.env=(false,eval e X.env)::Hv [.Name y p2] X.env) (G:(L3 pos (Hv [.Name y p2] X.env)).any (·.1)=false) :
 PE X (.Call (.Name "isinstance" p) [e, .Name y p2] [] pos) (lE X.K (jk T ta)):=by
 have h2:PE X (.Name y p2) (tC (.ty T)):=jZ z B U rfl Y F;refine PE.imp (ci (uR T L) O hm (by decide +kernel) (cH he (cH h2 iZ rfl) hs) (by decide) (by decide) hs G) fun σ H Q h => ?_
 obtain ⟨ρ,M,rs,rm,q⟩:=h;exact ⟨ρ,M,rs,rm,m _ _ _ _ (fun x M1 ⟨t,e,Z⟩ v H1 x1 j J=>⟨v,t,rfl,zd j J e,qB e,Z _ H1 x1 j (Rm.mpr rfl)⟩) q⟩
noncomputable def wBM (rd:D->List D->Mem->QD->Prop) (to:TEd) (t:TAd):TEd:=fun ρ M Q=>to ρ M fun x M1=>(∃ a xs,x = .ref a/\M1 a=some (.lst xs))/\t ρ M1 fun ds M2=>rd x ds M2 Q
def du (rd:D->List D->Mem->QD->Prop):Prop := ∀ x ds M Q Q',(∀ d M',Q d M'->Q' d M')->rd x ds M Q->rd x ds M Q'
theorem kw {rd:D->List D->Mem->QD->Prop} {to:TEd} {t:TAd} (j:du rd) (mo:ab to) (mt:bp t):ab (wBM rd to t):=fun ρ M Q Q' i q =>
 mo _ _ _ _ (fun x F ⟨e,z⟩=>⟨e,mt _ _ _ _ (fun ds M2 B=>j _ _ _ _ _ i B) z⟩) q
theorem ze {K:Frag} {M:Mem} {H:Hp} {x:D} {v:V} (rm:RM K M H) (r:RD K H x v) (h:∃ a xs,x = .ref a/\M a=some (.lst xs)):tyV K "list" v H:=by
 obtain ⟨a,xs,rfl,e⟩:=h
 cases Rk.mp r
 obtain ⟨vs,j,_⟩:=rm _ _ e;exact .inl ⟨rfl,vs,SqL.of j⟩
theorem qC {K:Frag} {rd:D->List D->Mem->QD->Prop} {r:V->List V->Hp->VK->Prop} {to:TEd} {t:TAd} (L:du rd) (mo:ab to) (mt:bp t)
 (O:∀ v vs H Q,lMt K rd v vs H Q->r v vs H Q) (σ:St) (H:Hp) (Q:VK) (h:lE K (wBM rd to t) σ H Q):tBM K "list" r (lE K to) (lA K t) σ H Q:=by
 obtain ⟨ρ,M,rs,rm,q⟩:=h;refine ⟨ρ,M,rs,rm,mo _ _ _ _ (fun x U ⟨e,Y⟩ v H1 G j z=>⟨ze j z e, ?_⟩) q⟩;refine ⟨ρ,U,rs.mono (G.stab rm),j,mt _ _ _ _ (fun ds M2 Z vs H2 J B F => ?_) Y⟩;exact O v vs H2 Q ⟨x,ds,M2,B,z.mono (J.stab j),F,L _ _ _ _ _ (fun d M' k=>k.ext (G.trans J)) Z⟩
theorem nO {K:Frag} {rd:D->List D->Mem->QD->Prop} {r:V->List V->Hp->VK->Prop} {to:TEd} (B:du rd) (mo:ab to)
 (F:∀ v vs H Q,lMt K rd v vs H Q->r v vs H Q) (σ:St) (H:Hp) (Q:VK) (h:lE K (wBM rd to bq) σ H Q):BZ K "list" r (lE K to) σ H Q:=by
 obtain ⟨ρ,M,rs,rm,q⟩:=h;refine ⟨ρ,M,rs,rm,mo _ _ _ _ (fun x G ⟨e,J⟩ v H1 L j z=>⟨ze j z e, ?_⟩) q⟩;exact F v [] H1 Q ⟨x,[],G,j,z,RDs.nil,B _ _ _ _ _ (fun d M' k=>k.ext L) J⟩
noncomputable def kx:D->List D->Mem->QD->Prop:=fun x ds M Q => ∃ a xs y,x = .ref a/\ds=[y]/\M a=some (.lst xs)/\xs.length < GX/\Q .non (ag M a (.lst (xs++[y])))
noncomputable def nP:D->List D->Mem->QD->Prop:=fun x ds M Q => ∃ a xs,x = .ref a/\ds=[]/\M a=some (.lst xs)/\Q .non (ag M a (.lst []))
noncomputable def iE:D->List D->Mem->QD->Prop:=fun x ds M Q => ∃ a xs,x = .ref a/\ds=[]/\M a=some (.lst xs)/\Q .non (ag M a (.lst xs.reverse))
theorem io:du kx:=fun _ _ _ _ _ h ⟨a,xs,y,e1,e2,j,z,q⟩=>⟨a,xs,y,e1,e2,j,z,h _ _ q⟩
theorem jm:du nP:=fun _ _ _ _ _ h ⟨a,xs,e1,e2,j,q⟩=>⟨a,xs,e1,e2,j,h _ _ q⟩
theorem fZ:du iE:=fun _ _ _ _ _ h ⟨a,xs,e1,e2,j,q⟩=>⟨a,xs,e1,e2,j,h _ _ q⟩
theorem eU {K:Frag} {M:Mem} {H:Hp} {Q:VK} {d:D} {v:V} {a:Addr} {o0:O} {ds:List D} {vs:List V} (rm:RM K M H) (m:M a=some o0) (rd:RDs K H ds vs) (r:RD K H d v) (q:KE' K M H Q d (ag M a (.lst ds))) (w:fz (some o0)=false:=by rfl) :
 Q v (upd H a (.lst vs)):=by
 have st:Stab H (upd H a (.lst vs)):=rm.stabPut m w;exact q v _ (Ext.put m w) (rm.put m ⟨vs,aw,rd.mono st⟩ w) (r.mono st)
theorem xI {K:Frag} (v:V) (vs:List V) (H:Hp) (Q:VK) (h:lMt K kx v vs H Q):qt v vs H Q:=by
 obtain ⟨x,ds,M,rm,rx,rs,a,xs,y,rfl,rfl,e,z,q⟩:=h
 cases Rk.mp rx
 obtain ⟨w,rfl,rw'⟩:=rs.one;obtain ⟨us,j,ru⟩:=rm _ _ e;exact ⟨a,us,w,rfl,rfl,j,by rw [ru.length];exact z,eU rm e (ru.append (RDs.cons rw' RDs.nil)) (Rr.mpr rfl) q⟩
theorem Ao {K:Frag} (v:V) (vs:List V) (H:Hp) (Q:VK) (h:lMt K nP v vs H Q):uk v vs H Q:=by
 obtain ⟨x,ds,M,rm,rx,rs,a,xs,rfl,rfl,e,q⟩:=h
 cases Rk.mp rx
 obtain ⟨us,j,ru⟩:=rm _ _ e;exact ⟨a,us,rfl,RDs.nil_iff.mp rs,j,eU rm e RDs.nil (Rr.mpr rfl) q⟩
theorem uS {K:Frag} (v:V) (vs:List V) (H:Hp) (Q:VK) (h:lMt K iE v vs H Q):n8 v vs H Q:=by
 obtain ⟨x,ds,M,rm,rx,rs,a,xs,rfl,rfl,e,q⟩:=h
 cases Rk.mp rx
 obtain ⟨us,j,ru⟩:=rm _ _ e;exact ⟨a,us,rfl,RDs.nil_iff.mp rs,j,eU rm e ru.reverse (Rr.mpr rfl) q⟩
noncomputable abbrev BT:=D->av->Option av
noncomputable abbrev BTs:=List D->av->Option av
noncomputable def bw (i:Nat):BT:=fun d ρ => some (ρ.set i (some d))
noncomputable def fD:BTs:=fun ds ρ => match ds with | [] => some ρ | _=>none
noncomputable def bE (b:BT) (bs:BTs):BTs:=fun ds ρ => match ds with | d::r=>(b d ρ).bind fun ρ'=>bs r ρ' | [] => none
noncomputable def ky (bs:BTs):BT:=fun d ρ => match d with | .tup ds=>bs ds ρ | _=>none
noncomputable def lG (K:Frag) (b:BT):TG:=fun v σ H Q => ∃ d ρ ρ',RD K H d v/\RS K H σ ρ /\ b d ρ = some ρ' /\ ∀ σ',RS K H σ' ρ'->Q σ' H
noncomputable def lGs (K:Frag) (b:BTs):TGs:=fun vs σ H Q => ∃ ds ρ ρ',RDs K H ds vs/\RS K H σ ρ /\ b ds ρ = some ρ' /\ ∀ σ',RS K H σ' ρ'->Q σ' H
theorem PG.imp {e:Expr} {t t':TG} (h:PG X e t) (i:∀ v σ H Q,t' v σ H Q->t v σ H Q):PG X e t':=fun pins s σ H v u Q I r q=>h pins s σ H v u Q I r (i _ _ _ _ q)
theorem PGs.imp {e:List Expr} {t t':TGs} (h:PGs X e t) (i:∀ v σ H Q,t' v σ H Q->t v σ H Q):PGs X e t':=fun pins s σ H v u Q I r q=>h pins s σ H v u Q I r (i _ _ _ _ q)
theorem Ap {i:Nat} {x:Str} {pos:Pos} (j:X.N.Nodup) (hi:X.N[i]? = some x) (hx:Loc X.env.scope x) (hf:X.fn x=true∨X.env.scope.names.lookup x=some .local):PG X (.Name x pos) (lG X.K (bw i)) :=
 PG.imp (qp j hi hx hf) fun v σ H Q ⟨d, ρ, ρ',r,rs,e,q⟩=>by
  cases e
  exact q _ (rs.set i r)
theorem Aq:PGs X [] (lGs X.K fD):=PGs.imp zM fun vs σ H Q ⟨ds, ρ, ρ',r,rs,e,q⟩=>by
 cases ds with
 | nil=>cases e;exact ⟨RDs.nil_iff.mp r,q σ rs⟩
 | cons _ _=>cases e
theorem xJ {e:Expr} {es:List Expr} {b:BT} {bs:BTs} (h1:PG X e (lG X.K b)) (h2:PGs X es (lGs X.K bs)) (hs:(Jg (e::es) X.env).map (·.2)=assign e X.env::(Jg es X.env).map (·.2)) :
 PGs X (e::es) (lGs X.K (bE b bs)):=PGs.imp (wJ h1 h2 hs) fun vs σ H Q ⟨ds, ρ, ρ',r,rs,e,q⟩=>by
 cases ds with
 | nil=>cases e
 | cons d ds =>
   obtain ⟨v,vr,rfl,j,z⟩:=Rl.mp r;simp only [bE] at e
   cases e1:b d ρ with
   | none=>rw [e1] at e;cases e
   | some ρ1 =>
     rw [e1] at e;exact ⟨v,vr,rfl,d, ρ, ρ1,j,rs,e1,fun σ' rs'=>⟨ds, ρ1, ρ',z,rs',e,q⟩⟩
theorem Co {es:List Expr} {k:Nat} {bs:BTs} {n:Nat} {pos:Pos} (z:X.calm=true) (hlen:∀ ds ρ ρ',bs ds ρ = some ρ'->ds.length=n) (h:PGs X es (lGs X.K bs)) (B:(Jg es X.env).length=n) (j:(Jg es X.env).findIdx? (·.1)=none) :
 PG X (.Tuple es k pos) (lG X.K (ky bs)):=PG.imp (BI z h B j) fun v σ H Q ⟨d, ρ, ρ',r,rs,e,q⟩=>by
 cases d with
 | tup ds =>
   obtain ⟨a,vs,rfl,F,rv⟩:=Ro r;exact ⟨a,vs,rfl,F,by rw [rv.length];exact hlen _ _ _ e,ds, ρ, ρ',rv,rs,e,q⟩
 | _=>cases e
noncomputable abbrev TId:=av->Mem->(List D->(Mem->Prop)->Mem->Prop)->Prop
def bW (T:TId):Prop := ∀ ρ M Q Q',(∀ xs c M',Q xs c M'->Q' xs c M')->T ρ M Q->T ρ M Q'
def Yl (H H':Hp):Prop:=H'=H ∨ ∃ q vs,H q=none/\H'=upd H q (.tup vs)
def fE (K:Frag) (H1:Hp) (xs:List D) (chk:Mem->Prop) (J:It):Prop := ∀ M H,Stab H1 H->RM K M H->chk M -> ∀ i,(xs.length<=i->J.stop i H)/\(i < xs.length->J.go i H /\
 ∀ x H',J.yld i H x H'->Yl H H' /\ ∃ d,xs[i]? = some d/\RD K H' d x)
noncomputable def lI (K:Frag) (T:TId):TI:=fun σ H R => ∃ ρ M,RS K H σ ρ /\ RM K M H/\T ρ M (fun xs chk M1 => ∀ J H1,Ext M H M1 H1->RM K M1 H1->fE K H1 xs chk J->R J H1)
theorem PI.imp {tg e:Expr} {t t':TI} (h:PI X tg e t) (i:∀ σ H Q,t' σ H Q->t σ H Q):PI X tg e t':=fun pins s σ H Q I q=>h pins s σ H Q I (i _ _ _ q)
theorem Yl.ext {K:Frag} {M:Mem} {H H':Hp} (rm:RM K M H) (y:Yl H H'):Ext M H M H'/\RM K M H':=by
 rcases y with rfl | ⟨q,vs,n,rfl⟩
 ·exact ⟨Ext.refl,rm⟩
 ·exact ⟨Ru n,rm.new n⟩
noncomputable def EB (K:Frag) (tl:TE):TI:=fun σ H R=>tl σ H fun x H1 => ∃ a,x = .ref a/\(((∃ xs,SqL K H1 a xs)/\R (Itl K a) H1)∨((∃ xs,SqT K H1 a xs)/\R (Itt K a) H1))
theorem Cp {tg l:Expr} {tl:TE} (F:PE X l tl):PI X tg l (EB X.K tl):=by
 intro pins s σ H R I h;refine thn (F pins s σ H _ I h) fun v s1 ⟨x,H1,j,G,J⟩ => ?_;obtain ⟨a,e,q⟩:=J;subst e
 cases G
 rcases q with ⟨⟨xs,z⟩,q⟩ | ⟨⟨xs,z⟩,q⟩
 ·obtain ⟨its,rv,p,L⟩:=j.list z;refine J4 p.isList ?_;refine ⟨s1.heap.objs.size,[s1.heap.objs.size],_,_,H1,rfl,j.kept (t':=s1.toks) fun b o e=>q7 _ e,u8 a _,⟨_,GY _ rfl,rfl,rfl⟩,fun b B => ?_,q⟩;have e:b=s1.heap.objs.size:=by simpa using B
  subst e;exact j.fpOk (Hc _) (j.hok.fresh (Hc _))
 ·obtain ⟨its,rv,p,L⟩:=j.tuple z;refine Iy (show s1.heap.IsTuple a its.toArray from p) ?_;refine ⟨s1.heap.objs.size,[s1.heap.objs.size],_,_,H1,rfl,j.kept (t':=s1.toks) fun b o e=>q7 _ e,rO a _,⟨_,GY _ rfl,rfl,rfl⟩,fun b B => ?_,q⟩;have e:b=s1.heap.objs.size:=by simpa using B
  subst e;exact j.fpOk (Hc _) (j.hok.fresh (Hc _))
noncomputable def nQ (ta:TEd):TId:=fun ρ M R=>ta ρ M fun x M1 => ∃ ds,aq M1 x=some ds/\R ds (fun M=>aq M x=some ds) M1
theorem xK {ta:TEd} (h:ab ta):bW (nQ ta):=fun ρ M Q Q' i q=>h _ _ _ _ (fun x z ⟨ds,e,j⟩=>⟨ds,e,i _ _ _ j⟩) q
theorem uT {K:Frag} {H1:Hp} {a:Addr} {ds:List D} {chk:Mem->Prop} (h:∀ M H,Stab H1 H->RM K M H->chk M -> ∃ vs,SqL K H a vs/\RDs K H ds vs):fE K H1 ds chk (Itl K a):=fun M H st rm c i=>by
 obtain ⟨vs,sq,r⟩:=h M H st rm c;have l:=r.length;refine ⟨fun hi=>⟨vs,sq,by lia⟩,fun hi=>⟨⟨vs,vs[i]'(by lia),sq,D1 (by lia)⟩,fun x H' y => ?_⟩⟩
 obtain ⟨e,y⟩:=y;subst e;exact ⟨.inl rfl,r.getV (y vs sq)⟩
theorem Cq {K:Frag} {H1:Hp} {a:Addr} {ds:List D} {chk:Mem->Prop} (h:∀ M H,Stab H1 H->RM K M H->chk M -> ∃ vs,SqT K H a vs/\RDs K H ds vs):fE K H1 ds chk (Itt K a):=fun M H st rm c i=>by
 obtain ⟨vs,sq,r⟩:=h M H st rm c;have l:=r.length;refine ⟨fun hi=>⟨vs,sq,by lia⟩,fun hi=>⟨⟨vs,vs[i]'(by lia),sq,D1 (by lia)⟩,fun x H' y => ?_⟩⟩
 obtain ⟨e,y⟩:=y;subst e;exact ⟨.inl rfl,r.getV (y vs sq)⟩
theorem Cr {tg l:Expr} {ta:TEd} (m:ab ta) (G:PE X l (lE X.K ta)):PI X tg l (lI X.K (nQ ta)):=by
 refine PI.imp (Cp G) fun σ H R h => ?_;obtain ⟨ρ,M,rs,rm,q⟩:=h;refine ⟨ρ,M,rs,rm,m _ _ _ _ (fun x L ⟨ds,e,B⟩ v H1 F j rd1 => ?_) q⟩
 cases x with
 | tup es =>
   cases e
   obtain ⟨a,vs,rfl,z,rv⟩:=Ro rd1;exact ⟨a,rfl, .inr ⟨⟨vs,z⟩,B _ H1 F j (Cq fun M' H' st _ _=>⟨vs,st.sqT z,rv.mono st⟩)⟩⟩
 | con es =>
   cases e
   obtain ⟨a,vs,rfl,z,rv⟩:=Rq.mp rd1;exact ⟨a,rfl, .inl ⟨⟨vs,z.sq⟩,B _ H1 F j (uT fun M' H' st _ _=>⟨vs,(st.sqF z).sq,rv.mono st⟩)⟩⟩
 | ref a =>
   cases Rk.mp rd1
   have get:∀ {M':Mem} {es:List D},aq M' (.ref a)=some es->M' a=some (.lst es):=fun {M' es} e=>by
    simp only [aq] at e
    cases e0:M' a with
    | none=>rw [e0] at e;cases e
    | some o =>
      rw [e0] at e
      cases o with
      | dct _ _=>cases e
      | fdc _=>cases e
      | lst es'=>cases e;rfl
   obtain ⟨vs,z,rv⟩:=j _ _ (get e);exact ⟨a,rfl, .inl ⟨⟨vs,SqL.of z⟩,B _ H1 F j (uT fun M' H' st rm' c=>by
    obtain ⟨us,J,ru⟩:=rm' _ _ (get c);exact ⟨us,SqL.of J,ru⟩)⟩⟩
 | _=>cases e
noncomputable def cS (lo:Int) (n:Nat):List D:=(Hi n).map fun i => .int (lo+(i:Nat))
theorem Ct {K:Frag} {H1:Hp} {lo:Int} {n:Nat}:fE K H1 (cS lo n) (fun _=>True) (Itr lo n):=fun M H st rm c i=>by
 have l:(cS lo n).length=n:=by simp [cS]
 refine ⟨fun hi=>by show n<=i;lia,fun hi=>⟨by show i < n;lia,fun x H' y => ?_⟩⟩
 obtain ⟨e,y⟩:=y;subst e y;refine ⟨.inl rfl, .int (lo+i), ?_,Rj.mpr rfl⟩;simp only [cS,HB,L5 (show i < n by lia),Kn]
noncomputable def jn (ta:TAd):TId:=fun ρ M R=>ta ρ M fun ds M1 => ∃ j:Int,ds=[.int j] /\ -(2 ^ 62)<=j/\j < 2 ^ 62/\R (cS 0 j.toNat) (fun _=>True) M1
theorem uU {ta:TAd} (h:bp ta):bW (jn ta):=fun ρ M Q Q' i q=>h _ _ _ _ (fun x B ⟨j,e,a,b,z⟩=>⟨j,e,a,b,i _ _ _ z⟩) q
theorem Ar {tg a:Expr} {ta:TAd} {p pos:Pos} (m:bp ta) (B:Gl X "range") (hm:X.mg "range" = none) (F:PA X [a] (lA X.K ta)) (hs:Hv [a] X.env=[(false,eval a X.env)]):PI X tg (.Call (.Name "range" p) [a] [] pos) (lI X.K (jn ta)):=by
 refine PI.imp (u9 B hm F hs) fun σ H R h => ?_;obtain ⟨ρ,M,rs,rm,q⟩:=h;refine ⟨ρ,M,rs,rm,m _ _ _ _ (fun ds U ⟨j,e,G,J,L⟩ vs H1 O z rd1 => ?_) q⟩;subst e;obtain ⟨v,rfl,r⟩:=rd1.one
 cases Rj.mp r
 exact ⟨j,rfl,G,J,L _ H1 O z Ct⟩
end
end
section
section
variable {X:Cx}
noncomputable def isT:D->Bool | .tup _=>true | _=>false
theorem cT {K:Frag} {M:Mem} {H:Hp} {x:D} {ds:List D} {v:V} (rm:RM K M H) (r:RD K H x v) (e:aq M x=some ds):∃ p vs,v = .ref p/\SqV K (isT x) H p vs/\RDs K H ds vs:=by
 cases x with
 | tup es =>
   cases e
   obtain ⟨a,vs,rfl,j,rv⟩:=Ro r;exact ⟨a,vs,rfl,j,rv⟩
 | con es =>
   cases e
   obtain ⟨a,vs,rfl,j,rv⟩:=Rq.mp r;exact ⟨a,vs,rfl,j.sq,rv⟩
 | ref a =>
   cases Rk.mp r
   simp only [aq] at e
   cases e0:M a with
   | none=>rw [e0] at e;cases e
   | some o =>
     rw [e0] at e
     cases o with
     | dct _ _=>cases e
     | fdc _=>cases e
     | lst es =>
       cases e
       obtain ⟨vs,j,rv⟩:=rm _ _ e0;exact ⟨a,vs,rfl,SqL.of j,rv⟩
 | _=>cases e
noncomputable def fF (x y:D):D := .tup [x,y]
noncomputable def nR (ta tb:TEd):TId:=fun ρ M R=>aD ta (aD tb bq) ρ M fun ds M1 => ∃ x y xs ys,ds=[x,y]/\aq M1 x=some xs/\aq M1 y=some ys/\R (JT fF xs ys) (fun M=>aq M x=some xs/\aq M y=some ys) M1
theorem xL {ta tb:TEd} (j:ab ta) (z:ab tb):bW (nR ta tb):=fun ρ M Q Q' i q=>al j (al z ao) _ _ _ _ (fun ds F ⟨x,y,xs,ys,e,e1,e2,B⟩=>⟨x,y,xs,ys,e,e1,e2,i _ _ _ B⟩) q
theorem iF {H:Hp} {p:Addr} {o:HO} (n:H p=none):Stab H (upd H p o):=⟨fun a xs e=>by rw [ak (fun z=>by rw [z,n] at e;cases e)];exact e,fun a o u e=>by rw [ak (fun z=>by rw [z,n] at e;cases e)];exact e⟩
theorem Cu {K:Frag} {H1:Hp} {x y:D} {xs ys:List D} {a b:Addr} (rx:RD K H1 x (.ref a)) (ry:RD K H1 y (.ref b)):fE K H1 (JT fF xs ys) (fun M=>aq M x=some xs/\aq M y=some ys) (Itz K (isT x) (isT y) a b):=fun M H st rm c i=>by
 obtain ⟨p1,vs,e1,j,G⟩:=cT rm (rx.mono st) c.1;obtain ⟨p2,us,e2,q,J⟩:=cT rm (ry.mono st) c.2
 cases e1
 cases e2
 have l1:=G.length;have l2:=J.length;have lz:(JT fF xs ys).length=min xs.length ys.length:=OZ;refine ⟨fun hi=>⟨vs,us,j,q,by lia⟩,fun hi=>⟨⟨vs,us,vs[i]'(by lia),us[i]'(by lia),j,q,D1 (by lia),D1 (by lia)⟩,fun v H' L => ?_⟩⟩
 obtain ⟨p,v1,v2,n,rfl,rfl,g⟩:=L;obtain ⟨g1,g2⟩:=g vs us j q;obtain ⟨d1,z,B⟩:=G.getV g1;obtain ⟨d2,hd2,F⟩:=J.getV g2;have sb:=iF (o := .tup [v1,v2]) n;refine ⟨.inr ⟨p,[v1,v2],n,rfl⟩, .tup [d1,d2], ?_,Rw ⟨p,[v1,v2],rfl,aw,RDs.cons (B.mono sb) (RDs.cons (F.mono sb) RDs.nil)⟩⟩;rw [LR,z,hd2];rfl
theorem Cv {elts:List Expr} {cx} {pos p pos':Pos} {a b:Expr} {ta tb:TEd} (ma:ab ta) (mb:ab tb) (G:Gl X "zip") (hm:X.mg "zip" = none) (J:PA X [a,b] (lA X.K (aD ta (aD tb bq)))) (hs:Hv [a,b] X.env=[(false,eval a X.env),(false,eval b X.env)]) (z:Hv [b] X.env=[(false,eval b X.env)]) :
 PI X (.Tuple elts cx pos) (.Call (.Name "zip" p) [a,b] [] pos') (lI X.K (nR ta tb)):=by
 refine PI.imp (C6 G hm J hs z) fun σ H R h => ?_;obtain ⟨ρ,M,rs,rm,q⟩:=h;refine ⟨ρ,M,rs,rm,al ma (al mb ao) _ _ _ _ (fun ds U ⟨x,y,xs,ys,e,e1,e2,L⟩ vs H1 O j rd1 => ?_) q⟩;subst e;obtain ⟨v,u,rfl,B,F⟩:=rd1.two;obtain ⟨p1,vs,rfl,s1,_⟩:=cT j B e1;obtain ⟨p2,us,rfl,s2,_⟩:=cT j F e2;exact ⟨p1,p2,isT x,isT y,vs,us,rfl,s1,s2,L _ H1 O j (Cu B F)⟩
noncomputable def z3D (xs ys zs:List D):List D:=JT (fun x p => .tup [x,p.1,p.2]) xs (ys.zip zs)
noncomputable def jo (ta tb tc:TEd):TId:=fun ρ M R=>aD ta (aD tb (aD tc bq)) ρ M fun ds M1 => ∃ xs y ys zs,ds=[.tup xs,y, .tup zs]/\isT y=false/\aq M1 y=some ys/\R (z3D xs ys zs) (fun M=>aq M y=some ys) M1
theorem uV {ta tb tc:TEd} (j:ab ta) (z:ab tb) (B:ab tc):bW (jo ta tb tc):=fun ρ M Q Q' i q=>al j (al z (al B ao)) _ _ _ _ (fun ds G ⟨xs,y,ys,zs,e,e1,e2,F⟩=>⟨xs,y,ys,zs,e,e1,e2,i _ _ _ F⟩) q
theorem As {K:Frag} {H1:Hp} {y:D} {xs ys zs:List D} {a b c:Addr} (q:isT y=false) (rx:RD K H1 (.tup xs) (.ref a)) (ry:RD K H1 y (.ref b)) (rz:RD K H1 (.tup zs) (.ref c)):fE K H1 (z3D xs ys zs) (fun M=>aq M y=some ys) (xq K true false true a b c):=fun M H st rm cc i=>by
 obtain ⟨p1,vs,e1,z,Y⟩:=Ro (rx.mono st);obtain ⟨p2,us,e2,j,Z⟩:=cT rm (ry.mono st) cc;obtain ⟨p3,ws,e3,B,r3⟩:=Ro (rz.mono st)
 cases e1
 cases e2
 cases e3
 rw [q] at j;have l1:=Y.length;have l2:=Z.length;have l3:=r3.length;have lz:(z3D xs ys zs).length=min xs.length (min ys.length zs.length):=by unfold z3D;rw [OZ,QG]
 refine ⟨fun hi=>⟨vs,us,ws,z,j,B,by lia⟩,fun hi=>⟨⟨vs,us,ws,vs[i]'(by lia),us[i]'(by lia),ws[i]'(by lia),z,j,B,D1 (by lia),D1 (by lia),D1 (by lia)⟩,fun v H' q => ?_⟩⟩
 obtain ⟨p,v1,v2,F,n,rfl,rfl,g⟩:=q;obtain ⟨g1,g2,g3⟩:=g vs us ws z j B;obtain ⟨d1,G,J⟩:=Y.getV g1;obtain ⟨d2,hd2,L⟩:=Z.getV g2;obtain ⟨d3,O,U⟩:=r3.getV g3;have sb:=iF (o := .tup [v1,v2,F]) n;refine ⟨.inr ⟨p,[v1,v2,F],n,rfl⟩, .tup [d1,d2,d3], ?_,Rw ⟨p,[v1,v2,F],rfl,aw,RDs.cons (J.mono sb) (RDs.cons (L.mono sb) (RDs.cons (U.mono sb) RDs.nil))⟩⟩;unfold z3D;rw [LR,G,List.zip,LR,hd2,O]
theorem RDs.three {K:Frag} {H:Hp} {x y z:D} {vs:List V} (h:RDs K H [x,y,z] vs):∃ a b c,vs=[a,b,c]/\RD K H x a/\RD K H y b/\RD K H z c:=by
 obtain ⟨a,r,rfl,h1,h⟩:=Rl.mp h;obtain ⟨b,r,rfl,h2,h⟩:=Rl.mp h;obtain ⟨c,r,rfl,j,h⟩:=Rl.mp h
 cases RDs.nil_iff.mp h
 exact ⟨a,b,c,rfl,h1,h2,j⟩
theorem Au {elts:List Expr} {cx} {pos p pos':Pos} {a b c:Expr} {ta tb tc:TEd} (ma:ab ta) (mb:ab tb) (mc:ab tc) (J:Gl X "zip") (hm:X.mg "zip" = none) (L:PA X [a,b,c] (lA X.K (aD ta (aD tb (aD tc bq))))) (hs:Hv [a,b,c] X.env=[(false,eval a X.env),(false,eval b X.env),(false,eval c X.env)]) (z:Hv [b,c] X.env=[(false,eval b X.env),(false,eval c X.env)]) :
 PI X (.Tuple elts cx pos) (.Call (.Name "zip" p) [a,b,c] [] pos') (lI X.K (jo ta tb tc)):=by
 refine PI.imp (zZ J hm L hs z) fun σ H R h => ?_;obtain ⟨ρ,M,rs,rm,q⟩:=h;refine ⟨ρ,M,rs,rm,al ma (al mb (al mc ao)) _ _ _ _ (fun ds Z ⟨xs,y,ys,zs,e,e1,e2,O⟩ vs H1 U j rd1 => ?_) q⟩;subst e;obtain ⟨v,u,t,rfl,B,F,G⟩:=rd1.three;obtain ⟨p1,vs,rfl,s1,_⟩:=Ro B;obtain ⟨p2,us,rfl,s2,_⟩:=cT j F e2;obtain ⟨Y,ws,rfl,s3,_⟩:=Ro G;rw [e1] at s2;exact ⟨p1,p2,Y,vs,us,ws,rfl,s1,s2,s3,O _ H1 U j (As e1 B F G)⟩
end
end
section
section
variable {X:Cx}
noncomputable def fG (xs:List D):List D:=xs.mapIdx fun i x => .tup [.int (i:Nat),x]
noncomputable def jq (ta:TEd):TId:=fun ρ M R=>ta ρ M fun x M1 => ∃ xs,aq M1 x=some xs/\R (fG xs) (fun M=>aq M x=some xs) M1
theorem uW {ta:TEd} (h:ab ta):bW (jq ta):=fun ρ M Q Q' i q=>h _ _ _ _ (fun x z ⟨ds,e,j⟩=>⟨ds,e,i _ _ _ j⟩) q
theorem Cw {K:Frag} {H1:Hp} {x:D} {xs:List D} {a:Addr} (rx:RD K H1 x (.ref a)):fE K H1 (fG xs) (fun M=>aq M x=some xs) (Ite K (isT x) a):=fun M H st rm c i=>by
 obtain ⟨p1,vs,e1,j,B⟩:=cT rm (rx.mono st) c
 cases e1
 have l1:=B.length;have lz:(fG xs).length=xs.length:=by simp [fG]
 refine ⟨fun hi=>⟨vs,j,by lia⟩,fun hi=>⟨⟨vs,vs[i]'(by lia),j,D1 (by lia)⟩,fun v H' F => ?_⟩⟩
 obtain ⟨p,v1,n,rfl,rfl,g⟩:=F;obtain ⟨d1,q,z⟩:=B.getV (g vs j);have sb:=iF (o := .tup [.int (i:Nat),v1]) n;refine ⟨.inr ⟨p,[.int (i:Nat),v1],n,rfl⟩, .tup [.int (i:Nat),d1], ?_,Rw ⟨p,[.int (i:Nat),v1],rfl,aw,RDs.cons (Rj.mpr rfl) (RDs.cons (z.mono sb) RDs.nil)⟩⟩;simp [fG,OF,q]
theorem Av {elts:List Expr} {cx} {pos p pos':Pos} {a:Expr} {ta:TEd} (ma:ab ta) (B:Gl X "enumerate") (hm:X.mg "enumerate" = none) (F:PA X [a] (lA X.K (aD ta bq))) (hs:Hv [a] X.env=[(false,eval a X.env)]) :
 PI X (.Tuple elts cx pos) (.Call (.Name "enumerate" p) [a] [] pos') (lI X.K (jq ta)):=by
 refine PI.imp (A1 B hm F hs) fun σ H R h => ?_;obtain ⟨ρ,M,rs,rm,q⟩:=h;refine ⟨ρ,M,rs,rm,ma _ _ _ _ (fun x L ⟨xs,e1,G⟩ vs H1 J j rd1 => ?_) q⟩;obtain ⟨v,rfl,z⟩:=rd1.one;obtain ⟨p1,us,rfl,s1,_⟩:=cT j z e1;exact ⟨p1,isT x,us,rfl,s1,G _ H1 J j (Cw z)⟩
end
end
section
noncomputable abbrev NC:=av->Mem->List D->Prop
noncomputable abbrev TCd:=av->Mem->List D->NC->Prop
def bX (T:TCd):Prop := ∀ ρ M acc N N',(∀ ρ' M' acc',N ρ' M' acc'->N' ρ' M' acc')->T ρ M acc N->T ρ M acc N'
structure ExtP (p:Addr) (M:Mem) (H:Hp) (M':Mem) (H':Hp):Prop where
 kp:∀ a o,a≠p->fz (M a)=true->H a=some o->H' a=some o
 nw:∀ a o,fz (M a)=true->H a=some o->M' a=M a
section
variable {K:Frag} {M M' M'':Mem} {H H' H'':Hp} {p:Addr}
theorem ExtP.new (x:ExtP p M H M' H') (a:Addr) (o:HO) (n:M a=none) (e:H a=some o):M' a=none:=(x.nw a o (by rw [n];rfl) e).trans n
theorem Ext.toP (x:Ext M H M' H'):ExtP p M H M' H':=⟨fun a o _=>x.kp a o,x.nw⟩
theorem ExtP.refl:ExtP p M H M H:=⟨fun _ _ _ _ h=>h,fun _ _ _ _=>rfl⟩
theorem ExtP.trans {vs:List V} (a:ExtP p M H M' H') (q:H p=some (.lst vs)) (j:∃ vs',H' p=some (.lst vs')) (b:ExtP p M' H' M'' H''):ExtP p M H M'' H'' :=
 ⟨fun c o ne n h=>b.kp c o ne (by rw [a.nw c o n h];exact n) (a.kp c o ne n h),fun c o n h=>by
   have n':fz (M' c)=true:=by rw [a.nw c o n h];exact n
   refine Eq.trans ?_ (a.nw c o n h)
   by_cases z:c=p
   ·subst z;obtain ⟨vs',e⟩:=j;exact b.nw c _ n' e
   ·exact b.nw c o n' (a.kp c o z n h)⟩
theorem ExtP.stab {vs:List V} (r:RM K M H) (j:H p=some (.lst vs)) (x:ExtP p M H M' H'):Stab H H' where
 tup:=fun a xs e=>x.kp a _ (fun z=>by subst z;rw [j] at e;cases e) (by rw [r.fzT e];rfl) e
 frz:=fun a o u e=>x.kp a _ (fun z=>by subst z;rw [j] at e;cases e) (r.fzF e) e
theorem nS {vs:List V} {ho:HO} (j:H p=some (.lst vs)):Stab H (upd H p ho) :=
 ⟨fun a xs e=>by rw [ak (fun z=>by subst z;rw [j] at e;cases e)];exact e,fun a o u e=>by rw [ak (fun z=>by subst z;rw [j] at e;cases e)];exact e⟩
theorem RM.side {vs:List V} {ho:HO} (r:RM K M H) (n:M p=none) (j:H p=some (.lst vs)):RM K M (upd H p ho):=fun a o e=>by
 have ne:a≠p:=fun z=>by subst z;rw [n] at e;cases e
 exact (r a o e).mono (nS j) fun B q=>by rw [ak ne];exact q
end
def gO (K:Frag) (H:Hp) (p:Addr) (acc:List D):Prop := ∃ vs,H p=some (.lst vs)/\RDs K H acc vs
noncomputable def KC (K:Frag) (p:Addr) (M:Mem) (H:Hp) (N:St->Hp->Prop):NC:=fun ρ' M' acc' => ∀ σ' H',ExtP p M H M' H'->RS K H' σ' ρ'->RM K M' H'->gO K H' p acc'->N σ' H'
noncomputable def lC (K:Frag) (p:Addr) (T:TCd):TC:=fun σ H N => ∃ ρ M acc,RS K H σ ρ /\ RM K M H/\M p=none/\gO K H p acc/\T ρ M acc (KC K p M H N)
theorem KC.ext {K:Frag} {p:Addr} {M M2 M':Mem} {H H2:Hp} {N:St->Hp->Prop} {ρ:av} {acc:List D} {vs:List V} (q:H p=some (.lst vs)) (j:∃ vs',H2 p=some (.lst vs')) (x:ExtP p M H M2 H2) (h:KC K p M H N ρ M' acc):KC K p M2 H2 N ρ M' acc :=
 fun σ' H' y=>h σ' H' (x.trans q j y)
noncomputable def cz (te:TEd):TCd:=fun ρ M acc N=>te ρ M fun x M1=>acc.length < GX/\N ρ M1 (acc++[x])
noncomputable def br:List TTd->TCd->TCd
 | [],tb=>tb
 | t::r,tb=>fun ρ M acc N=>t ρ M fun b M1=>if b=true then br r tb ρ M1 acc N else N ρ M1 acc
noncomputable def bY (b:BT) (tb:TCd) (chk:Mem->Prop) (N:NC):List D->NC
 | [] => fun ρ M acc=>chk M/\N ρ M acc
 | x::xs=>fun ρ M acc=>chk M /\ ∃ ρ',b x ρ = some ρ'/\tb ρ' M acc (bY b tb chk N xs)
noncomputable def dD (src:TId) (b:BT) (tb:TCd):TCd:=fun ρ M acc N=>src ρ M fun xs chk M1=>bY b tb chk N xs ρ M1 acc
noncomputable def gP (fr:List (Option Nat)) (src:TId) (b:BT) (tb:TCd):TEd:=fun ρ M Q=>src ρ M fun xs chk M1=>bY b tb chk (fun _ M' acc => ∀ p,M' p=none->Q (.ref p) (ag M' p (.lst acc))) xs (kj fr ρ) M1 []
theorem bB {te:TEd} (h:ab te):bX (cz te):=fun ρ M acc N N' i q=>h _ _ _ _ (fun x B ⟨z,j⟩=>⟨z,i _ _ _ j⟩) q
theorem aO {tb:TCd} (z:bX tb):∀ {ts:List TTd},(∀ t∈ts,aG t)->bX (br ts tb)
 | [],_=>z
 | t::r,h=>fun ρ M acc N N' i q=>h t Ir _ _ _ _ (fun b F j=>by
   cases b with
   | true=>rw [if_pos rfl] at j ⊢;exact aO z (fun t' B=>h t' (HE _ B)) _ _ _ _ _ i j
   | false=>rw [if_neg H0] at j ⊢;exact i _ _ _ j) q
theorem ga {b:BT} {tb:TCd} (z:bX tb) {chk:Mem->Prop} {N N':NC} (i:∀ ρ' M' acc',N ρ' M' acc'->N' ρ' M' acc'):∀ (xs:List D) (ρ:av) (M:Mem) (acc:List D),bY b tb chk N xs ρ M acc->bY b tb chk N' xs ρ M acc
 | [], ρ,M,acc,h=>⟨h.1,i _ _ _ h.2⟩
 | x::xs, ρ,M,acc,⟨c, ρ',e,q⟩=>⟨c, ρ',e,z _ _ _ _ _ (fun ρ2 M2 j B=>ga z i xs ρ2 M2 j B) q⟩
theorem iq {src:TId} {b:BT} {tb:TCd} (hs:bW src) (j:bX tb):bX (dD src b tb):=fun ρ M acc N N' i q=>hs _ _ _ _ (fun xs c B z=>ga j i xs _ _ _ z) q
theorem lm {fr:List (Option Nat)} {src:TId} {b:BT} {tb:TCd} (hs:bW src) (j:bX tb):ab (gP fr src b tb):=fun ρ M Q Q' i q =>
 hs _ _ _ _ (fun xs c F z=>ga j (fun _ M' acc B p n=>i _ _ (B p n)) xs _ _ _ z) q
section
variable {K:Frag} {p:Addr}
theorem gb {te:TEd} (m:ab te) (σ:St) (H:Hp) (N:St->Hp->Prop) (h:lC K p (cz te) σ H N):yZ p (lE K te) σ H N:=by
 obtain ⟨ρ,M,acc,rs,rm,n,⟨vs,L,ra⟩,q⟩:=h;refine ⟨ρ,M,rs,rm,m _ _ _ _ (fun x Y ⟨z,O⟩ v H1 F G J => ?_) q⟩;have j:=F.keep p _ n L;have U:=F.new p _ n L;have st:=F.stab rm;have B:Stab H1 (upd H1 p (.lst (vs++[v]))):=nS j;refine ⟨vs,j,by rw [ra.length];exact z,O σ _ ⟨fun a o ne m' e => ?_,F.nw⟩ ((rs.mono st).mono B) (G.side U j) ⟨vs++[v],aw,((ra.mono st).mono B).append (RDs.cons (J.mono B) RDs.nil)⟩⟩
 rw [ak ne];exact F.kp a o m' e
theorem jr {tb:TCd} (mb:bX tb):∀ {ts:List TTd},(∀ t∈ts,aG t) -> ∀ (σ:St) (H:Hp) (N:St->Hp->Prop),lC K p (br ts tb) σ H N->j7 (ts.map (lT K)) (lC K p tb) σ H N
 | [],_, σ,H,N,h=>h
 | t::r,hm, σ,H,N,h=>by
   obtain ⟨ρ,M,acc,rs,rm,n,⟨vs,G,ra⟩,q⟩:=h;refine ⟨ρ,M,rs,rm,hm t Ir _ _ _ _ (fun b L F H1 z B => ?_) q⟩;have j:=z.keep p _ n G;have O:=z.new p _ n G;have st:=z.stab rm
   cases b with
   | false =>
     rw [if_neg H0] at F;dsimp only;rw [if_neg H0];exact F σ H1 z.toP (rs.mono st) B ⟨vs,j,ra.mono st⟩
   | true =>
     rw [if_pos rfl] at F;dsimp only;rw [if_pos rfl];exact jr mb (fun t' J=>hm t' (HE _ J)) σ H1 N ⟨ρ,L,acc,rs.mono st,B,O,⟨vs,j,ra.mono st⟩,
      aO mb (fun t' J=>hm t' (HE _ J)) _ _ _ _ _ (fun ρ' M' acc' k=>k.ext G ⟨vs,j⟩ z.toP) F⟩
theorem ln {b:BT} {tb:TCd} (mb:bX tb) {xs:List D} {chk:Mem->Prop} {J:It} {H1:Hp} {B:Mem} {Nd:NC} {N:St->Hp->Prop} {σ:St} {ρ:av} {acc:List D} (it:fE K H1 xs chk J) (rs:RS K H1 σ ρ) (rm:RM K B H1) (n:B p=none)
 (ac:gO K H1 p acc) (q:bY b tb chk Nd xs ρ B acc) (hN:∀ ρ' M' acc' σ' H',ExtP p B H1 M' H'->RS K H' σ' ρ'->RM K M' H'->gO K H' p acc'->Nd ρ' M' acc'->N σ' H') :
 cv J (lG K b) (lC K p tb) N σ H1:=by
 obtain ⟨EJ,F,_⟩:=id ac;refine ⟨fun i m σ H=>m=xs.length - i/\i<=xs.length /\ ∃ ρ M acc,RS K H σ ρ /\ RM K M H/\M p=none/\gO K H p acc/\ExtP p B H1 M H/\bY b tb chk Nd (xs.drop i) ρ M acc,⟨xs.length,by simp,J1 _, ρ,B,acc,rs,rm,n,ac,ExtP.refl,q⟩, ?_⟩
 rintro i m σ H ⟨rfl,hi, ρ,M,acc,rs,j,n,ac,x,q⟩;have st:=x.stab rm F;obtain ⟨vs,hp,ra⟩:=id ac
 by_cases z:i < xs.length
 ·rw [Iw z] at q;obtain ⟨c, ρ',hb,q⟩:=q;obtain ⟨go,yl⟩:=(it M H st j c i).2 z;refine .inr ⟨go,fun σ' H' => ∃ m',m' < xs.length - i/\(m'=xs.length - (i+1)/\i+1<=xs.length /\ ∃ ρ M acc,RS K H' σ' ρ /\ RM K M H'/\M p=none/\gO K H' p acc/\ExtP p B H1 M H'/\bY b tb chk Nd (xs.drop (i+1)) ρ M acc),fun σ' H' h=>h,fun x' H' y => ?_⟩;obtain ⟨yy,d,hd,rd⟩:=yl x' H' y;rw [D1 z] at hd
  cases hd
  obtain ⟨xy,rmy⟩:=yy.ext j;have sty:=xy.stab j;have G:=xy.keep p _ n hp;refine ⟨_, ρ, ρ',rd,rs.mono sty,hb,fun σ2 O => ?_⟩;refine ⟨ρ',M,acc,O,rmy,n,⟨vs,G,ra.mono sty⟩,mb _ _ _ _ _ (fun ρ3 M3 L q3 σ3 H3 x3 U Y Z => ?_) q⟩;have n3:M3 p=none:=x3.new p _ n G;exact ⟨xs.length - (i+1),by lia,rfl,z, ρ3,M3,L,U,Y,n3,Z,(x.trans F ⟨vs,hp⟩ xy.toP).trans F ⟨vs,G⟩ x3,q3⟩
 ·have e:i=xs.length:=by lia
  subst e;rw [NM] at q;exact .inl ⟨(it M H st j q.1 _).1 (Hc _),hN ρ M acc σ H x rs j ac q.2⟩
theorem ir {src:TId} {b:BT} {tb:TCd} (ms:bW src) (mb:bX tb) (σ:St) (H:Hp) (N:St->Hp->Prop) (h:lC K p (dD src b tb) σ H N):(lI K src) σ H fun J H1=>cv J (lG K b) (lC K p tb) N σ H1:=by
 obtain ⟨ρ,M,acc,rs,rm,n,⟨vs,B,ra⟩,q⟩:=h;refine ⟨ρ,M,rs,rm,ms _ _ _ _ (fun xs chk O G J H1 z F it => ?_) q⟩;have j:=z.keep p _ n B;have L:=z.new p _ n B;have st:=z.stab rm;exact ln mb it (rs.mono st) F L ⟨vs,j,ra.mono st⟩ G fun ρ' M' acc' σ' H' x2 rs' rm' ac' k=>k σ' H' (z.toP.trans B ⟨vs,j⟩ x2) rs' rm' ac'
theorem eC {fr:List (Option Nat)} {src:TId} {b:BT} {tb:TCd} (ms:bW src) (mb:bX tb) (σ:St) (H:Hp) (Q:VK) (h:lE K (gP fr src b tb) σ H Q):sf (lI K src) (lG K b) (fun p=>lC K p tb) fr σ H Q:=by
 obtain ⟨ρ,M,rs,rm,q⟩:=h;refine ⟨ρ,M,rs,rm,ms _ _ _ _ (fun xs chk F O J H1 B j it p n => ?_) q⟩;have st:=B.stab rm;have xn:Ext F H1 F (upd H1 p (.lst [])):=Ru n;have stn:=xn.stab j;have L:F p=none:=j.out n;refine ln (p:=p) mb (xs:=xs) (chk:=chk) (fun M' H' st'=>it M' H' ⟨fun a xs e=>st'.tup _ _ (stn.tup _ _ e),fun a o u e=>st'.frz _ _ _ (stn.frz _ _ _ e)⟩) (((rs.mono st).mono stn).inh fr) (j.new n) L ⟨[],aw,RDs.nil⟩ O fun ρ' M' acc' σ' H' G rs' rm' ac' k => ?_;obtain ⟨vs,U,ra⟩:=ac';have n':M' p=none:=G.new p _ L aw;refine k p n' (.ref p) H' ⟨fun a o m e => ?_,fun a o m e => ?_⟩ (fun a o e => ?_) (Rk.mpr rfl)
 ·have e1:=B.kp a o m e;have ne:a≠p:=fun z=>by subst z;rw [n] at e1;cases e1
  exact G.kp a o ne (by rw [B.nw a o m e];exact m) (by rw [ak ne];exact e1)
 ·have e1:=B.kp a o m e;have ne:a≠p:=fun z=>by subst z;rw [n] at e1;cases e1
  rw [aK ne];exact (G.nw a o (by rw [B.nw a o m e];exact m) (by rw [ak ne];exact e1)).trans (B.nw a o m e)
 ·by_cases z:a=p
  ·subst z;rw [ad] at e;cases e;exact ⟨vs,U,ra⟩
  ·rw [aK z] at e;exact rm' a o e
end
end
section
noncomputable def gQ:TSd:=fun D ρ M=>D.nx ρ M
noncomputable def nT (t u:TSd):TSd:=fun D ρ M=>t { D with nx:=u D } ρ M
noncomputable def gc:TSd:=fun D ρ M=>D.bk ρ M
noncomputable def jt:TSd:=fun D ρ M=>D.ct ρ M
noncomputable def ju (te:TEd):TSd:=fun D ρ M=>te ρ M fun _ M1=>D.nx ρ M1
noncomputable def nU (te:TEd):TSd:=fun D ρ M=>te ρ M D.rt
noncomputable def sIf (c:TTd) (t u:TSd):TSd:=fun D ρ M=>c ρ M fun b M1=>if b=true then t D ρ M1 else u D ρ M1
noncomputable def fH (te:TEd) (b:BT):TSd:=fun D ρ M=>te ρ M fun x M1 => ∃ ρ',b x ρ = some ρ'/\D.nx ρ' M1
noncomputable def nV (ta:TAd) (bs:BTs):TSd:=fun D ρ M=>ta ρ M fun xs M1 => ∃ ρ',bs xs ρ = some ρ'/\D.nx ρ' M1
noncomputable def bM (b:BT) (tb:TSd) (chk:Mem->Prop) (D:bv):List Mi.D->av->Mem->Prop
 | [] => fun ρ M=>chk M/\D.nx ρ M
 | x::xs=>fun ρ M=>chk M /\ ∃ ρ',b x ρ = some ρ'/\tb { D with nx:=bM b tb chk D xs,ct:=bM b tb chk D xs,bk:=D.nx } ρ' M
noncomputable def nW (src:TId) (b:BT) (tb:TSd):TSd:=fun D ρ M=>src ρ M fun xs chk M1=>bM b tb chk D xs ρ M1
noncomputable def bg (c:TTd) (tb:TSd) (D:bv):Nat->av->Mem->Prop
 | 0=>fun _ _=>False
 | n+1=>fun ρ M=>c ρ M fun b M1=>if b=true then tb { D with nx:=bg c tb D n,ct:=bg c tb D n,bk:=D.nx } ρ M1 else D.nx ρ M1
noncomputable def gd (c:TTd) (tb:TSd):TSd:=fun D ρ M => ∃ n,bg c tb D n ρ M
theorem lp:aF gQ:=fun _ _ _ _ h q=>h.nx _ _ q
theorem sB:aF gc:=fun _ _ _ _ h q=>h.bk _ _ q
theorem uX:aF jt:=fun _ _ _ _ h q=>h.ct _ _ q
theorem uY {t u:TSd} (j:aF t) (z:aF u):aF (nT t u):=fun a b ρ M h q=>j { a with nx:=u a } { b with nx:=u b } _ _ ⟨fun ρ' M' q'=>z _ _ _ _ h q',h.rt,h.bk,h.ct⟩ q
theorem uZ {te:TEd} (h:ab te):aF (ju te):=fun a b ρ M i q=>h _ _ _ _ (fun _ z j=>i.nx _ _ j) q
theorem xM {te:TEd} (h:ab te):aF (nU te):=fun a b ρ M i q=>h _ _ _ _ (fun d z j=>i.rt _ _ j) q
theorem xN {c:TTd} {t u:TSd} (z:aG c) (B:aF t) (F:aF u):aF (sIf c t u):=fun a b ρ M i q=>z _ _ _ _ (fun k G j=>by
 cases k with
 | true=>rw [if_pos rfl] at j ⊢;exact B _ _ _ _ i j
 | false=>rw [if_neg H0] at j ⊢;exact F _ _ _ _ i j) q
theorem xO {te:TEd} {bt:BT} (h:ab te):aF (fH te bt):=fun a b ρ M i q=>h _ _ _ _ (fun d z ⟨ρ',e,j⟩=>⟨ρ',e,i.nx _ _ j⟩) q
theorem xP {ta:TAd} {bs:BTs} (h:bp ta):aF (nV ta bs):=fun a b ρ M i q=>h _ _ _ _ (fun d z ⟨ρ',e,j⟩=>⟨ρ',e,i.nx _ _ j⟩) q
theorem gf {bt:BT} {tb:TSd} (j:aF tb) {chk:Mem->Prop} {a b:bv} (i:LeD a b):∀ (xs:List D) (ρ:av) (M:Mem),bM bt tb chk a xs ρ M->bM bt tb chk b xs ρ M
 | [], ρ,M,h=>⟨h.1,i.nx _ _ h.2⟩
 | x::xs, ρ,M,⟨c, ρ',e,q⟩=>⟨c, ρ',e,j { a with nx:=bM bt tb chk a xs,ct:=bM bt tb chk a xs,bk:=a.nx } { b with nx:=bM bt tb chk b xs,ct:=bM bt tb chk b xs,bk:=b.nx } _ _ ⟨fun ρ2 M2 z=>gf j i xs ρ2 M2 z,i.rt,i.nx,fun ρ2 M2 z=>gf j i xs ρ2 M2 z⟩ q⟩
theorem xQ {src:TId} {bt:BT} {tb:TSd} (hs:bW src) (j:aF tb):aF (nW src bt tb):=fun a b ρ M i q=>hs _ _ _ _ (fun xs c B z=>gf j i xs _ _ z) q
theorem eM {c:TTd} {tb:TSd} (q:aG c) (z:aF tb) {a b:bv} (i:LeD a b):∀ (n:Nat) (ρ:av) (M:Mem),bg c tb a n ρ M->bg c tb b n ρ M
 | 0, ρ,M,h=>h
 | n+1, ρ,M,h=>q _ _ _ _ (fun k F j=>by
   cases k with
   | true=>rw [if_pos rfl] at j ⊢;exact z { a with nx:=bg c tb a n,ct:=bg c tb a n,bk:=a.nx } { b with nx:=bg c tb b n,ct:=bg c tb b n,bk:=b.nx } _ _ ⟨fun ρ2 M2 B=>eM q z i n ρ2 M2 B,i.rt,i.nx,fun ρ2 M2 B=>eM q z i n ρ2 M2 B⟩ j
   | false=>rw [if_neg H0] at j ⊢;exact i.nx _ _ j) h
theorem sC {c:TTd} {tb:TSd} (j:aG c) (z:aF tb):aF (gd c tb):=fun a b ρ M i ⟨n,q⟩=>⟨n,eM j z i n _ _ q⟩
section
variable {K:Frag}
theorem lq (D:bC) (σ:St) (H:Hp) (h:lS K gQ D σ H):rM D σ H:=by
 obtain ⟨ρ,M,A,rs,rm,l,q⟩:=h;exact l.nx ρ M σ H Ext.refl rs rm q
theorem sD (D:bC) (σ:St) (H:Hp) (h:lS K gc D σ H):u5 D σ H:=by
 obtain ⟨ρ,M,A,rs,rm,l,q⟩:=h;exact l.bk ρ M σ H Ext.refl rs rm q
theorem v6 (D:bC) (σ:St) (H:Hp) (h:lS K jt D σ H):yP D σ H:=by
 obtain ⟨ρ,M,A,rs,rm,l,q⟩:=h;exact l.ct ρ M σ H Ext.refl rs rm q
theorem xR {t u:TSd} (mt:aF t) (mu:aF u) (D:bC) (σ:St) (H:Hp) (h:lS K (nT t u) D σ H):BD (lS K t) (lS K u) D σ H:=by
 obtain ⟨ρ,M,A,rs,rm,l,q⟩:=h;exact ⟨ρ,M, { A with nx:=u A },rs,rm,⟨fun ρ' M' σ' H' x rs' rm' q'=>⟨ρ',M',A,rs',rm',l.ext x,q'⟩,l.rt,l.bk,l.ct⟩,q⟩
theorem v7 {te:TEd} (m:ab te) (D:bC) (σ:St) (H:Hp) (h:lS K (ju te) D σ H):yQ (lE K te) D σ H:=by
 obtain ⟨ρ,M,A,rs,rm,l,q⟩:=h;exact ⟨ρ,M,rs,rm,m _ _ _ _ (fun d B F v H1 z j G=>l.nx ρ B σ H1 z (rs.mono (z.stab rm)) j F) q⟩
theorem xS {te:TEd} (m:ab te) (D:bC) (σ:St) (H:Hp) (h:lS K (nU te) D σ H):BE (lE K te) D σ H:=by
 obtain ⟨ρ,M,A,rs,rm,l,q⟩:=h;exact ⟨ρ,M,rs,rm,m _ _ _ _ (fun d B F v H1 G j z=>l.rt d B v H1 G j z F) q⟩
theorem Aw {c:TTd} {t u:TSd} (mc:aG c) (D:bC) (σ:St) (H:Hp) (h:lS K (sIf c t u) D σ H):BH (lT K c) (lS K t) (lS K u) D σ H:=by
 obtain ⟨ρ,M,A,rs,rm,l,q⟩:=h;refine ⟨ρ,M,rs,rm,mc _ _ _ _ (fun k F z H1 B j => ?_) q⟩
 cases k with
 | true=>rw [if_pos rfl] at z ⊢;exact ⟨ρ,F,A,rs.mono (B.stab rm),j,l.ext B,z⟩
 | false=>rw [if_neg H0] at z ⊢;exact ⟨ρ,F,A,rs.mono (B.stab rm),j,l.ext B,z⟩
theorem xT {te:TEd} {b:BT} (m:ab te) (D:bC) (σ:St) (H:Hp) (h:lS K (fH te b) D σ H):rN (lE K te) (lG K b) D σ H:=by
 obtain ⟨ρ,M,A,rs,rm,l,q⟩:=h;refine ⟨ρ,M,rs,rm,m _ _ _ _ (fun d F ⟨ρ',e,G⟩ v H1 B j z => ?_) q⟩;exact ⟨d, ρ, ρ',z,rs.mono (B.stab rm),e,fun σ' rs'=>l.nx ρ' F σ' H1 B rs' j G⟩
theorem lr {te:TEd} {i:Nat} (m:ab te) (D:bC) (σ:St) (H:Hp) (h:lS K (fH te (bw i)) D σ H):rN (lE K te) (iW i) D σ H:=by
 obtain ⟨ρ,M,A,rs,rm,l,q⟩:=h;refine ⟨ρ,M,rs,rm,m _ _ _ _ (fun d z ⟨ρ',e,B⟩ v H1 j rm1 rd1 => ?_) q⟩
 cases e
 exact l.nx _ z _ H1 j ((rs.mono (j.stab rm)).set i rd1) rm1 B
theorem xU {src:TId} {b:BT} {tb:TSd} (ms:bW src) (mb:aF tb) (D:bC) (σ:St) (H:Hp) (h:lS K (nW src b tb) D σ H):BO (lI K src) (lG K b) (lS K tb) D σ H:=by
 obtain ⟨ρ,M,A,rs,rm,l,q⟩:=h;refine ⟨ρ,M,rs,rm,ms _ _ _ _ (fun xs chk M1 q1 J H1 x1 G it => ?_) q⟩;refine ⟨fun i m σ H'=>m=xs.length - i/\i<=xs.length /\ ∃ ρ M2,RS K H' σ ρ /\ RM K M2 H'/\Ext M1 H1 M2 H'/\bM b tb chk A (xs.drop i) ρ M2,⟨xs.length,by simp,J1 _, ρ,M1,rs.mono (x1.stab rm),G,Ext.refl,q1⟩, ?_⟩
 rintro i m σ2 H2 ⟨rfl,hi, ρ2,M2,L,j,x2,O⟩;have U:=x2.stab G
 by_cases B:i < xs.length
 ·rw [Iw B] at O;obtain ⟨c, ρ',hb,q3⟩:=O;obtain ⟨go,yl⟩:=(it M2 H2 U j c i).2 B;refine .inr ⟨go,fun σ' H' => ∃ m',m' < xs.length - i/\(m'=xs.length - (i+1)/\i+1<=xs.length /\ ∃ ρ M,RS K H' σ' ρ /\ RM K M H'/\Ext M1 H1 M H'/\bM b tb chk A (xs.drop (i+1)) ρ M),fun σ' H' h=>h,fun x' H' y => ?_⟩;obtain ⟨yy,d,hd,rd⟩:=yl x' H' y;rw [D1 B] at hd
  cases hd
  obtain ⟨xy,rmy⟩:=yy.ext j;have Y:=x1.trans (x2.trans xy);refine ⟨_, ρ2, ρ',rd,L.mono (xy.stab j),hb,fun σ3 EJ => ?_⟩;have nx:∀ ρ5 F σ5 z,Ext M2 H' F z->RS K z σ5 ρ5->RM K F z->bM b tb chk A (xs.drop (i+1)) ρ5 F -> ∃ m',m' < xs.length - i/\(m'=xs.length - (i+1)/\i+1<=xs.length /\ ∃ ρ M,RS K z σ5 ρ /\ RM K M z/\Ext M1 H1 M z/\bM b tb chk A (xs.drop (i+1)) ρ M) :=
   fun ρ5 F σ5 z Z EK EL q5=>⟨xs.length - (i+1),by lia,rfl,B, ρ5,F,EK,EL,(x2.trans xy).trans Z,q5⟩
  refine ⟨ρ',M2, { A with nx:=bM b tb chk A (xs.drop (i+1)),ct:=bM b tb chk A (xs.drop (i+1)),bk:=A.nx },EJ,rmy,⟨nx,fun d F v z Z=>l.rt d F v z (Y.trans Z),fun ρ5 F σ5 z Z=>l.nx ρ5 F σ5 z (Y.trans Z),nx⟩,q3⟩
 ·have e:i=xs.length:=by lia
  subst e;rw [NM] at O;exact .inl ⟨(it M2 H2 U j O.1 _).1 (Hc _),l.nx ρ2 M2 σ2 H2 (x1.trans x2) L j O.2⟩
theorem sF {c:TTd} {tb:TSd} (mc:aG c) (mb:aF tb) (D:bC) (σ:St) (H:Hp) (h:lS K (gd c tb) D σ H):u7 (lT K c) (lS K tb) D σ H:=by
 obtain ⟨ρ,M,A,rs,rm,l,n,q⟩:=h;refine ⟨fun m σ' H' => ∃ ρ' M',RS K H' σ' ρ'/\RM K M' H'/\Ext M H M' H'/\bg c tb A m ρ' M',⟨n, ρ,M,rs,rm,Ext.refl,q⟩, ?_⟩;rintro m σ1 H1 ⟨ρ1,M1,J,L,x1,q1⟩
 cases m with
 | zero=>exact q1.elim
 | succ m =>
   refine ⟨ρ1,M1,J,L,mc _ _ _ _ (fun k M2 Z H2 x2 O => ?_) q1⟩;have j:=x1.trans x2;have U:=J.mono (x2.stab L)
   cases k with
   | false=>rw [if_neg H0] at Z;dsimp only;rw [if_neg H0];exact l.nx ρ1 M2 σ1 H2 j U O Z
   | true =>
     rw [if_pos rfl] at Z;dsimp only;rw [if_pos rfl];refine ⟨fun σ' H' => ∃ ρ' M',RS K H' σ' ρ'/\RM K M' H'/\Ext M H M' H'/\bg c tb A m ρ' M',fun σ' H' h=>⟨m,Nat.lt_succ_self m,h⟩, ρ1,M2, { A with nx:=bg c tb A m,ct:=bg c tb A m,bk:=A.nx },U,O,⟨?_,fun d z v Y B=>l.rt d z v Y (j.trans B),fun ρ5 z σ5 Y B=>l.nx ρ5 z σ5 Y (j.trans B), ?_⟩,Z⟩
     ·exact fun ρ5 z σ5 Y B F G q5=>⟨ρ5,z,F,G,j.trans B,q5⟩
     ·exact fun ρ5 z σ5 Y B F G q5=>⟨ρ5,z,F,G,j.trans B,q5⟩
end
noncomputable def eD:D->D->D->Mem->(Mem->Prop)->Prop:=fun o i v M Q => ∃ a,o = .ref a /\
 ((∃ xs k j,i = .int k/\M a=some (.lst xs)/\ixN xs.length k=some j/\Q (ag M a (.lst (xs.set j v)))) ∨
  ∃ t kvs,M a=some (.dct t kvs)/\gK t i=true/\kvs.length < GX/\Q (ag M a (.dct t (cj kvs i v))))
noncomputable def nX (te to ti:TEd):TSd:=fun D ρ M=>te ρ M fun v M1=>to ρ M1 fun o M2=>ti ρ M2 fun i M3=>eD o i v M3 fun M4=>D.nx ρ M4
theorem lw {o i v:D} {M:Mem} {Q Q':Mem->Prop} (h:∀ M',Q M'->Q' M') (q:eD o i v M Q):eD o i v M Q':=by
 obtain ⟨a,e,⟨xs,k,j,e1,e2,z,q⟩ | ⟨t,kvs,e1,e2,z,q⟩⟩:=q
 ·exact ⟨a,e, .inl ⟨xs,k,j,e1,e2,z,h _ q⟩⟩
 ·exact ⟨a,e, .inr ⟨t,kvs,e1,e2,z,h _ q⟩⟩
theorem xV {te to ti:TEd} (he:ab te) (ho:ab to) (hi:ab ti):aF (nX te to ti):=fun a b ρ M i q =>
 he _ _ _ _ (fun v F j=>ho _ _ _ _ (fun o M2 z=>hi _ _ _ _ (fun k G B=>lw (fun M' q'=>i.nx _ _ q') B) z) j) q
section
variable {X:Cx} {K:Frag}
theorem nY (j:X.A.units+1 < JH):PSet X (fun o i v H Q => ∃ a H',o = .ref a/\DPut H a i v H'/\Q H'):=by
 intro pins s σ H o i v ov iv u Q I ro ri rv h;obtain ⟨a,H',rfl,g,q⟩:=h
 cases ro
 exact ut j I g ri rv fun s' I'=>⟨H',I',q⟩
theorem PSet.or {t t':ka} (h:PSet X t) (h':PSet X t'):PSet X (fun o i v H Q=>t o i v H Q∨t' o i v H Q):=by
 intro pins s σ H o i v ov iv u Q I ro ri rv q
 rcases q with q | q
 ·exact h pins s σ H o i v ov iv u Q I ro ri rv q
 ·exact h' pins s σ H o i v ov iv u Q I ro ri rv q
section
variable {κ:Type} [DecidableEq κ] {H:Hp} {RK:D -> κ -> Prop} (inj:∀ {d e:D} {k : κ},RK d k->RK e k->d=e) (fn:∀ {d:D} {k k' : κ},RK d k->RK d k'->k=k')
include inj fn
theorem qD {k:D} {q : κ} (j:RK k q):∀ {kvs:List (D×D)} {ps:List (κ × V)},HZ (fun p r=>RK p.1 r.1/\RD K H p.2 r.2) kvs ps ->
 (kvs.any fun p=>decide (p.1=k))=(ps.any fun p=>decide (p.1=q))
 | _,_, .nil=>rfl
 | _,_, .cons (a:=p) (b:=r) hr t=>by
   rw [Ks,Ks,qD j t];congr 1
   by_cases e:p.1=k
   ·have e':r.1=q:=by have h1:=hr.1;rw [e] at h1;exact fn h1 j
    rw [decide_eq_true e,decide_eq_true e']
   ·have e' : ¬ r.1=q:=fun z=>e (by have h1:=hr.1;rw [z] at h1;exact inj h1 j)
    rw [decide_eq_false e,decide_eq_false e']
theorem qE {k:D} {q : κ} (B:RK k q) {d:D} {v:V} (F:RD K H d v):∀ {kvs:List (D×D)} {ps:List (κ × V)},HZ (fun p r=>RK p.1 r.1/\RD K H p.2 r.2) kvs ps ->
 HZ (fun p r=>RK p.1 r.1/\RD K H p.2 r.2) (kvs.map fun p=>if p.1=k then (p.1,d) else p) (ps.map fun p=>if p.1=q then (p.1,v) else p)
 | _,_, .nil => .nil
 | _,_, .cons (a:=p) (b:=r) j t=>by
   refine .cons ?_ (qE B F t)
   by_cases e:p.1=k
   ·have e':r.1=q:=by have h1:=j.1;rw [e] at h1;exact fn h1 B
    dsimp only;rw [if_pos e,if_pos e'];exact ⟨j.1,F⟩
   ·have e' : ¬ r.1=q:=fun z=>e (by have h1:=j.1;rw [z] at h1;exact inj h1 B)
    dsimp only;rw [if_neg e,if_neg e'];exact j
theorem iG {k:D} {q : κ} (j:RK k q) {d:D} {v:V} (z:RD K H d v) {kvs:List (D×D)} {ps:List (κ × V)} (r:HZ (fun p r=>RK p.1 r.1/\RD K H p.2 r.2) kvs ps) :
 HZ (fun p r=>RK p.1 r.1/\RD K H p.2 r.2) (cj kvs k d) (bm ps q v):=by
 unfold cj bm;rw [qD (K:=K) (H:=H) (RK:=RK) inj fn j r]
 by_cases e:(ps.any fun p=>decide (p.1=q))=true
 ·rw [if_pos e,if_pos e];exact qE (RK:=RK) inj fn j z r
 ·rw [if_neg e,if_neg e];exact r.snoc ⟨j,z⟩
end
theorem nZ {M:Mem} {H:Hp} {o i v:D} {ov iv vv:V} {Qd:Mem->Prop} {Q:Hp->Prop} (rm:RM K M H) (ro:RD K H o ov) (ri:RD K H i iv) (rv:RD K H v vv) (h:eD o i v M Qd) (J:∀ M' H',Ext M H M' H'->RM K M' H'->Qd M'->Q H') :
 yU ov iv vv H Q ∨ ∃ a H',ov = .ref a/\DPut H a iv vv H'/\Q H':=by
 obtain ⟨a,rfl,⟨xs,k,j,rfl,e2,G,q⟩ | ⟨t,kvs,e1,e2,G,q⟩⟩:=h
 ·cases Rk.mp ro
  cases Rj.mp ri
  obtain ⟨vs,U,rs⟩:=rm _ _ e2;have st:Stab H (upd H a (.lst (vs.set j vv))):=rm.stabPut e2;exact .inl ⟨a,vs,k,j,rfl,rfl,U,by rw [rs.length];exact G,J _ _ (Ext.put e2) (rm.put (o := .lst (xs.set j v)) e2 ⟨_,aw,(rs.set j rv).mono st⟩) q⟩
 ·cases Rk.mp ro
  have ro':=rm _ _ e1
  cases t with
  | false =>
    obtain ⟨ps,L,pr⟩:=ro';obtain ⟨kq,F⟩:=nj (show fw i=true from e2);have st:Stab H (upd H a (.dK (bm ps kq vv))):=rm.stabPut e1;have B:=iG (RK:=RKey) RKey.inj RKey.fun F rv pr;rw [kr F ri];refine .inr ⟨a,_,rfl,DPut.k L (by rw [<- JX pr];exact G),J _ _ (Ext.put e1) (rm.put (o := .dct false (cj kvs i v)) e1 ⟨_,aw,Rp B fun _ _ z=>⟨z.1,z.2.mono st⟩⟩) q⟩
  | true =>
    obtain ⟨ps,L,pr⟩:=ro';obtain ⟨kq,F⟩:=kh (show bQ i=true from e2);have st:Stab H (upd H a (.dT (bm ps kq vv))):=rm.stabPut e1;have B:=iG (RK:=RKeys) RKeys.inj RKeys.fun F rv pr
    cases i <;> first
     | exact F.elim
     | (obtain ⟨b,us,rfl,O,ru⟩:=RB (ki e2) ri
        rw [fy F ru] at O;exact .inr ⟨a,_,rfl,DPut.t L O (by rw [<- JX pr];exact G),J _ _ (Ext.put e1) (rm.put (o := .dct true (cj kvs _ v)) e1 ⟨_,aw,Rp B fun _ _ z=>⟨z.1,z.2.mono st⟩⟩) q⟩)
theorem Cy {o i e:Expr} {te to ti:TEd} {pos tpos:Pos} (hu:X.A.units+1 < JH) (me:ab te) (mo:ab to) (mi:ab ti) (he:PE X e (lE X.K te)) (ho:PE X o (lE X.K to)) (hi:PE X i (lE X.K ti))
 (hs:L6 [.Subscript o i tpos] e pos.line X.env=pure false) (hw:JY [.Subscript o i tpos] e X.env=pure none)
 (ha:∀ v,assign (.Subscript o i tpos) X.env v=(do
   let ov <- holding [v] (eval o X.env)
   let iv <- holding [v,ov] (eval i X.env)
   Nm tpos
   holding [v,ov,iv] (OT ov iv v)
   release [v,ov,iv] [])):PS X (.Assign [.Subscript o i tpos] e pos) (lS X.K (nX te to ti)):=by
 refine PS.imp (u6 he (BJ ho hi (PSet.or mY (nY hu)) ha) hs hw rfl) fun D σ H h => ?_;obtain ⟨ρ,M,A,rs,rm,l,q⟩:=h;refine ⟨ρ,M,rs,rm,me _ _ _ _ (fun v M1 q1 vv H1 F j G => ?_) q⟩;refine ⟨ρ,M1,rs.mono (F.stab rm),j,mo _ _ _ _ (fun ov M2 q2 vo H2 J z L => ?_) q1⟩;refine ⟨ρ,M2,(rs.mono (F.stab rm)).mono (J.stab j),z,mi _ _ _ _ (fun iv M3 q3 vi H3 O U Y => ?_) q2⟩;have B:=F.trans (J.trans O);exact nZ U (L.mono (O.stab z)) Y ((G.mono (J.stab j)).mono (O.stab z)) q3 fun M' H' x4 Z q4=>l.nx ρ M' σ H' (B.trans x4) (rs.mono ((B.trans x4).stab rm)) Z q4
noncomputable def mN:R2d
 | .int i, .int j,M,Q=>Q (.int (i+j)) M
 | _,_,_,_=>False
noncomputable def mP:R2d
 | .int i, .int j,M,Q=>Q (.int (i - j)) M
 | _,_,_,_=>False
noncomputable def mQ:R2d
 | .int i, .int j,M,Q=>MulOk i j/\Q (.int (i*j)) M
 | _,_,_,_=>False
theorem gh:ar mN:=by
 intro x y M Q Q' h q
 cases x <;> cases y <;> first | exact q.elim | exact h _ _ q
theorem gi:ar mP:=by
 intro x y M Q Q' h q
 cases x <;> cases y <;> first | exact q.elim | exact h _ _ q
theorem gj:ar mQ:=by
 intro x y M Q Q' h q
 cases x <;> cases y <;> first | exact q.elim | exact ⟨q.1,h _ _ q.2⟩
theorem lB:OpR X (JK .Add) (l2 X.K mN):=by
 refine OpR.of zO fun v u H Q h => ?_;obtain ⟨x,y,M,rm,rx,ry,q⟩:=h
 cases x <;> cases y <;> first
  | exact q.elim
  | (cases Rj.mp rx;cases Rj.mp ry;exact ⟨_,_,rfl,rfl,q _ H Ext.refl rm (Rj.mpr rfl)⟩)
theorem lD:OpR X (JK .Sub) (l2 X.K mP):=by
 refine OpR.of zP fun v u H Q h => ?_;obtain ⟨x,y,M,rm,rx,ry,q⟩:=h
 cases x <;> cases y <;> first
  | exact q.elim
  | (cases Rj.mp rx;cases Rj.mp ry;exact ⟨_,_,rfl,rfl,q _ H Ext.refl rm (Rj.mpr rfl)⟩)
theorem v8:OpR X (JK .Mult) (rI MulOk fun i j => .int (i*j)):=opI fun _ _ _ _ _ _ _ z q=>imul_int q z.ok
theorem lF:OpR X (JK .Mult) (l2 X.K mQ):=by
 refine OpR.of v8 fun v u H Q h => ?_;obtain ⟨x,y,M,rm,rx,ry,q⟩:=h
 cases x <;> cases y <;> first
  | exact q.elim
  | (cases Rj.mp rx;cases Rj.mp ry;exact ⟨_,_,rfl,rfl,q.1,q.2 _ H Ext.refl rm (Rj.mpr rfl)⟩)
noncomputable def og (i:Nat) (rd:R2d) (te:TEd):TSd:=fun D ρ M => ∃ x, ρ[i]? = some (some x)/\te ρ M fun y M1=>rd x y M1 fun z M2=>D.nx (ρ.set i (some z)) M2
theorem xW {i:Nat} {rd:R2d} {te:TEd} (j:ar rd) (he:ab te):aF (og i rd te):=fun a b ρ M l ⟨x,e,q⟩=>⟨x,e,he _ _ _ _ (fun y G B=>j _ _ _ _ _ (fun z M2 F=>l.nx _ _ F) B) q⟩
theorem jv {i:Nat} {x:Str} {e:Expr} {te:TEd} {op:KG} {rd:R2d} {pos pos':Pos} (U:X.N.Nodup) (hi:X.N[i]? = some x) (hx:Loc X.env.scope x) (he:PE X e (lE X.K te)) (ho:OpR X (JK op) (l2 X.K rd)) (Y:ar rd) (me:ab te)
 (hf:X.fn x=true∨X.env.scope.names.lookup x=some .local):PS X (.AugAssign (.Name x pos') op e pos) (lS X.K (og i rd te)):=by
 refine PS.imp (BM U hi hx he (ti:=l2 X.K rd) ho hf) fun D σ H h => ?_;obtain ⟨ρ,M,A,rs,rm,l,d,e,q⟩:=h;obtain ⟨v,Z,j⟩:=rs.2 i d e;refine ⟨v,Z, ρ,M,rs,rm,me _ _ _ _ (fun y M1 q1 u H1 B F G => ?_) q⟩;refine ⟨d,y,M1,F,j.mono (B.stab rm),G,Y _ _ _ _ _ (fun z M2 q2 w H2 O J L => ?_) q1⟩;exact l.nx _ M2 _ H2 (B.trans O) ((rs.mono ((B.trans O).stab rm)).set i L) J q2
end
end
end Mi
end L2
namespace L2
open PySem PySem.Spec PyProof.Rows
namespace Mi
variable {K:Frag}
theorem v9 {ta:TAd} {i j:Nat} (m:bp ta) (D:bC) (σ:St) (H:Hp) (h:lS K (nV ta (bE (bw i) (bE (bw j) fD))) D σ H):BK i j (lA K ta) D σ H:=by
 obtain ⟨ρ,M,A,rs,rm,l,q⟩:=h;refine ⟨ρ,M,rs,rm,m _ _ _ _ (fun ds G ⟨ρ',e,J⟩ vs H1 F B z => ?_) q⟩
 match ds,e,z with
 | [d1,d2],e,z =>
  obtain ⟨v,u,rfl,L,O⟩:=z.two;simp only [bE,bw,fD,LZ,PV] at e;subst e;exact ⟨v,u,rfl,l.nx _ G _ H1 F (((rs.mono (F.stab rm)).set i L).set j O) B J⟩
end Mi
end L2
namespace L2
open PySem PySem.Spec PyProof.Rows
section
section
variable {X:Cx}
theorem aA:BN X (fun o i H Q => ∃ a xs k x,o = .ref a/\i = .int k/\SqL X.K H a xs/\atI xs k=some x/\Q x H):=by
 intro pins s σ H o i ov iv Q I ro ri h;obtain ⟨a,xs,k,x,rfl,rfl,sq,he,q⟩:=h
 cases ro
 obtain ⟨t,rfl⟩:=ri;obtain ⟨its,r,pl,J⟩:=I.list sq;obtain ⟨j,h1,h2,L,B,F⟩:=kb he;obtain ⟨w,ew,rw'⟩:=r.get h2;have G:=r.length;have O:=eQ;have fin:EP X pins σ Q w s:=⟨x,H,I,rw',q⟩
 by_cases h0 : 0<=k
 ·have z:k.toNat=j:=Jo.inj (by rw [<- h1,Ox h0 F])
  exact wpAny_getItem_list pl.isList h0 (by lia) (by rw [z];simpa using ew) fin
 ·have z:(k+(its.toArray.size:Int)).toNat=j:=by
   rw [H9, <- G];exact Jo.inj (by rw [<- h1,NX (by lia) B])
  exact NZ pl.isList (by lia) (by rw [H9];lia) (by lia) (by rw [z];simpa using ew) fin
end
namespace Mi
section
variable {X:Cx}
noncomputable def zf:R2d:=fun x y M Q => ∃ a ds k d,x = .ref a/\y = .int k/\M a=some (.lst ds)/\atI ds k=some d/\Q d M
theorem va:ar zf:=fun _ _ _ _ _ h ⟨a,ds,k,d,e1,e2,j,z,q⟩=>⟨a,ds,k,d,e1,e2,j,z,h _ _ q⟩
noncomputable def jw (to ti te:TEd) (rd:R2d):TSd:=fun D ρ M=>to ρ M fun o M1=>ti ρ M1 fun i M2=>zf o i M2 fun x M3=>te ρ M3 fun y M4=>rd x y M4 fun z M5=>eD o i z M5 fun M6=>D.nx ρ M6
theorem vc {to ti te:TEd} {rd:R2d} (ho:ab to) (hi:ab ti) (he:ab te) (j:ar rd):aF (jw to ti te rd):=fun a b ρ M l q =>
 ho _ _ _ _ (fun o U B=>hi _ _ _ _ (fun i M2 F=>va _ _ _ _ _ (fun x Y G=>he _ _ _ _ (fun y Z J=>j _ _ _ _ _ (fun z M5 L=>lw (fun M6 O=>l.nx _ _ O) L) J) G) F) B) q
theorem kz {o i e:Expr} {to ti te:TEd} {op:KG} {rd:R2d} {pos tpos:Pos} (hu:X.A.units+1 < JH) (mo:ab to) (mi:ab ti) (me:ab te) (hr:ar rd) (ho:PE X o (lE X.K to)) (hi:PE X i (lE X.K ti)) (he:PE X e (lE X.K te)) (J:OpR X (JK op) (l2 X.K rd))
 (ha:∀ ov iv new,augStore i ov iv new=(do holding [new,ov,iv] (OT ov iv new);release [new,ov,iv] [];pure .next)):PS X (.AugAssign (.Subscript o i tpos) op e pos) (lS X.K (jw to ti te rd)):=by
 refine PS.imp (zN ho hi aA he (tip:=l2 X.K rd) J (PSet.or mY (nY hu)) ha) fun D σ H h => ?_;obtain ⟨ρ,M,A,rs,rm,l,q⟩:=h;refine ⟨ρ,M,rs,rm,mo _ _ _ _ (fun d1 M1 q1 v1 H1 x1 j L => ?_) q⟩;have B:=rs.mono (x1.stab rm);refine ⟨ρ,M1,B,j,mi _ _ _ _ (fun d2 M2 q2 v2 H2 O z U => ?_) q1⟩;have Y:=B.mono (O.stab j);have F:=L.mono (O.stab j);obtain ⟨a,ds,k,d,rfl,rfl,e3,e4,q3⟩:=q2
 cases Rk.mp F
 cases Rj.mp U
 obtain ⟨vs,Z,rv⟩:=z _ _ e3;obtain ⟨v3,EJ,EK⟩:=jd rv e4;refine ⟨a,vs,k,v3,rfl,rfl,SqL.of Z,EJ, ?_⟩;refine ⟨ρ,M2,Y,z,me _ _ _ _ (fun d4 M4 q4 v4 H4 x4 EL EM => ?_) q3⟩;refine ⟨d,d4,M4,EL,EK.mono (x4.stab z),EM,hr _ _ _ _ _ (fun d5 M5 q5 v5 H5 x5 EN EO => ?_) q4⟩;have G:=((x1.trans O).trans x4).trans x5;exact nZ EN (Rk.mpr rfl) (Rj.mpr rfl) EO q5 fun M' H' x6 EQ q6=>l.nx ρ M' σ H' (G.trans x6) (rs.mono ((G.trans x6).stab rm)) EQ q6
end
section
section
variable {X:Cx}
noncomputable def cU (r r':R2d) (ta tb tc:TEd):TEd:=fun ρ M Q=>ta ρ M fun x M1=>tb ρ M1 fun y M2=>r x y M2 fun z M3 => ∃ k,z = .bl k/\(if k=true then tc ρ M3 fun w M4=>r' y w M4 Q else Q (.bl false) M3)
theorem fI {r r':R2d} {ta tb tc:TEd} (F:ar r) (B:ar r') (G:ab ta) (J:ab tb) (L:ab tc):ab (cU r r' ta tb tc):=fun ρ M Q Q' i q =>
 G _ _ _ _ (fun x Z O=>J _ _ _ _ (fun y M2 U=>F _ _ _ _ _ (fun z M3 ⟨k,e,j⟩=>⟨k,e,by
  cases k with
  | true=>rw [if_pos rfl] at j ⊢;exact L _ _ _ _ (fun w M4 Y=>B _ _ _ _ _ i Y) j
  | false=>rw [if_neg H0] at j ⊢;exact i _ _ j⟩) U) O) q
theorem jx {r r':R2d} {ta tb tc:TEd} (hr:ar r) (Y:ar r') (ma:ab ta) (mb:ab tb) (mc:ab tc) (σ:St) (H:Hp) (Q:VK) (h:lE X.K (cU r r' ta tb tc) σ H Q):mW (l2 X.K r) (l2 X.K r') (lE X.K ta) (lE X.K tb) (lE X.K tc) σ H Q:=by
 obtain ⟨ρ,M,rs,rm,q⟩:=h;refine ⟨ρ,M,rs,rm,ma _ _ _ _ (fun x M1 q1 v H1 J j Z => ?_) q⟩;refine ⟨ρ,M1,rs.mono (J.stab rm),j,mb _ _ _ _ (fun y M2 q2 w H2 L B G => ?_) q1⟩;refine ⟨x,y,M2,B,Z.mono (L.stab j),G,hr _ _ _ _ _ (fun z M3 ⟨k,e,O⟩ v3 H3 U F EJ => ?_) q2⟩;subst e;refine ⟨k,Rm.mp EJ, ?_⟩
 cases k with
 | true =>
   rw [if_pos rfl] at O ⊢;refine ⟨ρ,M3,(((rs.mono (J.stab rm)).mono (L.stab j)).mono (U.stab B)),F,mc _ _ _ _ (fun w4 M4 q4 v4 H4 x4 EK EL => ?_) O⟩;exact ⟨y,w4,M4,EK,(G.mono (U.stab B)).mono (x4.stab F),EL,Y _ _ _ _ _ (fun d M5 k5=>k5.ext (((J.trans L).trans U).trans x4)) q4⟩
 | false =>
   rw [if_neg H0] at O ⊢;exact O (.bl false) H3 ((J.trans L).trans U) F (Rm.mpr rfl)
noncomputable def oh:D->Option Bool
 | .bl b=>some b
 | .int i=>some (i != 0)
 | _=>none
noncomputable def sH:RAd:=fun xs M Q => ∃ x ds ts,xs=[x]/\aq M x=some ds/\aM oh ds=some ts/\Q (.bl (ts.all id)) M
theorem oi:aX sH:=fun _ _ _ _ h ⟨x,ds,ts,e,e1,e2,q⟩=>⟨x,ds,ts,e,e1,e2,h _ _ q⟩
theorem oj {α β:Type} {f : α -> Option β}:∀ {xs:List α} {ys:List β},aM f xs=some ys->ys.length=xs.length /\ ∀ (i:Nat) x,xs[i]? = some x -> ∃ y,ys[i]? = some y/\f x=some y
 | [],ys,h=>by cases h;exact ⟨rfl,fun i x e=>by simp at e⟩
 | x::xs,ys,h=>by
   simp only [aM] at h
   cases e1:f x with
   | none=>rw [e1] at h;cases h
   | some y =>
     rw [e1] at h;simp only [LZ] at h
     cases e2:aM f xs with
     | none=>rw [e2] at h;cases h
     | some r =>
       rw [e2] at h;cases h;obtain ⟨l,g⟩:=oj e2;refine ⟨by simp [l],fun i z e => ?_⟩
       cases i with
       | zero=>simp at e;subst e;exact ⟨y,rfl,e1⟩
       | succ i=>simp at e;simpa using g i z e
theorem Ax {P:Hu} {w:HW} {A:Ib} {E:h7->D0->Prop} {s:D0} {K:Frag} {H:Hp} {d:D} {v:V} {u:h7} {b:Bool} {Q:Bool->D0->Prop} (e:oh d=some b) (rd:RD K H d v) (ru:RelV v u) (q:Q b s):Hd (model P w) A (truthy u) Q E s:=by
 cases d with
 | bl c=>cases Rm.mp rd;cases ru;cases e;exact IP q
 | int i=>cases Rj.mp rd;obtain ⟨t,rfl⟩:=ru;cases e;exact PyProof.Rows.truthy_int q
 | _=>cases e
theorem range_all {ts:List Bool}:(Hi ts.length).all (fun i=>ts.getD i false)=ts.all id/\(Hi ts.length).any (fun i=>ts.getD i false)=ts.any id:=by
 have e:(Hi ts.length).map (fun i=>ts.getD i false)=ts:=by
  apply Qe
  ·simp
  ·intro i h1 h2;simp [I0,D1 h2]
 constructor
 ·conv=>rhs;rw [<- e]
  rw [List.all_map];rfl
 ·conv=>rhs;rw [<- e]
  rw [List.any_map];rfl
theorem xX (J:X.calm=true) {pins:List (Addr×Obj)} {s:D0} {σ:St} {H:Hp} {M:Mem} {x:D} {ds:List D} {ts:List Bool} {v:V} {u:h7} {Q:h7->D0->Prop} {g:List Bool->Bool} (I:Inv X pins σ H s) (rm:RM X.K M H) (rd:RD X.K H x v) (ru:RelV v u) (e1:aq M x=some ds) (e2:aM oh ds=some ts)
 (fin:∀ h' tk,Inv X pins σ H { s with heap:=h',toks:=tk }->Q (.bool (g ts)) { s with heap:=h',toks:=tk })
 (gg:Nat->(Nat->Bool)->Bool) (L:gg ts.length (fun i=>ts.getD i false)=g ts) :
 Hd (model X.prog X.w) X.A.in1 (Pg u) (fun it s₂ => ∃ I fp wr n P St tr,it = .ref I/\Walks X.prog X.w X.A.in1 I fp wr n P St/\St 0 s₂.heap/\TruthOf X.prog X.w X.A.in1 P tr /\
  ∀ h' tk,(∀ b o,b∉wr->s₂.heap.get? b=some o->h'.get? b=some o)->Q (.bool (gg n tr)) { s₂ with heap:=h',toks:=tk }) X.xe s:=by
 obtain ⟨p,vs,rfl,sq,O⟩:=uJ rm rd e1
 cases ru
 obtain ⟨lt,get⟩:=oj e2;have lv:=O.length;have tr:∀ (its:List h7),Vals vs its->TruthOf X.prog X.w X.A.in1 (fun i w=>its.toArray[i]? = some w) (fun i=>ts.getD i false):=by
  intro its rv i w s' Q' E' U B;have q:its[i]? = some w:=by simpa using U
  have li:=rv.length;have hi:i < its.length:=(Ho.mp q).1;obtain ⟨d,hd⟩:∃ d,ds[i]? = some d:=⟨ds[i]'(by lia),D1 (by lia)⟩
  obtain ⟨v',F,rd'⟩:=O.get hd;obtain ⟨u',z,ru'⟩:=rv.get F;rw [q] at z;cases z;obtain ⟨b,Y,eb⟩:=get i d hd;have:ts.getD i false=b:=by rw [I0,Y];rfl
  have B:Q' (ts.getD i false) s':=B;rw [this] at B;exact Ax eb rd' ru' B
 rcases sq with sq | sq
 ·obtain ⟨its,rv,pl,Z⟩:=I.list sq;have li:=rv.length;have j:p < s.heap.objs.size:=by obtain ⟨o,n,e,_⟩:=pl;exact Hb e
  refine J4 pl.isList ⟨s.heap.objs.size,_,_,_,_,_,_,rfl,Walks.list (by rw [Pq];exact I.ok.hd J) s.heap.objs.size p (HQ j) its.toArray,⟨⟨_,GY _ rfl,rfl,rfl⟩,pl.isList.at fun o e=>q7 _ e⟩,tr its rv,fun h' tk k => ?_⟩
  have G:its.toArray.size=ts.length:=by rw [H9];lia
  rw [G,L];exact fin h' tk (I.kept (t':=tk) fun b o e=>k b o (by simp;exact HQ (Hb e)) (q7 _ e))
 ·obtain ⟨its,rv,pl,Z⟩:=I.tuple sq;have li:=rv.length;have j:p < s.heap.objs.size:=by obtain ⟨o,e,_⟩:=pl;exact Hb e
  have pt:s.heap.IsTuple p its.toArray:=pl;refine Iy pt ⟨s.heap.objs.size,_,_,_,_,_,_,rfl,Walks.tuple (by rw [Pq];exact I.ok.hd J) s.heap.objs.size p (HQ j) its.toArray,⟨⟨_,GY _ rfl,rfl,rfl⟩,pt.push _⟩,tr its rv,fun h' tk k => ?_⟩
  have G:its.toArray.size=ts.length:=by rw [H9];lia
  rw [G,L];exact fin h' tk (I.kept (t':=tk) fun b o e=>k b o (by simp;exact HQ (Hb e)) (q7 _ e))
theorem sJ (j:X.calm=true):CallR X (.builtin "all") (lR X.K sH):=by
 intro pins s σ H xs us Q I rv h;obtain ⟨ds,M,rm,rs,x,es,ts,rfl,e1,e2,q⟩:=h;obtain ⟨v,rfl,r⟩:=rs.one;obtain ⟨u,rfl,ru⟩:=eA rv;exact call_all_walk (xX j I rm r ru e1 e2 (g:=fun ts=>ts.all id) (fun h' tk I'=>⟨.bl _,H,I',rfl,q _ H Ext.refl rm (Rm.mpr rfl)⟩) (fun n tr=>(Hi n).all tr) range_all.1)
noncomputable def jy (t:Bool):TEd:=fun _ M Q => ∀ p,M p=none->Q (.ref p) (ag M p (.dct t []))
theorem vd {t:Bool}:ab (jy t):=fun _ _ _ _ i q p n=>i _ _ (q p n)
theorem Ay {t:Bool} {pos:Pos}:PE X (.Dict [] [] pos) (lE X.K (jy t)):=by
 cases t with
 | false =>
   refine PE.imp xh fun σ H Q ⟨ρ,M,rs,rm,q⟩ p n => ?_;exact q p (rm.out n) (.ref p) _ (Ext.lay n) (rm.lay n ⟨[],aw, .nil⟩) (Rk.mpr rfl)
 | true =>
   refine PE.imp xi fun σ H Q ⟨ρ,M,rs,rm,q⟩ p n => ?_;exact q p (rm.out n) (.ref p) _ (Ext.lay n) (rm.lay n ⟨[],aw, .nil⟩) (Rk.mpr rfl)
theorem xY {op op':P5} {r r':R2d} {a b c:Expr} {ta tb tc:TEd} {pos:Pos} (ho:OpR X (Il op) (l2 X.K r)) (j:OpR X (Il op') (l2 X.K r')) (z:ar r) (q:ar r') (ma:ab ta) (mb:ab tb) (mc:ab tc) (B:PE X a (lE X.K ta)) (F:PE X b (lE X.K tb)) (G:PE X c (lE X.K tc)) (hm:ND [op,op'] [b,c]=false) :
 PE X (.Compare a [op,op'] [b,c] pos) (lE X.K (cU r r' ta tb tc)):=PE.imp (wN ho j B F G hm) (jx z q ma mb mc)
theorem xZ {op op':P5} {r r':R2d} {a b c:Expr} {ta tb tc:TEd} {pos:Pos} (ho:OpR X (Il op) (l2 X.K r)) (q:OpR X (Il op') (l2 X.K r')) (z:ar r) (j:ar r') (ma:ab ta) (mb:ab tb) (mc:ab tc) (B:PE X a (lE X.K ta)) (F:PE X b (lE X.K tb)) (G:PE X c (lE X.K tc)) (hm:ND [op,op'] [b,c]=false) :
 PT X (.Compare a [op,op'] [b,c] pos) (lT X.K (fx (cU r r' ta tb tc))):=PT.imp (wP ho q B F G hm) fun σ H Q h=>jx z j ma mb mc σ H _ (no (fI z j ma mb mc) σ H Q h)
end
end
end Mi
end
end L2
namespace L2
namespace Srt
open PySem PySem.Spec PyProof.Rows
structure Cm (prog:Hu) (w:HW) (A:Ib) (s:D0) (kd:Lb) (P:H8->Prop) (lt:H8->H8->Bool):Prop where
 asym:∀ x y,lt x y=true->lt y x=false
 neg:∀ x y z,lt x z=true->lt x y=true∨lt y z=true
 run:∀ (x y:H8) (E:h7->D0->Prop) (Q:Bool->D0->Prop),P x->P y->Q (lt x y) s->Hd (Hl prog w) A (keyLt' kd x.1 y.1) Q E s
section
variable {prog:Hu} {w:HW} {A:Ib} {E:h7->D0->Prop} {s:D0} {kd:Lb} {P:H8->Prop} {lt:H8->H8->Bool}
theorem aa {σ α:Type} {M:LO} {x : α} {st : σ} {Q : α -> σ -> Prop} (q:Q x st):wpS M A E s (pure x) Q st :=
 fun _ _ _=>⟨rfl,q⟩
theorem cJ {σ:Type} {M:LO} {tag:String} {st : σ} {Q:Unit -> σ -> Prop} (q:Q () st):wpS M A E s (liftM (PySem.rule tag)) Q st :=
 wpS_lift (IG ⟨rfl,q⟩)
theorem Az {σ:Type} {M:LO} {st st' : σ} {Q:PUnit -> σ -> Prop} (q:Q PUnit.unit st'):wpS M A E s (set st') Q st :=
 fun _ _ _=>⟨rfl,q⟩
theorem jz (c:Cm prog w A s kd P lt) {x y:H8} {st:Ih} {Q:Option Bool->Ih->Prop} (j:IK st=kd) (hx:P x) (z:P y) (q:Q (some (lt x y)) st):wpS (Hl prog w) A E s (lt' x y) Q st:=by
 rw [lt'_eq];refine GZ (Lf ?_);refine GZ (wpS_lift ?_);rw [j];intro Γ p hp;rw [Sem.wp_attempt];exact c.run x y (fun e s'=>s'=s/\wpS (Hl prog w) A E s (do modify fun s=>Mc (IK s) (HV s) (Hk s) (gallopOf s) (some e);pure none) Q st) (fun b s'=>s'=s/\wpS (Hl prog w) A E s (pure (some b)) Q st) hx z ⟨rfl,aa q⟩ Γ p hp
theorem aB {arr:Array H8} {i:Nat} {x:H8} {st:Ih} {Q:H8->Ih->Prop} (h:arr[i]? = some x) (q:Q x st):wpS (Hl prog w) A E s (elem' arr i) Q st:=by
 rw [elem'_eq,h];exact aa q
theorem Cm.le_trans (c:Cm prog w A s kd P lt) {x y z:H8} (h:lt y x=false) (h2:lt z y=false):lt z x=false:=by
 cases e:lt z x with
 | false=>rfl
 | true=>rcases c.neg z y x e with q | q <;> simp_all
theorem Cm.irr (c:Cm prog w A s kd P lt) {x:H8}:lt x x=false:=by
 cases e:lt x x with
 | false=>rfl
 | true=>have:=c.asym x x e;rw [e] at this;exact this
theorem aC {σ α:Type} {M:LO} {m:StateT σ Sem α} {st : σ} {Q Q' : α -> σ -> Prop} (h:wpS M A E s m Q st) (q:∀ a st',Q a st'->Q' a st'):wpS M A E s m Q' st :=
 Jf h (fun a s' z=>⟨z.1,q _ _ z.2⟩) fun _ _ z=>z
end
noncomputable abbrev Cz:=Bool->H8->Array H8->Nat->Nat->Nat->StateT Ih Sem (Option Nat)
noncomputable abbrev CA:=Array H8->Array H8->StateT Ih Sem (Array H8)
noncomputable def bey (lt:H8->H8->Bool) (left:Bool) (key x:H8):Bool:=if left=true then lt x key else !(lt key x)
structure Same (st st':Ih):Prop where
 arr:HV st'=HV st
 kind:IK st'=IK st
 pend:Hk st'=Hk st
 fail:JC st'=JC st
def gR (prog:Hu) (w:HW) (A:Ib) (E:h7->D0->Prop) (s:D0) (kd:Lb) (P:H8->Prop) (lt:H8->H8->Bool) (g:Cz):Prop :=
 ∀ (left:Bool) (key:H8) (arr:Array H8) (L xs R:List H8) (base n hint:Nat) (st:Ih) (Q:Option Nat->Ih->Prop),IK st=kd->P key->arr.toList=L++xs++R->base=L.length->n=xs.length->(∀ x∈xs,P x)->hint < n ->
  xs.Pairwise (fun x y=>lt y x=false) ->
  (∀ X Y,xs=X++Y->(∀ x∈X,bey lt left key x=true)->(∀ x∈Y,bey lt left key x=false)->Q (some X.length) st) ->
  wpS (Hl prog w) A E s (g left key arr base n hint) Q st
def gS (prog:Hu) (w:HW) (A:Ib) (E:h7->D0->Prop) (s:D0) (kd:Lb) (P:H8->Prop) (lt:H8->H8->Bool) (m:CA):Prop :=
 ∀ (a b:Array H8) (st:Ih) (Q:Array H8->Ih->Prop),IK st=kd->(∀ x∈a.toList,P x)->(∀ x∈b.toList,P x)->0 < a.size->0 < b.size ->
  a.toList.Pairwise (fun x y=>lt y x=false)->b.toList.Pairwise (fun x y=>lt y x=false)->(∀ x y,a[0]? = some x->b[0]? = some y->lt x y=false)->(∀ x y,a[a.size - 1]? = some x->b[b.size - 1]? = some y->lt x y=false) ->
  (∀ r st',r.toList.Perm (a.toList++b.toList)->r.toList.Pairwise (fun x y=>lt y x=false)->Same st st'->Q r st') ->
  wpS (Hl prog w) A E s (m a b) Q st
section
variable {prog:Hu} {w:HW} {A:Ib} {E:h7->D0->Prop} {s:D0} {kd:Lb} {P:H8->Prop} {lt:H8->H8->Bool}
theorem gk (c:Cm prog w A s kd P lt) {left:Bool} {key x:H8} {arr:Array H8} {j:Nat} {st:Ih} {Q:Option Bool->Ih->Prop} (z:IK st=kd) (hx:P key) (B:P x) (e:arr[j]? = some x) (q:Q (some (bey lt left key x)) st) :
 wpS (Hl prog w) A E s (do
  let x <- elem' arr j
  if left=true then lt' x key else do
   let r <- lt' key x
   pure (Option.map (fun x => !x) r)) Q st:=by
 refine GZ (aB e ?_)
 cases left with
 | true=>exact jz c z B hx q
 | false=>exact GZ (jz c z hx B (aa q))
theorem ot (c:Cm prog w A s kd P lt) {left:Bool} {key x y:H8} (h:lt y x=false) (j:bey lt left key y=true):bey lt left key x=true:=by
 unfold bey at j ⊢
 cases left with
 | true =>
   rw [if_pos rfl] at j ⊢
   rcases c.neg y x key j with q | q
   ·rw [h] at q;cases q
   ·exact q
 | false =>
   simp at j ⊢
   cases e:lt key x with
   | false=>rfl
   | true =>
     rcases c.neg key y x e with q | q
     ·rw [j] at q;cases q
     ·rw [h] at q;cases q
structure Gal (lt:H8->H8->Bool) (left:Bool) (key:H8) (xs:List H8) (lo hi:Nat):Prop where
 le:lo<=hi
 len:hi<=xs.length
 up:∀ i x,i < lo->xs[i]? = some x->bey lt left key x=true
 dn:∀ i x,hi<=i->xs[i]? = some x->bey lt left key x=false
theorem eV {xs:List H8} {R:H8->H8->Prop} (h:xs.Pairwise R) {i j:Nat} {x y:H8} (q:i < j) (hx:xs[i]? = some x) (z:xs[j]? = some y):R x y:=by
 obtain ⟨h1,e1⟩:=Ho.mp hx;obtain ⟨h2,e2⟩:=Ho.mp z;rw [<- e1, <- e2];exact List.pairwise_iff_getElem.mp h i j h1 h2 q
theorem gT (c:Cm prog w A s kd P lt) {left:Bool} {key:H8} {xs:List H8} (h:xs.Pairwise (fun x y=>lt y x=false)) {j:Nat} {y:H8} (q:xs[j]? = some y) (z:bey lt left key y=true):∀ i x,i < j+1->xs[i]? = some x->bey lt left key x=true:=by
 intro i x hi hx
 by_cases e:i=j
 ·subst e;rw [hx] at q;cases q;exact z
 ·exact ot c (eV h (by lia) hx q) z
theorem gU (c:Cm prog w A s kd P lt) {left:Bool} {key:H8} {xs:List H8} (h:xs.Pairwise (fun x y=>lt y x=false)) {j:Nat} {y:H8} (z:xs[j]? = some y) (B:bey lt left key y=false):∀ i x,j<=i->xs[i]? = some x->bey lt left key x=false:=by
 intro i x hi hx
 by_cases e:i=j
 ·subst e;rw [hx] at z;cases z;exact B
 ·cases q:bey lt left key x with
  | false=>rfl
  | true=>have:=ot c (eV h (by lia) z hx) q;rw [B] at this;cases this
theorem Gal.out {left:Bool} {key:H8} {xs:List H8} {k:Nat} (g:Gal lt left key xs k k):∃ X Y,xs=X++Y/\X.length=k/\(∀ x∈X,bey lt left key x=true)/\(∀ x∈Y,bey lt left key x=false):=by
 refine ⟨xs.take k,xs.drop k,(IS k xs).symm,by rw [Hq];exact Lg g.len,fun x hx => ?_,fun x hx => ?_⟩
 ·obtain ⟨i,hi,e⟩:=Jq.mp hx;rw [Hq] at hi;exact g.up i x (by lia) (by rw [List.getElem_take] at e;rw [<- e];exact D1 _)
 ·obtain ⟨i,hi,e⟩:=Jq.mp hx;rw [J0] at hi;refine g.dn (k+i) x (by lia) ?_
  rw [List.getElem_drop] at e;rw [<- e];exact D1 _
noncomputable abbrev Ord (lt:H8->H8->Bool) (l:List H8):Prop:=l.Pairwise fun x y=>lt y x=false
theorem ou {out X A' B:List H8} (h1:Ord lt (out++(X++A'))) (h2:Ord lt (out++B)) (h:∀ x∈X, ∀ y∈B,lt y x=false):Ord lt ((out++X)++A')/\Ord lt ((out++X)++B):=by
 refine ⟨by rw [He];exact h1, ?_⟩
 rw [He];obtain ⟨j,q,F⟩:=GW.mp h1;obtain ⟨p1,p2,G⟩:=GW.mp h2;obtain ⟨J,O,U⟩:=GW.mp q;refine GW.mpr ⟨j,GW.mpr ⟨J,p2,h⟩,fun x hx y L => ?_⟩
 rcases Hj.mp L with z | z
 ·exact F x hx y (Im _ z)
 ·exact G x hx y z
structure ML (lt:H8->H8->Bool) (la lb out:List H8) (ia ib:Nat):Prop where
 pa:Ord lt (out++la.drop ia)
 pb:Ord lt (out++lb.drop ib)
 pm:(out++(la.drop ia++lb.drop ib)).Perm (la++lb)
theorem qF (c:Cm prog w A s kd P lt) {l:List H8} {i:Nat} {x y:H8} (h:Ord lt (l.drop i)) (j:l[i]? = some y) (hx:lt y x=false):∀ z∈l.drop i,lt z x=false:=by
 obtain ⟨hi,e⟩:=Ho.mp j;rw [Iw hi,e] at h ⊢;intro z B
 rcases Ha.mp B with q | q
 ·rw [q];exact hx
 ·exact c.le_trans hx ((N4.mp h).1 z q)
theorem dR {l X Y:List H8} {i:Nat} (e:l.drop i=X++Y):l.drop (i+X.length)=Y:=by
 rw [<- N5,e,List.drop_left]
theorem ML.galA (c:Cm prog w A s kd P lt) {la lb out X Y:List H8} {ia ib:Nat} {y:H8} (m:ML lt la lb out ia ib) (e:la.drop ia=X++Y) (j:lb[ib]? = some y) (h:∀ x∈X,lt y x=false):ML lt la lb (out++X) (ia+X.length) ib:=by
 have p2:=(GW.mp m.pb).2.1;have q:=ou (X:=X) (A':=Y) (by rw [<- e];exact m.pa) m.pb fun x hx=>qF c p2 j (h x hx)
 refine ⟨by rw [dR e];exact q.1,q.2, ?_⟩
 rw [dR e];refine JN.trans (Kq ?_) m.pm;rw [e];simp
theorem ML.galB (c:Cm prog w A s kd P lt) {la lb out X Y:List H8} {ia ib:Nat} {y:H8} (m:ML lt la lb out ia ib) (e:lb.drop ib=X++Y) (j:la[ia]? = some y) (h:∀ x∈X,lt y x=false):ML lt la lb (out++X) ia (ib+X.length):=by
 have p2:=(GW.mp m.pa).2.1;have q:=ou (X:=X) (A':=Y) (by rw [<- e];exact m.pb) m.pa fun x hx=>qF c p2 j (h x hx)
 refine ⟨q.2,by rw [dR e];exact q.1, ?_⟩
 rw [dR e];refine JN.trans ?_ m.pm;rw [e,He];refine Ie _ ?_;rw [<- He, <- He];exact Iq _ Kv
theorem dS {l:List H8} {i:Nat} {x:H8} (h:l[i]? = some x):l.drop i=[x]++l.drop (i+1):=by
 obtain ⟨hi,e⟩:=Ho.mp h;rw [Iw hi,e];rfl
theorem ML.pushA (c:Cm prog w A s kd P lt) {la lb out:List H8} {ia ib:Nat} {x y:H8} (m:ML lt la lb out ia ib) (hx:la[ia]? = some x) (j:lb[ib]? = some y) (h:lt y x=false):ML lt la lb (out++[x]) (ia+1) ib :=
 m.galA c (dS hx) j (by simpa using h)
theorem ML.pushB (c:Cm prog w A s kd P lt) {la lb out:List H8} {ia ib:Nat} {x y:H8} (m:ML lt la lb out ia ib) (hx:la[ia]? = some x) (j:lb[ib]? = some y) (h:lt x y=false):ML lt la lb (out++[y]) ia (ib+1) :=
 m.galB c (dS j) hx (by simpa using h)
def Res (lt:H8->H8->Bool) (la lb r:List H8):Prop:=r.Perm (la++lb)/\Ord lt r
theorem ML.fin {la lb out:List H8} {ia ib:Nat} (m:ML lt la lb out ia ib) (h:lb.length<=ib):Res lt la lb (out++la.drop ia++lb.drop ib):=by
 rw [JG h,Ja];refine ⟨?_,m.pa⟩;have:=m.pm;rw [JG h,Ja] at this;exact this
theorem ML.finE {la lb out:List H8} {ia ib:Nat} (m:ML lt la lb out ia ib) (h:la.length<=ia):Res lt la lb (out++la.drop ia++lb.drop ib):=by
 rw [JG h,Ja];refine ⟨?_,m.pb⟩;have:=m.pm;rw [JG h,Le] at this;exact this
theorem ML.finA {la lb out:List H8} {ia ib:Nat} (m:ML lt la lb out ia ib) (h:∀ x∈lb, ∀ y∈la.drop ia,lt y x=false):Res lt la lb (out++lb.drop ib++la.drop ia):=by
 refine ⟨?_, ?_⟩
 ·refine JN.trans ?_ m.pm;rw [He];exact Ie _ Kv
 ·obtain ⟨F,q,B⟩:=GW.mp m.pa;refine GW.mpr ⟨m.pb,q,fun x hx y j => ?_⟩
  rcases Hj.mp hx with z | z
  ·exact B x z y j
  ·exact h x (JU z) y j
theorem ML.size {la lb out:List H8} {ia ib:Nat} (m:ML lt la lb out ia ib) (j:ia<=la.length) (q:ib<=lb.length):out.length=ia+ib:=by
 have:=m.pm.length_eq;simp only [GR,J0] at this;lia
theorem aA {a:Array H8} {i:Nat} (h:i < a.size):∃ x,a[i]? = some x/\a.toList[i]? = some x/\x∈a.toList:=by
 refine ⟨a[i],HM h, ?_,Array.getElem_mem_toList h⟩;rw [Hx];exact HM h
theorem bF {a:Array H8} {i:Nat}:(a.extract i).toList=a.toList.drop i:=by
 rw [Jr];simp only [LG];exact Kj (by simp)
theorem AA {a:Array H8} {i:Nat} {X Y:List H8} (e:a.toList.drop i=X++Y):(a.extract i (i+X.length)).toList=X:=by
 rw [Jr];simp [LG,e]
theorem Same.refl {st:Ih}:Same st st:=⟨rfl,rfl,rfl,rfl⟩
theorem Same.trans {a b c:Ih} (h:Same a b) (g:Same b c):Same a c:=⟨g.arr.trans h.arr,g.kind.trans h.kind,g.pend.trans h.pend,g.fail.trans h.fail⟩
theorem lH {O Y A' B:List H8} (h1:Ord lt (A'++(Y++O))) (h2:Ord lt (B++O)) (h:∀ y∈Y, ∀ x∈B,lt y x=false):Ord lt (B++(Y++O)):=by
 obtain ⟨G,j,J⟩:=GW.mp h1;obtain ⟨p1,p2,q⟩:=GW.mp h2;refine GW.mpr ⟨p1,j,fun x hx y F => ?_⟩
 rcases Hj.mp F with z | z
 ·exact h y z x hx
 ·exact q x hx y z
structure MH (lt:H8->H8->Bool) (la lb out:List H8) (na nb:Nat):Prop where
 pa:Ord lt (la.take na++out.reverse)
 pb:Ord lt (lb.take nb++out.reverse)
 pm:(la.take na++lb.take nb++out.reverse).Perm (la++lb)
theorem gW (c:Cm prog w A s kd P lt) {l:List H8} {n:Nat} {x y:H8} (h:Ord lt (l.take n)) (G : 0 < n) (B:l[n - 1]? = some y) (hx:lt x y=false):∀ z∈l.take n,lt x z=false:=by
 intro z F;obtain ⟨i,hi,e⟩:=Jq.mp F;have j:(l.take n)[i]? = some z:=by rw [<- e];exact D1 hi
 have q:(l.take n)[n - 1]? = some y:=by rw [L9 (by lia)];exact B
 rw [Hq] at hi
 by_cases hin:i=n - 1
 ·subst hin;rw [q] at j;cases j;exact hx
 ·exact c.le_trans (eV h (by lia) j q) hx
theorem dU {l X Y:List H8} {n:Nat} (e:l.take n=X++Y):l.take X.length=X:=by
 have h:X.length<=n:=by
  have:=congrArg KJ e;simp only [Hq,GR] at this;lia
 have h2:(l.take n).take X.length=X:=by rw [e,List.take_left]
 rw [List.take_take,Lg h] at h2;exact h2
theorem MH.galA (c:Cm prog w A s kd P lt) {la lb out X Y:List H8} {na nb:Nat} {y:H8} (m:MH lt la lb out na nb) (e:la.take na=X++Y) (j : 0 < nb) (z:lb[nb - 1]? = some y) (h:∀ x∈Y,lt x y=false):MH lt la lb (out++Y.reverse) X.length nb:=by
 have p2:=(GW.mp m.pb).1;have h1:Ord lt (X++(Y++out.reverse)):=by rw [<- He, <- e];exact m.pa
 have q:=lH h1 m.pb fun x hx=>gW c p2 j z (h x hx);refine ⟨by rw [dU e];simpa using h1,by simpa using q, ?_⟩
 rw [dU e];refine JN.trans ?_ m.pm;rw [e];simp only [List.reverse_append,OG,He];refine Ie _ ?_;rw [<- He, <- He];exact Iq _ Kv
theorem MH.galB (c:Cm prog w A s kd P lt) {la lb out X Y:List H8} {na nb:Nat} {y:H8} (m:MH lt la lb out na nb) (e:lb.take nb=X++Y) (j : 0 < na) (z:la[na - 1]? = some y) (h:∀ x∈Y,lt x y=false):MH lt la lb (out++Y.reverse) na X.length:=by
 have p2:=(GW.mp m.pa).1;have h1:Ord lt (X++(Y++out.reverse)):=by rw [<- He, <- e];exact m.pb
 have q:=lH h1 m.pa fun x hx=>gW c p2 j z (h x hx);refine ⟨by simpa using q,by rw [dU e];simpa using h1, ?_⟩
 rw [dU e];refine JN.trans (Kq ?_) m.pm;rw [e];simp
theorem cK {l:List H8} {n:Nat} {x:H8} (j : 0 < n) (h:l[n - 1]? = some x):l.take n=l.take (n - 1)++[x]:=by
 obtain ⟨k,rfl⟩:∃ k,n=k+1:=⟨n - 1,by lia⟩
 rw [Pt] at h ⊢;rw [PX,h];rfl
theorem qG {l:List H8} {n:Nat} {x:H8} (j : 0 < n) (h:l[n - 1]? = some x):(l.take (n - 1)).length=n - 1:=by
 obtain ⟨hi,_⟩:=Ho.mp h;rw [Hq];lia
theorem MH.pushA (c:Cm prog w A s kd P lt) {la lb out:List H8} {na nb:Nat} {x y:H8} (m:MH lt la lb out na nb) (j : 0 < na) (z : 0 < nb) (hx:la[na - 1]? = some x) (B:lb[nb - 1]? = some y) (h:lt x y=false):MH lt la lb (out++[x]) (na - 1) nb:=by
 have q:=m.galA c (cK j hx) z B (by simpa using h)
 rw [qG j hx] at q;simpa using q
theorem MH.pushB (c:Cm prog w A s kd P lt) {la lb out:List H8} {na nb:Nat} {x y:H8} (m:MH lt la lb out na nb) (B : 0 < na) (j : 0 < nb) (hx:la[na - 1]? = some x) (z:lb[nb - 1]? = some y) (h:lt y x=false):MH lt la lb (out++[y]) na (nb - 1):=by
 have q:=m.galB c (cK j z) B hx (by simpa using h)
 rw [qG j z] at q;simpa using q
theorem MH.fin {la lb out:List H8} {na nb:Nat} (m:MH lt la lb out na nb) (h:na=0∨nb=0):Res lt la lb (la.take na++lb.take nb++out.reverse):=by
 refine ⟨m.pm, ?_⟩
 rcases h with rfl | rfl
 ·simpa using m.pb
 ·simpa using m.pa
theorem MH.finB {la lb out:List H8} {na nb:Nat} (m:MH lt la lb out na nb) (h:∀ x∈lb.take nb, ∀ y∈la,lt y x=false):Res lt la lb (lb.take nb++la.take na++out.reverse):=by
 refine ⟨JN.trans (Iq _ Kv) m.pm, ?_⟩;obtain ⟨j,F,q⟩:=GW.mp m.pb;rw [He];refine GW.mpr ⟨j,m.pa,fun x hx y B => ?_⟩
 rcases Hj.mp B with z | z
 ·exact h x hx y (JV z)
 ·exact q x hx y z
theorem MH.size {la lb out:List H8} {na nb:Nat} (m:MH lt la lb out na nb) (j:na<=la.length) (q:nb<=lb.length):out.length+na+nb=la.length+lb.length:=by
 have:=m.pm.length_eq;simp only [GR,Hq,My] at this;lia
theorem eE {a:Array H8}:a.toList.take a.size=a.toList:=Kj (by simp)
theorem b9 {a:Array H8} {i:Nat}:(a.extract 0 i).toList=a.toList.take i:=by
 rw [Jr];simp [LG]
theorem y4 {a:Array H8} {n:Nat} {X Y:List H8} (e:a.toList.take n=X++Y):(a.extract X.length n).toList=Y:=by
 rw [Jr];simp only [LG];rw [<- List.drop_take,e,List.drop_left]
theorem y7:∀ (m old L R:List H8) (a:Array H8),a.toList=L++old++R->m.length=old.length->(LU (fun a x=>a.setIfInBounds (L.length+x.snd) x.fst) a m.zipIdx).toList=L++m++R:=by
 have g:∀ (m old L R:List H8) (k:Nat) (a:Array H8),a.toList=L++old++R->m.length=old.length -> ∀ b:Nat,b+k=L.length->(LU (fun a x=>a.setIfInBounds (b+x.snd) x.fst) a (m.zipIdx k)).toList=L++m++R:=by
  intro m
  induction m with
  | nil =>
    intro old L R k a e h b j;have:old=[]:=HU.mp h.symm;subst this;simpa using e
  | cons x m ih =>
    intro old L R k a e h b j
    cases old with
    | nil=>simp at h
    | cons y old =>
      rw [KR,Ld];have e2:(a.setIfInBounds (b+k) x).toList=(L++[x])++old++R:=by
       rw [N6,e,j];simp
      have:=ih old (L++[x]) R (k+1) _ e2 (by simpa using h) b (by simp;lia)
      rw [this];simp
 exact fun m old L R a e h=>g m old L R 0 a e h L.length (by lia)
theorem ae {σ α:Type} {M:LO} {p:Prop} [Decidable p] {j q:StateT σ Sem α} {st : σ} {Q : α -> σ -> Prop} (h1:p->wpS M A E s j Q st) (h2 : ¬p->wpS M A E s q Q st):wpS M A E s (if p then j else q) Q st:=by
 split
 ·next h=>exact h1 h
 ·next h=>exact h2 h
theorem ML.cut {a out:Array H8} {la lb X Y:List H8} {i j n:Nat} (m:ML lt la lb (out.toList++X) i j) (e:a.toList.drop n=X++Y):ML lt la lb (out++a.extract n (n+X.length)).toList i j:=by
 rw [Hf,AA e];exact m
theorem MH.cut {a out:Array H8} {la lb X Y:List H8} {i j n:Nat} (m:MH lt la lb (out.toList++Y.reverse) i j) (e:a.toList.take n=X++Y):MH lt la lb (out++(a.extract X.length n).reverse).toList i j:=by
 rw [Hf,HS,y4 e];exact m
theorem ve {σ α:Type} {M:LO} {m:StateT σ Sem α} {st : σ} {Q : α -> σ -> Prop} {P : σ -> Prop} (j:P st) (h:∀ st',P st'->wpS M A E s m Q st'):wpS M A E s m Q st:=h st j
theorem zg {σ α:Type} {M:LO} {m:StateT σ Sem α} {st : σ} {Q : α -> σ -> Prop} (h:∀ Q' : α -> σ -> Prop,(∀ a st',Q a st'->Q' a st')->wpS M A E s m Q' st):wpS M A E s m Q st:=h Q fun _ _ h=>h
theorem zh {key x:H8} (h:bey lt false key x=true):lt key x=false:=by simpa [bey] using h
theorem vf {key x:H8} (h:bey lt false key x=false):lt key x=true:=by simpa [bey] using h
theorem zi {key x:H8} (h:bey lt true key x=true):lt x key=true:=by simpa [bey] using h
theorem vg {key x:H8} (h:bey lt true key x=false):lt x key=false:=by simpa [bey] using h
theorem ow {l X Y:List H8} {i:Nat} {x:H8} (e:l.drop i=X++Y) (h:l[i+X.length]? = some x):x∈Y:=by
 rw [<- dR e,dS h];simp
theorem ox {l X Y:List H8} {n:Nat} {x:H8} (e:l.take n=X++Y) (h0 : 0 < X.length) (h:l[X.length - 1]? = some x):x∈X:=by
 have:=cK h0 h;rw [dU e] at this;rw [this];simp
theorem oA {a:Array H8} {X Y:List H8} {i:Nat} (e:a.toList.drop i=X++Y):X.length<=a.size - i:=by
 have:=congrArg KJ e;simp at this;lia
theorem lJ {a:Array H8} {X Y:List H8} {n:Nat} (e:a.toList.take n=X++Y) (h:n<=a.size):X.length+Y.length=n:=by
 have:=congrArg KJ e;simp at this;lia
theorem fJ {a:Array H8} {n:Nat} (h:n<=a.size):n=(a.toList.take n).length:=by simp;lia
theorem ML.finR {a b out:Array H8} {ia ib:Nat} (m:ML lt a.toList b.toList out.toList ia ib) (h:b.size<=ib):Res lt a.toList b.toList (out++a.extract ia++b.extract ib).toList:=by
 have:=m.fin (by simpa using h)
 simpa only [Hf,bF] using this
theorem ML.finS {a b out:Array H8} {ia ib:Nat} (m:ML lt a.toList b.toList out.toList ia ib) (h:a.size<=ia):Res lt a.toList b.toList (out++a.extract ia++b.extract ib).toList:=by
 have:=m.finE (by simpa using h)
 simpa only [Hf,bF] using this
theorem ML.finL {a b out:Array H8} {ia ib:Nat} (m:ML lt a.toList b.toList out.toList ia ib) (h:∀ x∈b.toList, ∀ y∈a.toList.drop ia,lt y x=false):Res lt a.toList b.toList (out++b.extract ib++a.extract ia).toList:=by
 have:=m.finA h;simpa only [Hf,bF] using this
theorem MH.finR {a b out:Array H8} {na nb:Nat} (m:MH lt a.toList b.toList out.toList na nb) (h:∀ x∈b.toList.take nb, ∀ y∈a.toList,lt y x=false):Res lt a.toList b.toList (b.extract 0 nb++a.extract 0 na++out.reverse).toList:=by
 have:=m.finB h;simpa only [Hf,HS,b9] using this
theorem MH.finL {a b out:Array H8} {na nb:Nat} (m:MH lt a.toList b.toList out.toList na nb) (h:na=0∨nb=0):Res lt a.toList b.toList (a.extract 0 na++b.extract 0 nb++out.reverse).toList:=by
 have:=m.fin h;simpa only [Hf,HS,b9] using this
theorem DQ (c:Cm prog w A s kd P lt) :
 ∃ (g:Cz) (lo hi:CA),(gR prog w A E s kd P lt g/\(gR prog w A E s kd P lt g->gS prog w A E s kd P lt lo)/\(gR prog w A E s kd P lt g->gS prog w A E s kd P lt hi))/\(gR prog w A E s kd P lt g->gS prog w A E s kd P lt lo->gS prog w A E s kd P lt hi ->
  ∀ (i sa na pa sb nb pb:Nat) (L r1 r2 R:List H8) (st:Ih) (Q:Bool->Ih->Prop),IK st=kd->JC st=none->(Hk st)[i]? = some (sa,na,pa)->(Hk st)[i+1]? = some (sb,nb,pb) ->
   (HV st).toList=L++(r1++r2)++R->sa=L.length->na=r1.length->sb=L.length+r1.length->nb=r2.length->r1≠[]->r2≠[]->(∀ x∈r1,P x)->(∀ x∈r2,P x)->Ord lt r1->Ord lt r2 ->
   (∀ m st',(HV st').toList=L++m++R->m.Perm (r1++r2)->Ord lt m->IK st'=kd->JC st'=none->Hk st'=((Hk st).setIfInBounds i (sa,na+nb,pa)).eraseIdxIfInBounds (i+1)->Q true st') ->
   wpS (Hl prog w) A E s (QZ i) Q st):=by
 apply PY;apply PY;apply PY;apply LV
 rotate_left
 ·intro hg Gz GA i sa na pa sb nb pb L r1 r2 R st Q hk hf h1 h2 Z G0 Fq G1 FG GB GC Ga Gb o1 o2 q;unfold QZ;refine GZ (Lf ?_);rw [h1,h2];dsimp only;refine GZ (Az ?_);obtain ⟨y0,t2,rfl⟩:∃ y t,r2=y::t:=by cases r2 with | nil=>exact absurd rfl GC | cons y t=>exact ⟨y,t,rfl⟩
  have hz:(HV st)[sb]? = some y0:=by
   rw [<- Hx,Z,G1];simp
  refine GZ (aB hz ?_);refine GZ (hg false y0 (HV st) L r1 (y0::t2++R) sa na 0 _ _ hk (Gb _ (by simp)) (by rw [Z];simp) G0 Fq Ga (by rw [Fq];exact Ik.mpr GB) o1 fun X Y e hX hY => ?_)
  dsimp only;have lX:∀ x∈X,lt y0 x=false:=fun x hx=>by have:=hX x hx;simpa [bey] using this
  have lY:∀ x∈Y,lt x y0=false:=fun x hx=>c.asym _ _ (by have:=hY x hx;simpa [bey] using this)
  have hlen:na - X.length=Y.length:=by rw [Fq,e];simp
  subst e;obtain ⟨oX,oY,oXY⟩:=GW.mp o1;have oy:=N4.mp o2;have G2:∀ x∈X, ∀ z∈y0::t2,lt z x=false:=fun x hx z hz=>by
   rcases Ha.mp hz with h | h
   ·rw [h];exact lX x hx
   ·exact c.le_trans (lX x hx) (oy.1 z h)
  refine ae (fun h => ?_) (fun h => ?_)
  ·have G3:Y=[]:=HU.mp (by rw [<- hlen];simpa using h)
   subst G3;refine aa (q (X++(y0::t2)) _ (by simpa using Z) (by simp) ?_ hk hf rfl)
   exact GW.mpr ⟨oX,o2,G2⟩
  ·have G3 : 0 < Y.length:=by
    have:na - X.length≠0:=by simpa using h
    lia
   obtain ⟨Y0,xl,rfl⟩:∃ Y0 xl,Y=Y0++[xl]:=⟨Y.dropLast,Y.getLast (by intro z;rw [z] at G3;simp at G3),(JB _).symm⟩
   have GD:(HV st)[sa+X.length+(na - X.length) - 1]? = some xl:=by
    rw [<- Hx,Z,hlen,G0];simp only [He,GR,HF];rw [GS (by lia),GS (by lia),GS (by lia)]
    rw [show L.length+X.length+(Y0.length+1) - 1 - L.length - X.length - Y0.length=0 by lia];rfl
   refine GZ (aB GD ?_);refine GZ (hg true xl (HV st) (L++(X++(Y0++[xl]))) (y0::t2) R sb nb (nb - 1) _ _ hk (Ga _ (by simp)) (by rw [Z];simp) (by rw [G1];simp) FG Gb (by rw [FG];simp) o2 fun X2 Y2 e2 Fr Fs => ?_)
   dsimp only;have GE:∀ x∈X2,lt xl x=false:=fun x hx=>c.asym _ _ (by have:=Fr x hx;simpa [bey] using this)
   have Gm:∀ x∈Y2,lt x xl=false:=fun x hx=>by have:=Fs x hx;simpa [bey] using this
   have GF:Ord lt (X2++Y2):=by rw [<- e2];exact o2
   obtain ⟨GG,GH,Gn⟩:=GW.mp GF;obtain ⟨GP,_,oYl⟩:=GW.mp oY;have lYY:∀ x∈Y0++[xl], ∀ z∈Y2,lt z x=false:=fun x hx z hz=>by
    rcases Hj.mp hx with h | h
    ·exact c.le_trans (oYl x h xl (by simp)) (Gm z hz)
    ·simp at h;subst h;exact Gm z hz
   refine ae (fun h => ?_) (fun h => ?_)
   ·have Fk:X2=[]:=HU.mp (by simpa using h)
    subst Fk;have e2:y0::t2=Y2:=by simpa using e2
    refine aa (q (X++(Y0++[xl])++(y0::t2)) _ (by simpa using Z) (OH _) ?_ hk hf rfl)
    refine GW.mpr ⟨o1,o2,fun x hx z hz => ?_⟩
    rcases Hj.mp hx with g | g
    ·exact G2 x g z hz
    ·exact lYY x g z (by rw [<- e2];exact hz)
   ·have Fk:X2≠[]:=fun z=>h (by rw [z];rfl)
    have hx:((HV st).extract (sa+X.length) sb).toList=Y0++[xl]:=by
     rw [Jr,Z,G0,G1];simp only [LG];have e1:(L++(X++(Y0++[xl])++y0::t2)++R).drop (L.length+X.length)=(Y0++[xl])++(y0::t2++R):=by
      rw [<- N5];simp
     rw [e1,show L.length+(X++(Y0++[xl])).length - (L.length+X.length)=(Y0++[xl]).length by simp only [GR];lia,List.take_left]
    have hy:((HV st).extract sb (sb+X2.length)).toList=X2:=by
     rw [Jr,Z,G1];simp only [LG];have e1:(L++(X++(Y0++[xl])++y0::t2)++R).drop (L.length+(X++(Y0++[xl])).length)=(y0::t2)++R:=by
      rw [<- N5];simp
     rw [e1,e2];simp
    have G:∀ (r:Array H8) (EM:Ih),r.toList.Perm ((Y0++[xl])++X2)->Ord lt r.toList->Same (PyProof.Rows.SortSt.mk' (IK st) (HV st) (((Hk st).setIfInBounds i (sa,na+nb,pa)).eraseIdxIfInBounds (i+1)) (gallopOf st) (JC st)) EM -> ∀ EJ:Ih,HV EJ=LU (fun a x=>a.setIfInBounds (sa+X.length+x.snd) x.fst) (HV EM) r.toList.zipIdx->IK EJ=IK EM->JC EJ=JC EM->Hk EJ=Hk EM->Q (JC EJ).isNone EJ:=by
     intro r EM hp ho hs EJ g1 g2 g3 g4;have Go:JC EJ=none:=g3.trans (hs.fail.trans hf);rw [Go];refine q (X++r.toList++Y2) EJ ?_ ?_ ?_ (g2.trans (hs.kind.trans hk)) Go (g4.trans hs.pend)
     ·rw [g1,hs.arr];have e3:(HV st).toList=(L++X)++((Y0++[xl])++X2)++(Y2++R):=by
       rw [Z,e2];simp
      rw [show sa+X.length=(L++X).length by rw [G0];simp]
      rw [y7 _ _ _ _ _ e3 (hp.length_eq)];simp
     ·rw [e2];refine JN.trans (Iq _ (Ie _ hp)) ?_;simp
     ·refine GW.mpr ⟨GW.mpr ⟨oX,ho,fun x hx z hz => ?_⟩,GH,fun x hx z hz => ?_⟩
      ·rcases Hj.mp (hp.mem_iff.mp hz) with g | g
       ·exact oXY x hx z g
       ·exact G2 x hx z (by rw [e2];exact Im _ g)
      ·rcases Hj.mp hx with g | g
       ·exact G2 x g z (by rw [e2];exact Hn _ hz)
       ·rcases Hj.mp (hp.mem_iff.mp g) with g | g
        ·exact lYY x g z hz
        ·exact Gn x g z hz
    have G8:∀ x y,((HV st).extract (sa+X.length) sb)[0]? = some x->((HV st).extract sb (sb+X2.length))[0]? = some y->lt x y=false:=by
     intro x y Fc FH;rw [<- Hx,hx] at Fc;rw [<- Hx,hy] at FH;have FI:=Hy Fc;have:y=y0:=by
      cases X2 with
      | nil=>exact absurd rfl Fk
      | cons z t=>simp at e2 FH;rw [<- FH, <- e2.1]
     subst this;exact lY x FI
    have preL:∀ x y,((HV st).extract (sa+X.length) sb)[((HV st).extract (sa+X.length) sb).size - 1]? = some x->((HV st).extract sb (sb+X2.length))[((HV st).extract sb (sb+X2.length)).size - 1]? = some y->lt x y=false:=by
     intro x y Fc FH;rw [<- Hx, <- Hw,hx] at Fc;rw [<- Hx, <- Hw,hy] at FH;have Fd:=Hy FH;have:x=xl:=by simp at Fc;exact Fc.symm
     subst this;exact GE y Fd
    have Gp : 0 < ((HV st).extract (sa+X.length) sb).size:=by rw [<- Hw,hx];simp
    have Gq : 0 < ((HV st).extract sb (sb+X2.length)).size:=by rw [<- Hw,hy];exact Ik.mpr Fk
    have Gr:∀ x∈((HV st).extract (sa+X.length) sb).toList,P x:=by rw [hx];exact fun x hx=>Ga x (Hn _ hx)
    have Gs:∀ x∈((HV st).extract sb (sb+X2.length)).toList,P x:=by rw [hy];exact fun x hx=>Gb x (by rw [e2];exact Im _ hx)
    have Gu:Ord lt ((HV st).extract (sa+X.length) sb).toList:=by rw [hx];exact oY
    have Gv:Ord lt ((HV st).extract sb (sb+X2.length)).toList:=by rw [hy];exact GG
    refine ae (fun h => ?_) (fun h => ?_)
    ·refine GZ (Gz _ _ _ _ hk Gr Gs Gp Gq Gu Gv G8 preL fun r EM hp ho hs => ?_);rw [hx,hy] at hp;refine GZ (Ji ?_);refine GZ (Lf ?_);exact aa (G r EM hp ho hs _ rfl rfl rfl rfl)
    ·refine GZ (GA _ _ _ _ hk Gr Gs Gp Gq Gu Gv G8 preL fun r EM hp ho hs => ?_);rw [hx,hy] at hp;refine GZ (Ji ?_);refine GZ (Lf ?_);exact aa (G r EM hp ho hs _ rfl rfl rfl rfl)
 apply LV
 ·intro left key arr L xs R base n hint st Q hk Fl Z Gc hn hP hh hs q;subst Gc hn;have at_:∀ i,i < xs.length -> ∃ x,xs[i]? = some x/\arr[L.length+i]? = some x/\P x:=by
   intro i hi;refine ⟨xs[i],D1 hi, ?_,hP _ (Md _)⟩;rw [<- Hx,Z,He,GS (by lia),Hg (by lia)]
   rw [show L.length+i - L.length=i by lia]
   exact D1 hi
  obtain ⟨x0,Fc,FJ,GI⟩:=at_ hint hh;refine GZ (gk c hk Fl GI FJ ?_)
  try dsimp only
  refine ae (fun hb => ?_) (fun hb => ?_)
  ·skip
   refine GZ (aC (Q:=fun r st'=>st'=st /\ ∃ la ofs,r=(none,la,ofs)/\hint+la < xs.length/\la < ofs/\(∀ j x,j < hint+la+1->xs[j]? = some x->bey lt left key x=true)/\(xs.length<=hint+ofs ∨ ∀ j x,hint+ofs<=j->xs[j]? = some x->bey lt left key x=false))
    (Ig (fun i r st'=>st'=st /\ ∃ la ofs,r=(none,la,ofs)/\hint+la < xs.length/\la < ofs/\i+1<=ofs/\(∀ j x,j < hint+la+1->xs[j]? = some x->bey lt left key x=true)) ?_ ?_ ⟨rfl,0,1,rfl,hh,by lia,by lia,gT c hs Fc hb⟩) ?_)
   ·rintro i r st' _ hi ⟨rfl,la,ofs,rfl,h1,h2,h3,h4⟩
    try dsimp only
    refine ae (fun Ft => ?_) (fun Ft => ?_)
    ·exact aa ⟨rfl,la,ofs,rfl,h1,h2,h4, .inl (by lia)⟩
    ·skip
     obtain ⟨x1,F7,Fu,Fv⟩:=at_ (hint+ofs) (by lia)
     refine GZ (gk c hk Fl Fv Fu ?_)
     try dsimp only
     refine ae (fun hf => ?_) (fun hf => ?_)
     ·exact aa ⟨rfl,la,ofs,rfl,h1,h2,h4, .inr (gU c hs F7 (by simpa using hf))⟩
     ·exact aa ⟨rfl,ofs,2*ofs+1,rfl,by lia,by lia,by lia,gT c hs F7 (by simpa using hf)⟩
   ·rintro r st' ⟨rfl,la,ofs,rfl,h1,h2,h3,h4⟩;exact ⟨rfl,la,ofs,rfl,h1,h2,h4, .inl (by lia)⟩
   ·rintro r st' ⟨rfl,la,ofs,rfl,h1,h2,h3,h4⟩
    try dsimp only
    have hG:Gal lt left key xs (hint+la+1) (hint+min ofs (xs.length - hint)):=by
     refine ⟨by lia,by lia,h3,fun i x hi hx => ?_⟩
     have GQ:i < xs.length:=(Ho.mp hx).1
     rcases h4 with h4 | h4
     ·lia
     ·exact h4 i x (by lia) hx
    generalize hint+la+1=lo at hG;generalize hint+min ofs (xs.length - hint)=hi at hG;refine GZ (aC (Q:=fun r st''=>st''=st' /\ ∃ k,r=(none,k,k)/\Gal lt left key xs k k)
     (Ig (fun i r st''=>st''=st' /\ ∃ lo hi,r=(none,lo,hi)/\Gal lt left key xs lo hi/\hi - lo+i<=xs.length) ?_ ?_ ⟨rfl,lo,hi,rfl,hG,by have:=hG.len;lia⟩) ?_)
    ·rintro i r st'' _ hi ⟨rfl,lo,hi,rfl,hG,hm⟩
     try dsimp only
     have hl:=hG.le;have FK:=hG.len;refine ae (fun Ft => ?_) (fun Ft => ?_)
     ·exact aa ⟨rfl,hi,by rw [show lo=hi by lia],by rw [show lo=hi by lia] at hG;exact hG⟩
     ·skip
      obtain ⟨x1,F7,Fu,Fv⟩:=at_ (lo+(hi - lo) / 2) (by lia)
      refine GZ (gk c hk Fl Fv Fu ?_)
      try dsimp only
      refine ae (fun hf => ?_) (fun hf => ?_)
      ·exact aa ⟨rfl,_,_,rfl,⟨by lia,FK,gT c hs F7 hf,hG.dn⟩,by lia⟩
      ·exact aa ⟨rfl,_,_,rfl,⟨by lia,by lia,hG.up,gU c hs F7 (by simpa using hf)⟩,by lia⟩
    ·rintro r st'' ⟨rfl,lo,hi,rfl,hG,hm⟩;have hl:=hG.le;exact ⟨rfl,hi,by rw [show lo=hi by lia],by rw [show lo=hi by lia] at hG;exact hG⟩
    ·rintro r st'' ⟨rfl,k,rfl,hG⟩;obtain ⟨X,Y,e,hl,hX,hY⟩:=hG.out;subst hl;exact aa (q X Y e hX hY)
  ·skip
   refine GZ (aC (Q:=fun r st'=>st'=st /\ ∃ la ofs,r=(none,la,ofs)/\la<=hint/\la < ofs/\(∀ j x,hint - la<=j->xs[j]? = some x->bey lt left key x=false)/\(hint < ofs ∨ ∀ j x,j < hint - ofs+1->xs[j]? = some x->bey lt left key x=true))
    (Ig (fun i r st'=>st'=st /\ ∃ la ofs,r=(none,la,ofs)/\la<=hint/\la < ofs/\i+1<=ofs/\(∀ j x,hint - la<=j->xs[j]? = some x->bey lt left key x=false)) ?_ ?_ ⟨rfl,0,1,rfl,by lia,by lia,by lia,gU c hs Fc (by simpa using hb)⟩) ?_)
   ·rintro i r st' _ hi ⟨rfl,la,ofs,rfl,h1,h2,h3,h4⟩
    try dsimp only
    refine ae (fun Ft => ?_) (fun Ft => ?_)
    ·exact aa ⟨rfl,la,ofs,rfl,h1,h2,h4, .inl (by lia)⟩
    ·skip
     obtain ⟨x1,F7,Fu,Fv⟩:=at_ (hint - ofs) (by lia)
     refine GZ (gk c hk Fl Fv Fu ?_)
     try dsimp only
     refine ae (fun hf => ?_) (fun hf => ?_)
     ·exact aa ⟨rfl,la,ofs,rfl,h1,h2,h4, .inr (gT c hs F7 hf)⟩
     ·exact aa ⟨rfl,ofs,2*ofs+1,rfl,by lia,by lia,by lia,gU c hs F7 (by simpa using hf)⟩
   ·rintro r st' ⟨rfl,la,ofs,rfl,h1,h2,h3,h4⟩;exact ⟨rfl,la,ofs,rfl,h1,h2,h4, .inl (by lia)⟩
   ·rintro r st' ⟨rfl,la,ofs,rfl,h1,h2,h3,h4⟩
    try dsimp only
    have hG:Gal lt left key xs (hint+1 - min ofs (hint+1)) (hint - la):=by
     refine ⟨by lia,by lia,fun i x hi hx => ?_,h3⟩
     rcases h4 with h4 | h4
     ·lia
     ·exact h4 i x (by lia) hx
    generalize hint+1 - min ofs (hint+1)=lo at hG;generalize hint - la=hi at hG;refine GZ (aC (Q:=fun r st''=>st''=st' /\ ∃ k,r=(none,k,k)/\Gal lt left key xs k k)
     (Ig (fun i r st''=>st''=st' /\ ∃ lo hi,r=(none,lo,hi)/\Gal lt left key xs lo hi/\hi - lo+i<=xs.length) ?_ ?_ ⟨rfl,lo,hi,rfl,hG,by have:=hG.len;lia⟩) ?_)
    ·rintro i r st'' _ hi ⟨rfl,lo,hi,rfl,hG,hm⟩
     try dsimp only
     have hl:=hG.le;have FK:=hG.len;refine ae (fun Ft => ?_) (fun Ft => ?_)
     ·exact aa ⟨rfl,hi,by rw [show lo=hi by lia],by rw [show lo=hi by lia] at hG;exact hG⟩
     ·skip
      obtain ⟨x1,F7,Fu,Fv⟩:=at_ (lo+(hi - lo) / 2) (by lia)
      refine GZ (gk c hk Fl Fv Fu ?_)
      try dsimp only
      refine ae (fun hf => ?_) (fun hf => ?_)
      ·exact aa ⟨rfl,_,_,rfl,⟨by lia,FK,gT c hs F7 hf,hG.dn⟩,by lia⟩
      ·exact aa ⟨rfl,_,_,rfl,⟨by lia,by lia,hG.up,gU c hs F7 (by simpa using hf)⟩,by lia⟩
    ·rintro r st'' ⟨rfl,lo,hi,rfl,hG,hm⟩;have hl:=hG.le;exact ⟨rfl,hi,by rw [show lo=hi by lia],by rw [show lo=hi by lia] at hG;exact hG⟩
    ·rintro r st'' ⟨rfl,k,rfl,hG⟩;obtain ⟨X,Y,e,hl,hX,hY⟩:=hG.out;subst hl;exact aa (q X Y e hX hY)
 apply LV
 ·intro hg a b st Q hk Fw Fx G4 G5 sa sb FL FM q;refine GZ (cJ ?_);obtain ⟨b0,G6,FN,GK⟩:=aA G5;obtain ⟨a0,FJ,FE,GL⟩:=aA G4;refine GZ (aB G6 ?_);have m0:ML lt a.toList b.toList [] 0 0:=⟨sa,sb,by simp⟩
  have m1:ML lt a.toList b.toList [b0] 0 1:=m0.pushB c FE FN (FL a0 b0 FJ G6);have Fe:∀ x∈b.toList, ∀ (i:Nat),i+1=a.size -> ∀ y∈a.toList.drop i,lt y x=false:=by
   intro x hx i hi y hy;obtain ⟨aL,G7,FO,_⟩:=aA (a:=a) (i:=i) (by lia)
   obtain ⟨bL,Gd,FF,_⟩:=aA (a:=b) (i:=b.size - 1) (by lia)
   have e:a.toList.drop i=[aL]:=by
    rw [dS FO,JG (by simp;lia)];rfl
   rw [e] at hy;simp at hy;subst hy;have hl:=FM y bL (by rw [show a.size - 1=i by lia];exact G7) Gd
   obtain ⟨j,hj,e⟩:=Jq.mp hx;have Fy:b.toList[j]? = some x:=by rw [<- e];exact D1 hj
   by_cases hjb:j=b.size - 1
   ·subst hjb;rw [FF] at Fy;cases Fy;exact hl
   ·have:=eV sb (show j < b.size - 1 by simp at hj;lia) Fy FF
    exact c.le_trans this hl
  try dsimp -zeta -zetaHave -zetaUnused only
  refine ae (fun h => ?_) (fun h => ?_)
  ·skip
   have h : 1=b.size:=by simpa using h
   refine aa ?_;have r:=m1.fin (by simp;lia)
   exact q _ _ (by simpa only [Hf,Hh,HD,bF] using r.1) (by simpa only [Hf,Hh,HD,bF] using r.2) Same.refl
  ·skip
   refine ae (fun h2 => ?_) (fun h2 => ?_)
   ·skip
    have h2 : 0+1=a.size:=by simpa using h2
    refine aa ?_;have r:=m1.finA (Fe · · 0 h2);exact q _ _ (by simpa only [Hf,Hh,HD,bF] using r.1) (by simpa only [Hf,Hh,HD,bF] using r.2) Same.refl
   ·skip
    have h : 1≠b.size:=by simpa using h
    have h2 : 0+1≠a.size:=by simpa using h2
    refine GZ (Lf ?_)
    try dsimp -zeta -zetaHave -zetaUnused only
    refine GZ (aC (Q:=fun r st'=>Same st st' /\ ∃ res t,r=(some res,t)/\Res lt a.toList b.toList res.toList)
     (Ig (fun i r st'=>Same st st' /\ ∃ out ia ib mg,r=(none,out,ia,ib,mg)/\ML lt a.toList b.toList out.toList ia ib/\ia+1 < a.size/\ib < b.size/\i+1<=out.size) ?_ ?_ ⟨Same.refl,_,_,_,_,rfl,m1,by lia,by lia,by simp⟩) ?_)
    ·rintro i r F8 _ hi ⟨sm,out,ia,ib,mg,rfl,m,Gf,Gg,hsz⟩
     try dsimp -zeta -zetaHave -zetaUnused only
     refine GZ (aC (Q:=fun r st'=>st'=F8/\((∃ B EX F4 ac bc,r=(none,B,EX,F4,ac,bc)/\ML lt a.toList b.toList B.toList EX F4/\EX+1 < a.size/\F4 < b.size/\i+2<=B.size) ∨ ∃ res t,r=(some res,t)/\Res lt a.toList b.toList res.toList))
      (Ig (fun j r st'=>st'=F8 /\ ∃ B EX F4 ac bc,r=(none,B,EX,F4,ac,bc)/\ML lt a.toList b.toList B.toList EX F4/\EX+1 < a.size/\F4 < b.size/\i+1+j<=B.size) ?_ ?_ ⟨rfl,_,_,_,_,_,rfl,m,Gf,Gg,by lia⟩) ?_)
     ·rintro j r EM _ hj ⟨rfl,B,EX,F4,ac,bc,rfl,m2,h1,h2,h3⟩
      try dsimp only
      obtain ⟨y,hy,F9,Fd⟩:=aA (a:=b) h2;obtain ⟨x,hx,FP,FI⟩:=aA (a:=a) (i:=EX) (by lia)
      refine GZ (aB hy (GZ (aB hx (GZ (jz c (sm.kind.trans hk) (Fx _ Fd) (Fw _ FI) ?_)))))
      try dsimp only
      refine ae (fun hl => ?_) (fun hl => ?_)
      ·skip
       refine GZ (aB hy ?_)
       try dsimp only
       have m3:=m2.pushB c FP F9 (c.asym _ _ hl);refine ae (fun h => ?_) (fun h => ?_)
       ·skip
        have h:F4+1=b.size:=by simpa using h
        exact aa ⟨rfl, .inr ⟨_,_,rfl,by simpa only [Hf,Hh,HD,bF] using m3.fin (by simp;lia)⟩⟩
       ·skip
        have h:F4+1≠b.size:=by simpa using h
        refine ae (fun _ => ?_) (fun _ => ?_)
        ·exact aa ⟨rfl, .inl ⟨_,_,_,_,_,rfl,by simpa only [Hf,Hh] using m3,h1,by lia,by simp;lia⟩⟩
        ·exact aa ⟨rfl,_,_,_,_,_,rfl,by simpa only [Hf,Hh] using m3,h1,by lia,by simp;lia⟩
      ·skip
       refine GZ (aB hx ?_)
       try dsimp only
       have m3:=m2.pushA c FP F9 (by simpa using hl)
       refine ae (fun h => ?_) (fun h => ?_)
       ·skip
        have h:EX+1+1=a.size:=by simpa using h
        exact aa ⟨rfl, .inr ⟨_,_,rfl,by simpa only [Hf,Hh,HD,bF] using m3.finA (Fe · · _ h)⟩⟩
       ·skip
        have h:EX+1+1≠a.size:=by simpa using h
        refine ae (fun _ => ?_) (fun _ => ?_)
        ·exact aa ⟨rfl, .inl ⟨_,_,_,_,_,rfl,by simpa only [Hf,Hh] using m3,by lia,h2,by simp;lia⟩⟩
        ·exact aa ⟨rfl,_,_,_,_,_,rfl,by simpa only [Hf,Hh] using m3,by lia,h2,by simp;lia⟩
     ·rintro r EM ⟨rfl,B,EX,F4,ac,bc,rfl,m2,h1,h2,h3⟩;exact ⟨rfl, .inl ⟨_,_,_,_,_,rfl,m2,h1,h2,by lia⟩⟩
     ·rintro r EM ⟨rfl,⟨B,EX,F4,ac,bc,rfl,m2,h1,h2,h3⟩ | ⟨res,t,rfl,J⟩⟩
      ·dsimp -zeta -zetaHave -zetaUnused only;refine GZ (cJ ?_);refine GZ (aC (Q:=fun r st'=>Same st st'/\((∃ F EO EK EY ac bc,r=(none,F,EO,EK,EY,ac,bc)/\ML lt a.toList b.toList F.toList EO EK/\EO+1 < a.size/\EK < b.size/\i+2<=F.size) ∨ ∃ res t,r=(some res,t)/\Res lt a.toList b.toList res.toList))
        (Ig (fun j r st'=>Same st st' /\ ∃ F EO EK EY ac bc,r=(none,F,EO,EK,EY,ac,bc)/\ML lt a.toList b.toList F.toList EO EK/\EO+1 < a.size/\EK < b.size/\i+2<=F.size) ?_ ?_ ⟨sm,_,_,_,_,_,_,rfl,m2,h1,h2,h3⟩) ?_)
       ·rintro j r EJ _ hj ⟨EZ,F,EO,EK,EY,FQ,FR,rfl,m3,h1,h2,h5⟩;obtain ⟨y,hy,F9,Fd⟩:=aA (a:=b) h2;refine zg fun QQ hQ => ?_;have G:∀ (st':Ih) (res:Array H8) t,Same st st'->Res lt a.toList b.toList res.toList->QQ (.done (some res,t)) st':=fun st' res t hs hr=>hQ _ _ ⟨hs, .inr ⟨_,_,rfl,hr⟩⟩;have Gh:∀ (st':Ih) (out:Array H8) ia ib mg ac bc,Same st st'->ML lt a.toList b.toList out.toList ia ib->ia+1 < a.size->ib < b.size->i+2<=out.size->QQ (.done (none,out,ia,ib,mg,ac,bc)) st'/\QQ (.yield (none,out,ia,ib,mg,ac,bc)) st':=fun st' out ia ib mg ac bc hs p1 p2 p3 p4=>⟨hQ _ _ ⟨hs, .inl ⟨_,_,_,_,_,_,rfl,p1,p2,p3,p4⟩⟩,hQ _ _ ⟨hs,_,_,_,_,_,_,rfl,p1,p2,p3,p4⟩⟩;clear hQ hj
        extract_lets -underBinder s0 vout s1 via s2 vib s3 vmg s4 vac vbc jp vmx
        have FS:∀ mg,wpS (Hl prog w) A E s (jp () mg) QQ EJ:=by
         intro mg;dsimp -zeta -zetaHave -zetaUnused only [jp,s0,vout,s1,via,s2,vib,s3,vmg,s4,vac,vbc];clear vmx jp vbc vac s4 vmg s3 vib s2 via s1 vout s0;refine GZ (Ji ?_);refine ve (P:=Same st) (EZ.trans ⟨rfl,rfl,rfl,rfl⟩) fun Fz EQ => ?_;have FT:=EQ.kind.trans hk;refine GZ (aB hy ?_);refine GZ (hg false y a (a.toList.take EO) (a.toList.drop EO) [] _ _ _ _ _ FT (Fx _ Fd) (by simp) (fJ (by lia)) (by simp) (fun x hx=>Fw x (JU hx)) (by lia) ((GW.mp m3.pa).2.1) fun X Y e hX hY => ?_)
         dsimp -zeta -zetaHave -zetaUnused only;have m4:=m3.galA c e F9 fun x hx=>zh (hX x hx);have ER:∀ x4,a.toList[EO+X.length]? = some x4->lt x4 y=false:=fun x4 Ff=>c.asym _ _ (vf (hY x4 (ow e Ff)));have FA:=oA e
         extract_lets -underBinder +onlyGivenNames vac Fg
         clear_value vac
         have Fm:∀ (O:Array H8) (Fa:Nat),ML lt a.toList b.toList O.toList Fa EK->(∀ x4,a.toList[Fa]? = some x4->lt x4 y=false)->Fa+1 < a.size->i+2<=O.size->wpS (Hl prog w) A E s (Fg () O Fa) QQ Fz:=by
          intro O Fa Gi Fh GM FU;dsimp -zeta -zetaHave -zetaUnused only [Fg];clear Fg FA ER m4 hX hY;obtain ⟨x4,Ff,EV,FV⟩:=aA (a:=a) (i:=Fa) (by lia)
          refine GZ (aB hy ?_);have m5:=Gi.pushB c EV F9 (Fh x4 EV);rw [<- Hh] at m5;have EW:i+2<=(O.push y).size:=by rw [Mu];lia
          try dsimp -zeta -zetaHave -zetaUnused only
          extract_lets -underBinder +onlyGivenNames vo5 vi5
          dsimp -zeta -zetaHave -zetaUnused only [vo5];clear vo5;have e5:vi5=EK+1:=rfl
          clear_value vi5
          subst e5
          revert m5 EW
          generalize O.push y=out5;intro m5 EW;refine ae (fun h => ?_) (fun h => ?_)
          ·exact aa (G _ _ _ EQ (m5.finR (by have h:=Ka h;lia)))
          ·have h:EK+1≠b.size:=by simpa using h
           refine GZ (aB Ff ?_);refine GZ (hg true x4 b (b.toList.take (EK+1)) (b.toList.drop (EK+1)) [] _ _ _ _ _ FT (Fw _ FV) (by simp) (fJ (by lia)) (by simp) (fun x hx=>Fx x (JU hx)) (by lia) ((GW.mp m5.pb).2.1) fun X2 Y2 e2 Fr Fs => ?_)
           dsimp -zeta -zetaHave -zetaUnused only;have m6:=m5.galB c e2 EV fun x hx=>c.asym _ _ (zi (Fr x hx));have ES:∀ y6,b.toList[EK+1+X2.length]? = some y6->lt y6 x4=false:=fun y6 FW=>vg (Fs y6 (ow e2 FW));have FB:=oA e2
           extract_lets -underBinder +onlyGivenNames vbc Fi
           clear_value vbc
           have Fn:∀ (EL:Array H8) (FC:Nat),ML lt a.toList b.toList EL.toList Fa FC->(∀ y6,b.toList[FC]? = some y6->lt y6 x4=false)->FC < b.size->i+2<=EL.size->wpS (Hl prog w) A E s (Fi () EL FC) QQ Fz:=by
            intro EL FC Gj Fj G9 Gw;dsimp -zeta -zetaHave -zetaUnused only [Fi];clear Fi FB ES m6 Fr Fs m5 EW FU h5 h1 h2 hsz Gg Gf h3;obtain ⟨y6,FW,Fo,Gx⟩:=aA (a:=b) (i:=FC) G9;refine GZ (aB Ff ?_);have m7:=Gj.pushA c EV Fo (Fj y6 Fo);rw [<- Hh] at m7;dsimp only;refine ae (fun h => ?_) (fun h => ?_)
            ·exact aa (G _ _ _ EQ (m7.finL (Fe · · (Fa+1) (Ka h))))
            ·have h:Fa+1+1≠a.size:=by simpa using h
             have:=Gh Fz (EL.push x4) (Fa+1) FC mg vac vbc EQ m7 (by lia) G9 (by rw [Mu];lia)
             exact ae (fun _=>aa this.1) (fun _=>aa this.2)
           clear_value Fi
           refine ae (fun h0 => ?_) (fun h0 => ?_)
           ·dsimp only;have m6:=m6.cut (a:=b) e2;refine ae (fun h => ?_) (fun h => ?_)
            ·exact aa (G _ _ _ EQ (m6.finR (by have h:=Ka h;lia)))
            ·have h:EK+1+X2.length≠b.size:=by simpa using h
             exact Fn _ _ m6 ES (by lia) (by rw [KA];lia)
           ·have Fk:X2=[]:=HU.mp (by lia)
            subst Fk;exact Fn _ _ m5 ES (by lia) EW
         clear_value Fg
         refine ae (fun h0 => ?_) (fun h0 => ?_)
         ·dsimp only;have m4:=m4.cut (a:=a) e;refine ae (fun h => ?_) (fun h => ?_)
          ·exact aa (G _ _ _ EQ (m4.finL (Fe · · _ (Ka h))))
          ·have h:EO+X.length+1≠a.size:=by simpa using h
           refine ae (fun h => ?_) (fun h9 => ?_)
           ·exact aa (G _ _ _ EQ (m4.finS (by have h:=Ka h;lia)))
           ·have h9:EO+X.length≠a.size:=by simpa using h9
            exact Fm _ _ m4 ER (by lia) (by rw [KA];lia)
         ·have Fk:X=[]:=HU.mp (by lia)
          subst Fk;exact Fm _ _ m3 ER h1 h5
        clear_value jp
        exact ae (fun _=>FS _) (fun _=>FS _)
       ·rintro r EJ ⟨EZ,F,EO,EK,EY,FQ,FR,rfl,m3,h1,h2,h5⟩;exact ⟨EZ, .inl ⟨_,_,_,_,_,_,rfl,m3,h1,h2,h5⟩⟩
       ·rintro r EJ ⟨EZ,⟨F,EO,EK,EY,FQ,FR,rfl,m3,h1,h2,h5⟩ | ⟨res,t,rfl,J⟩⟩
        ·dsimp -zeta -zetaHave -zetaUnused only;refine GZ (Ji ?_);exact aa ⟨EZ.trans ⟨rfl,rfl,rfl,rfl⟩,_,_,_,_,rfl,m3,h1,h2,by lia⟩
        ·exact aa ⟨EZ,_,_,rfl,J⟩
      ·exact aa ⟨sm,_,_,rfl,J⟩
    ·rintro r F8 ⟨sm,out,ia,ib,mg,rfl,m,Gf,Gg,hsz⟩;have:=m.size (by simp;lia) (by simp;lia)
     simp at this;lia
    ·rintro r F8 ⟨sm,res,t,rfl,J⟩;exact aa (q res F8 J.1 J.2 sm)
 ·intro hg a b st Q hk Fw Fx G4 G5 sa sb FL FM q;refine GZ (cJ ?_);obtain ⟨bL,Gd,FF,GN⟩:=aA (a:=b) (i:=b.size - 1) (by lia)
  obtain ⟨aL,G7,FO,GO⟩:=aA (a:=a) (i:=a.size - 1) (by lia)
  refine GZ (aB G7 ?_);have m0:MH lt a.toList b.toList [] a.size b.size:=⟨by rw [eE];simpa using sa,by rw [eE];simpa using sb,by rw [eE,eE];simp⟩
  have m1:MH lt a.toList b.toList [aL] (a.size - 1) b.size:=m0.pushA c G4 G5 FO FF (FM aL bL G7 Gd);have F6:∀ x∈b.toList.take 1, ∀ y∈a.toList,lt y x=false:=by
   intro x hx y hy;obtain ⟨b0,G6,FN,_⟩:=aA G5;obtain ⟨a0,FJ,FE,_⟩:=aA G4;have ex:x=b0:=by
    rw [cK (by lia) FN] at hx
    simpa using hx
   subst ex;have h:=FL a0 x FJ G6;obtain ⟨j,hj,e⟩:=Jq.mp hy;have Fy:a.toList[j]? = some y:=by rw [<- e];exact D1 hj
   by_cases hj0:j=0
   ·subst hj0;rw [FE] at Fy;cases Fy;exact h
   ·exact c.le_trans h (eV sa (by lia) FE Fy)
  try dsimp -zeta -zetaHave -zetaUnused only
  refine ae (fun h => ?_) (fun h => ?_)
  ·skip
   have h:a.size - 1=0:=by simpa using h
   refine aa ?_;have r:=m1.fin (.inl h);exact q _ _ (by simpa only [Hf,Hh,HS,HD,b9] using r.1) (by simpa only [Hf,Hh,HS,HD,b9] using r.2) Same.refl
  ·skip
   refine ae (fun h2 => ?_) (fun h2 => ?_)
   ·skip
    have h2:b.size=1:=by simpa using h2
    refine aa ?_;have r:=m1.finB (by rw [h2];exact F6)
    exact q _ _ (by simpa only [Hf,Hh,HS,HD,b9] using r.1) (by simpa only [Hf,Hh,HS,HD,b9] using r.2) Same.refl
   ·skip
    have h:a.size - 1≠0:=by simpa using h
    have h2:b.size≠1:=by simpa using h2
    refine GZ (Lf ?_)
    try dsimp -zeta -zetaHave -zetaUnused only
    refine GZ (aC (Q:=fun r st'=>Same st st' /\ ∃ res t,r=(some res,t)/\Res lt a.toList b.toList res.toList)
     (Ig (fun i r st'=>Same st st' /\ ∃ na nb out mg,r=(none,na,nb,out,mg)/\MH lt a.toList b.toList out.toList na nb/\0 < na/\1 < nb/\na < a.size/\nb<=b.size/\i+1<=out.size) ?_ ?_ ⟨Same.refl,_,_,_,_,rfl,m1,by lia,by lia,by lia,by lia,by simp⟩) ?_)
    ·rintro i r F8 _ hi ⟨sm,na,nb,out,mg,rfl,m,Fq,FG,FX,FY,hsz⟩
     try dsimp -zeta -zetaHave -zetaUnused only
     refine GZ (aC (Q:=fun r st'=>st'=F8/\((∃ ET EU B ac bc,r=(none,ET,EU,B,ac,bc)/\MH lt a.toList b.toList B.toList ET EU/\0 < ET/\1 < EU/\ET < a.size/\EU<=b.size/\i+2<=B.size) ∨ ∃ res t,r=(some res,t)/\Res lt a.toList b.toList res.toList))
      (Ig (fun j r st'=>st'=F8 /\ ∃ ET EU B ac bc,r=(none,ET,EU,B,ac,bc)/\MH lt a.toList b.toList B.toList ET EU/\0 < ET/\1 < EU/\ET < a.size/\EU<=b.size/\i+1+j<=B.size) ?_ ?_ ⟨rfl,_,_,_,_,_,rfl,m,Fq,FG,FX,FY,by lia⟩) ?_)
     ·rintro j r EM _ hj ⟨rfl,ET,EU,B,ac,bc,rfl,m2,h1,h2,F1,F5,h3⟩
      try dsimp only
      obtain ⟨y,hy,F9,Fd⟩:=aA (a:=b) (i:=EU - 1) (by lia)
      obtain ⟨x,hx,FP,FI⟩:=aA (a:=a) (i:=ET - 1) (by lia)
      refine GZ (aB hy (GZ (aB hx (GZ (jz c (sm.kind.trans hk) (Fx _ Fd) (Fw _ FI) ?_)))))
      try dsimp only
      refine ae (fun hl => ?_) (fun hl => ?_)
      ·skip
       refine GZ (aB hx ?_)
       try dsimp only
       have m3:=m2.pushA c h1 (by lia) FP F9 (c.asym _ _ hl)
       refine ae (fun h => ?_) (fun h => ?_)
       ·skip
        have h:ET - 1=0:=by simpa using h
        exact aa ⟨rfl, .inr ⟨_,_,rfl,by have r:=m3.fin (.inl h);simpa only [Hf,Hh,HS,HD,b9] using r⟩⟩
       ·skip
        have h:ET - 1≠0:=by simpa using h
        refine ae (fun _ => ?_) (fun _ => ?_)
        ·exact aa ⟨rfl, .inl ⟨_,_,_,_,_,rfl,by simpa only [Hf,Hh,HS,HD,b9] using m3,by lia,h2,by lia,F5,by simp;lia⟩⟩
        ·exact aa ⟨rfl,_,_,_,_,_,rfl,by simpa only [Hf,Hh,HS,HD,b9] using m3,by lia,h2,by lia,F5,by simp;lia⟩
      ·skip
       refine GZ (aB hy ?_)
       try dsimp only
       have m3:=m2.pushB c h1 (by lia) FP F9 (by simpa using hl)
       refine ae (fun h => ?_) (fun h => ?_)
       ·skip
        have h:EU - 1=1:=by simpa using h
        exact aa ⟨rfl, .inr ⟨_,_,rfl,by have r:=m3.finB (by rw [h];exact F6);simpa only [Hf,Hh,HS,HD,b9] using r⟩⟩
       ·skip
        have h:EU - 1≠1:=by simpa using h
        refine ae (fun _ => ?_) (fun _ => ?_)
        ·exact aa ⟨rfl, .inl ⟨_,_,_,_,_,rfl,by simpa only [Hf,Hh,HS,HD,b9] using m3,h1,by lia,F1,by lia,by simp;lia⟩⟩
        ·exact aa ⟨rfl,_,_,_,_,_,rfl,by simpa only [Hf,Hh,HS,HD,b9] using m3,h1,by lia,F1,by lia,by simp;lia⟩
     ·rintro r EM ⟨rfl,ET,EU,B,ac,bc,rfl,m2,h1,h2,F1,F5,h3⟩;exact ⟨rfl, .inl ⟨_,_,_,_,_,rfl,m2,h1,h2,F1,F5,by lia⟩⟩
     ·rintro r EM ⟨rfl,⟨ET,EU,B,ac,bc,rfl,m2,h1,h2,F1,F5,h3⟩ | ⟨res,t,rfl,J⟩⟩
      ·try dsimp -zeta -zetaHave -zetaUnused only
       refine GZ (cJ ?_);refine GZ (aC (Q:=fun r st'=>Same st st'/\((∃ EN U F EY ac bc,r=(none,EN,U,F,EY,ac,bc)/\MH lt a.toList b.toList F.toList EN U/\0 < EN/\1 < U/\EN < a.size/\U<=b.size/\i+2<=F.size) ∨ ∃ res t,r=(some res,t)/\Res lt a.toList b.toList res.toList))
        (Ig (fun j r st'=>Same st st' /\ ∃ EN U F EY ac bc,r=(none,EN,U,F,EY,ac,bc)/\MH lt a.toList b.toList F.toList EN U/\0 < EN/\1 < U/\EN < a.size/\U<=b.size/\i+2<=F.size) ?_ ?_ ⟨sm,_,_,_,_,_,_,rfl,m2,h1,h2,F1,F5,h3⟩) ?_)
       ·rintro j r EJ _ hj ⟨EZ,EN,U,F,EY,FQ,FR,rfl,m3,h1,h2,F1,F5,h5⟩;obtain ⟨y,hy,F9,Fd⟩:=aA (a:=b) (i:=U - 1) (by lia)
        refine zg fun QQ hQ => ?_;have G:∀ (st':Ih) (res:Array H8) t,Same st st'->Res lt a.toList b.toList res.toList->QQ (.done (some res,t)) st':=fun st' res t hs hr=>hQ _ _ ⟨hs, .inr ⟨_,_,rfl,hr⟩⟩;have Gh:∀ (st':Ih) (out:Array H8) na nb mg ac bc,Same st st'->MH lt a.toList b.toList out.toList na nb->0 < na->1 < nb->na < a.size->nb<=b.size->i+2<=out.size->QQ (.done (none,na,nb,out,mg,ac,bc)) st'/\QQ (.yield (none,na,nb,out,mg,ac,bc)) st':=fun st' out ia ib mg ac bc hs p1 p2 p3 p4 p5 p6=>⟨hQ _ _ ⟨hs, .inl ⟨_,_,_,_,_,_,rfl,p1,p2,p3,p4,p5,p6⟩⟩,hQ _ _ ⟨hs,_,_,_,_,_,_,rfl,p1,p2,p3,p4,p5,p6⟩⟩;clear hQ hj
        extract_lets -underBinder s0 vna s1 vnb s2 vout s3 vmg s4 vac vbc jp vmx
        have FS:∀ mg,wpS (Hl prog w) A E s (jp () mg) QQ EJ:=by
         intro mg;dsimp -zeta -zetaHave -zetaUnused only [jp,s0,vna,s1,vnb,s2,vout,s3,vmg,s4,vac,vbc];clear vmx jp vbc vac s4 vmg s3 vout s2 vnb s1 vna s0;refine GZ (Ji ?_);refine ve (P:=Same st) (EZ.trans ⟨rfl,rfl,rfl,rfl⟩) fun Fz EQ => ?_;have FT:=EQ.kind.trans hk;refine GZ (aB hy ?_);refine GZ (hg false y a [] (a.toList.take EN) (a.toList.drop EN) _ _ _ _ _ FT (Fx _ Fd) (by simp) rfl (fJ (by lia)) (fun x hx=>Fw x (JV hx)) (by lia) ((GW.mp m3.pa).1) fun X Y e hX hY => ?_)
         dsimp -zeta -zetaHave -zetaUnused only;have m4:=m3.galA c e (by lia) F9 fun x hx=>c.asym _ _ (vf (hY x hx))
         have ER : 0 < X.length -> ∀ x4,a.toList[X.length - 1]? = some x4->lt y x4=false:=fun h0 x4 Ff=>zh (hX x4 (ox e h0 Ff));have FA:=lJ e (by lia)
         extract_lets -underBinder +onlyGivenNames vk vac Fg
         clear_value vac
         have Fm:∀ (Fb:Nat) (O:Array H8),MH lt a.toList b.toList O.toList Fb U->(∀ x4,a.toList[Fb - 1]? = some x4->lt y x4=false)->0 < Fb->Fb < a.size->i+2<=O.size->wpS (Hl prog w) A E s (Fg () Fb O) QQ Fz:=by
          intro Fb O Gi Fh FZ GJ FU;dsimp -zeta -zetaHave -zetaUnused only [Fg];clear Fg vk FA ER m4 hX hY;obtain ⟨x4,Ff,EV,FV⟩:=aA (a:=a) (i:=Fb - 1) (by lia)
          refine GZ (aB hy ?_);have m5:=Gi.pushB c FZ (by lia) EV F9 (Fh x4 EV)
          rw [<- Hh] at m5;have EW:i+2<=(O.push y).size:=by rw [Mu];lia
          try dsimp -zeta -zetaHave -zetaUnused only
          extract_lets -underBinder +onlyGivenNames vo5
          dsimp -zeta -zetaHave -zetaUnused only [vo5];clear vo5
          revert m5 EW
          generalize O.push y=out5;intro m5 EW;refine ae (fun h => ?_) (fun h => ?_)
          ·exact aa (G _ _ _ EQ (m5.finR (by rw [Ka h];exact F6)))
          ·have h:U - 1≠1:=by simpa using h
           refine GZ (aB Ff ?_);refine GZ (hg true x4 b [] (b.toList.take (U - 1)) (b.toList.drop (U - 1)) _ _ _ _ _ FT (Fw _ FV) (by simp) rfl (fJ (by lia)) (fun x hx=>Fx x (JV hx)) (by lia) ((GW.mp m5.pb).1) fun X2 Y2 e2 Fr Fs => ?_)
           dsimp -zeta -zetaHave -zetaUnused only;have m6:=m5.galB c e2 FZ EV fun x hx=>vg (Fs x hx);have ES : 0 < X2.length -> ∀ y6,b.toList[X2.length - 1]? = some y6->lt x4 y6=false:=fun h0 y6 FW=>c.asym _ _ (zi (Fr y6 (ox e2 h0 FW)));have FB:=lJ e2 (by lia)
           extract_lets -underBinder +onlyGivenNames vk vbc Fi
           clear_value vbc
           have Fn:∀ (Fp:Nat) (EL:Array H8),MH lt a.toList b.toList EL.toList Fb Fp->(∀ y6,b.toList[Fp - 1]? = some y6->lt x4 y6=false)->1 < Fp->Fp<=b.size->i+2<=EL.size->wpS (Hl prog w) A E s (Fi () Fp EL) QQ Fz:=by
            intro Fp EL Gj Fj Gy Gk Gw;dsimp -zeta -zetaHave -zetaUnused only [Fi];clear Fi vk FB ES m6 Fr Fs m5 EW FU h5 h1 h2 F1 F5 hsz Fq FG FX FY h3;obtain ⟨y6,FW,Fo,Gx⟩:=aA (a:=b) (i:=Fp - 1) (by lia)
            refine GZ (aB Ff ?_);have m7:=Gj.pushA c FZ (by lia) EV Fo (Fj y6 Fo)
            rw [<- Hh] at m7;dsimp only;refine ae (fun h => ?_) (fun h => ?_)
            ·exact aa (G _ _ _ EQ (m7.finL (.inl (Ka h))))
            ·have h:Fb - 1≠0:=by simpa using h
             have:=fun mg ac bc=>Gh Fz (EL.push x4) (Fb - 1) Fp mg ac bc EQ m7 (by lia) Gy (by lia) Gk (by rw [Mu];lia)
             exact ae (fun _=>aa (this _ _ _).1) (fun _=>aa (this _ _ _).2)
           clear_value Fi
           refine ae (fun h0 => ?_) (fun h0 => ?_)
           ·dsimp only;have m6:=m6.cut (a:=b) e2;refine ae (fun h => ?_) (fun h => ?_)
            ·exact aa (G _ _ _ EQ (m6.finR (by rw [Ka h];exact F6)))
            ·have h:X2.length≠1:=by simpa using h
             refine ae (fun h9 => ?_) (fun h9 => ?_)
             ·exact aa (G _ _ _ EQ (m6.finL (.inr (Ka h9))))
             ·have h9:X2.length≠0:=by simpa using h9
              exact Fn _ _ m6 (ES (by lia)) (by lia) (by lia) (by rw [KA];lia)
           ·have h0 : ¬ (U - 1 - X2.length > 0):=h0;have hl:X2.length=U - 1:=by lia
            have FK : 0 < X2.length:=by lia
            have hr:=ES FK;rw [hl] at hr;exact Fn _ _ m5 hr (by lia) (by lia) EW
         clear_value Fg
         refine ae (fun h0 => ?_) (fun h0 => ?_)
         ·dsimp only;have m4:=m4.cut (a:=a) e;refine ae (fun h => ?_) (fun h => ?_)
          ·exact aa (G _ _ _ EQ (m4.finL (.inl (Ka h))))
          ·have h:X.length≠0:=by simpa using h
           exact Fm _ _ m4 (ER (by lia)) (by lia) (by lia) (by rw [KA];lia)
         ·have h0 : ¬ (EN - X.length > 0):=h0;have hl:X.length=EN:=by lia
          have hr:=ER (by lia)
          rw [hl] at hr;exact Fm _ _ m3 hr h1 F1 h5
        clear_value jp
        exact ae (fun _=>FS _) (fun _=>FS _)
       ·rintro r EJ ⟨EZ,EN,U,F,EY,FQ,FR,rfl,m3,h1,h2,F1,F5,h5⟩;exact ⟨EZ, .inl ⟨_,_,_,_,_,_,rfl,m3,h1,h2,F1,F5,h5⟩⟩
       ·rintro r EJ ⟨EZ,⟨EN,U,F,EY,FQ,FR,rfl,m3,h1,h2,F1,F5,h5⟩ | ⟨res,t,rfl,J⟩⟩
        ·try dsimp -zeta -zetaHave -zetaUnused only
         refine GZ (Ji ?_);exact aa ⟨EZ.trans ⟨rfl,rfl,rfl,rfl⟩,_,_,_,_,rfl,m3,h1,h2,F1,F5,by lia⟩
        ·exact aa ⟨EZ,_,_,rfl,J⟩
      ·exact aa ⟨sm,_,_,rfl,J⟩
    ·rintro r F8 ⟨sm,na,nb,out,mg,rfl,m,Fq,FG,FX,FY,hsz⟩;have:=m.size (by simp;lia) (by simp;lia)
     simp at this;lia
    ·rintro r F8 ⟨sm,res,t,rfl,J⟩;exact aa (q res F8 J.1 J.2 sm)
end
end Srt
end L2
namespace L2
namespace Srt
open PySem PySem.Spec PyProof.Rows
section
variable {prog:Hu} {w:HW} {A:Ib} {E:h7->D0->Prop} {s:D0} {kd:Lb} {P:H8->Prop} {lt:H8->H8->Bool}
structure Kp (st st':Ih):Prop where
 kind:IK st'=IK st
 pend:Hk st'=Hk st
 fail:JC st'=JC st
theorem Kp.refl {st:Ih}:Kp st st:=⟨rfl,rfl,rfl⟩
theorem Kp.trans {a b c:Ih} (h:Kp a b) (g:Kp b c):Kp a c:=⟨g.kind.trans h.kind,g.pend.trans h.pend,g.fail.trans h.fail⟩
theorem qg {a:Array H8} {L B R:List H8} (e:a.toList=L++(B++R)) {i j:Nat} (hi:i=L.length) (q:j=L.length+B.length):(mirror a i j ((j - i) / 2)).toList=L++(B.reverse++R):=by
 have hs:a.size=L.length+(B.length+R.length):=by rw [<- Hw,e];simp
 apply KD;intro k;rw [Hx,getElem?_mirror_all (by lia)]
 have g:∀ n:Nat,a[n]? = (L++(B++R))[n]? := fun n=>by rw [<- Hx,e]
 rw [g,g]
 by_cases h1:k < L.length
 ·rw [if_neg (by lia),Hg h1,Hg h1]
 ·by_cases h2:k < j
  ·rw [if_pos (by lia),GS (by lia),Hg (by lia),GS (by lia),Hg (by simp;lia),List.getElem?_reverse (by lia)]
   congr 1;lia
  ·rw [if_neg (by lia),GS (by lia),GS (by lia),GS (by lia),GS (by simp;lia)]
   simp
theorem qh {a:Array H8} {L j q R:List H8} {x:H8} (e:a.toList=L++((j++q)++x::R)) {src d:Nat} (hi:src=L.length+(j.length+q.length)) (hd:d=q.length):(bubble a src d).toList=L++((j++x::q)++R):=by
 have hs:a.size=L.length+(j.length+q.length+(R.length+1)):=by rw [<- Hw,e];simp;lia
 apply KD;intro k;rw [Hx,getElem?_bubble (by lia) d (by lia)]
 have g:∀ n:Nat,a[n]? = (L++((j++q)++x::R))[n]? := fun n=>by rw [<- Hx,e]
 rw [g,g,g]
 by_cases h1:k < L.length
 ·rw [if_neg (by lia),if_neg (by lia),Hg h1,Hg h1]
 ·by_cases h2:k < L.length+j.length
  ·rw [if_neg (by lia),if_neg (by lia),GS (by lia),Hg (by simp;lia),Hg (by lia),GS (by lia),Hg (by simp;lia),Hg (by lia)]
  ·by_cases h3:k=L.length+j.length
   ·rw [if_pos (by lia),GS (by lia),GS (by simp;lia),GS (by lia),Hg (by simp;lia),GS (by lia)]
    have e1:src - L.length - (j++q).length=0:=by simp;lia
    have e2:k - L.length - j.length=0:=by lia
    rw [e1,e2];rfl
   ·by_cases h4:k<=src
    ·rw [if_neg (by lia),if_pos (by lia),GS (by lia),Hg (by simp;lia),GS (by lia),GS (by lia),Hg (by simp;lia),GS (by lia)]
     have e2:k - L.length - j.length=(k - 1 - L.length - j.length)+1:=by lia
     rw [e2,Kb]
    ·rw [if_neg (by lia),if_neg (by lia),GS (by lia),GS (by simp;lia),GS (by lia),GS (by simp;lia)]
     have e2:k - L.length - (j++q).length=(k - L.length - (j++x::q).length)+1:=by simp;lia
     rw [e2,Kb]
theorem dE (c:Cm prog w A s kd P lt) {i j:Nat} {x y:H8} {st:Ih} {Q:Option Bool->Ih->Prop} (z:IK st=kd) (hx:(HV st)[i]? = some x) (B:(HV st)[j]? = some y) (px:P x) (py:P y) (q:Q (some (lt x y)) st):wpS (Hl prog w) A E s (ltAt' i j) Q st:=by
 rw [ltAt'_eq];exact GZ (Lf (GZ (aB hx (GZ (aB B (jz c z px py q))))))
theorem jA {i j:Nat} {st:Ih} {Q:Unit->Ih->Prop} {L B R:List H8} (e:(HV st).toList=L++(B++R)) (hi:i=L.length) (z:j=L.length+B.length) (q:∀ st',(HV st').toList=L++(B.reverse++R)->Kp st st'->Q () st'):wpS (Hl prog w) A E s (reverseSlice' i j) Q st:=by
 rw [reverseSlice'_eq];exact Ji (q _ (qg e hi z) ⟨rfl,rfl,rfl⟩)
theorem ce {st:Ih} {L xs:List H8} (e:(HV st).toList=L++xs) {i n:Nat} (hi:i=L.length+n):(HV st)[i]? = xs[n]? := by
 rw [<- Hx,e,hi,GS (by lia)]
 congr 1;lia
theorem oB (c:Cm prog w A s kd P lt) {xs:List H8} {n:Nat} {x y:H8} (h:Ord lt (xs.take n)) (q : 0 < n) (hx:xs[n]? = some x) (B:xs[n - 1]? = some y) (F:lt x y=false):Ord lt (xs.take (n+1)):=by
 rw [PX,hx];refine GW.mpr ⟨h,by simp,fun z G u j => ?_⟩
 simp at j;subst j;exact gW c h q B F z G
noncomputable abbrev cV (lt:H8->H8->Bool) (l:List H8):Prop:=l.Pairwise fun x y=>lt x y=false
theorem iH (c:Cm prog w A s kd P lt) {D:List H8} {e x:H8} (h:cV lt (D++[e])) (hx:lt e x=false):cV lt (D++[e]++[x]):=by
 refine GW.mpr ⟨h,by simp,fun z B u j => ?_⟩
 simp at j;subst j;obtain ⟨_,_,F⟩:=GW.mp h
 rcases Hj.mp B with g | g
 ·cases q:lt z u with
  | false=>rfl
  | true=>rcases c.neg z e u q with r | r
          ·rw [F z g e (by simp)] at r;cases r
          ·rw [hx] at r;cases r
 ·simp at g;subst g;exact hx
theorem qH {q F:List H8} (h:cV lt (q++F)) (he:∀ x∈F, ∀ y∈F,lt x y=false):cV lt (q++F.reverse):=by
 obtain ⟨h1,h2,z⟩:=GW.mp h;refine GW.mpr ⟨h1, ?_,fun x hx y j=>z x hx y (KU.mp j)⟩;rw [Oo];exact h2.imp_of_mem fun hx j _=>he _ j _ hx
theorem perm_take {xs:List H8} {n:Nat}:(xs.take n++xs.drop n).Perm xs:=by rw [IS]
theorem qi (c:Cm prog w A s kd P lt) {L xs:List H8} {st:Ih} {Q:Option Nat->Ih->Prop} (hk:IK st=kd) (O:(HV st).toList=L++xs) (h0:xs≠[]) (hP:∀ x∈xs,P x)
 (q:∀ r R st',(HV st').toList=L++(r++R)->(r++R).Perm xs->r≠[]->Ord lt r->Kp st st'->Q (some r.length) st'):wpS (Hl prog w) A E s (countRun' L.length xs.length) Q st:=by
 have Fa : 0 < xs.length:=Ik.mpr h0;rw [countRun'_eq]
 try dsimp -zeta -zetaHave -zetaUnused only
 refine GZ (aC (Q:=fun r st'=>st'=st /\ ∃ n,r=(none,n)/\1<=n/\n<=xs.length/\Ord lt (xs.take n)/\(n=xs.length ∨ ∃ x y,xs[n]? = some x/\xs[n - 1]? = some y/\lt x y=true))
  (Ig (fun i r st'=>st'=st/\r=(none,i)/\Ord lt (xs.take i)) ?_ ?_ ⟨rfl,rfl,by
    cases xs with
    | nil=>exact absurd rfl h0
    | cons x t=>simp⟩) ?_)
 ·rintro i r st' h1 hi ⟨rfl,rfl,ho⟩;dsimp only;obtain ⟨x,hx⟩:∃ x,xs[i]? = some x:=⟨_,D1 hi⟩;obtain ⟨y,hy⟩:∃ y,xs[i - 1]? = some y:=⟨_,D1 (by lia)⟩
  refine GZ (dE c hk ((ce O rfl).trans hx) ((ce O (by lia)).trans hy) (hP _ (Hy hx)) (hP _ (Hy hy)) ?_)
  dsimp only;refine ae (fun h => ?_) (fun h => ?_)
  ·exact aa ⟨rfl,i,rfl,h1,by lia,ho, .inr ⟨x,y,hx,hy,h⟩⟩
  ·exact aa ⟨rfl,rfl,oB c ho (by lia) hx hy (by simpa using h)⟩
 ·rintro r st' ⟨rfl,rfl,ho⟩;exact ⟨rfl,_,rfl,by lia,by lia,ho, .inl (by lia)⟩
 ·rintro r st' ⟨rfl,n,rfl,Fx,Fb,ho,hc⟩;dsimp -zeta -zetaHave -zetaUnused only;have EV:Q (some n) st':=by
   have:=q (xs.take n) (xs.drop n) st' (by rw [O,IS]) perm_take (fun z=>by
    have h3:=congrArg KJ z;rw [Hq,Jd] at h3;lia) ho Kp.refl
   rw [Hq,Lg Fb] at this;exact this
  extract_lets -underBinder +onlyGivenNames vr vn
  dsimp -zeta -zetaHave -zetaUnused only [vr];clear vr;have en:n=vn:=rfl
  clear_value vn
  subst en;refine ae (fun h=>aa EV) (fun h => ?_);have Fm:n≠xs.length:=by simpa using h
  obtain ⟨x,y,hx,hy,Fn⟩:=hc.resolve_left Fm;have Fy:n < xs.length:=by lia
  have exs:xs=xs.take n++x::xs.drop (n+1):=by
   have h1:=(IS n xs).symm;rw [dS hx] at h1;exact h1
  have Fc:y∈xs.take n:=by rw [cK (by lia) hy];simp
  extract_lets -underBinder +onlyGivenNames jp
  have Fd:∀ (B:List H8) (EK:Ih),(HV EK).toList=L++(B++x::xs.drop (n+1))->B.Perm (xs.take n)->B.length=n->(∀ u∈B, ∀ v∈B,lt u v=false)->y∈B->Kp st' EK->wpS (Hl prog w) A E s (jp ()) Q EK:=by
   intro B EK e1 hB EL EM EN EO;dsimp -zeta -zetaHave -zetaUnused only [jp];clear jp;refine GZ (cJ ?_)
   try dsimp -zeta -zetaHave -zetaUnused only
   extract_lets -underBinder +onlyGivenNames vn1 vq1
   have Fo:vn1=n+1:=rfl;have eq1:vq1=0:=rfl
   clear_value vn1 vq1
   subst Fo eq1;refine GZ (aC (Q:=fun r U => ∃ G F R neq,Kp st' U/\(HV U).toList=L++((G++F)++R)/\((G++F)++R).Perm xs/\r=(none,(G++F).length,neq)/\F.length=neq+1/\cV lt (G++F)/\(∀ u∈F, ∀ v∈F,lt u v=false))
    (Ig (fun i r U => ∃ G F R neq,Kp st' U/\(HV U).toList=L++((G++F)++R)/\((G++F)++R).Perm xs/\r=(none,(G++F).length,neq)/\F.length=neq+1/\cV lt (G++F)/\(∀ u∈F, ∀ v∈F,lt u v=false)/\(G++F).length=i) ?_ ?_ ?_) ?_)
   ·rintro i r U Fz hi ⟨G,F,R,neq,kp,ea,hp,rfl,hF,hN,hE,Fe⟩;subst Fe;have hlen:=hp.length_eq;rw [GR] at hlen;obtain ⟨z,R',rfl⟩:∃ z R',R=z::R':=by
     cases R with
     | nil=>simp at hlen;simp at hi;lia
     | cons z R'=>exact ⟨z,R',rfl⟩
    have Fp:F≠[]:=fun z=>by rw [z] at hF;simp at hF
    obtain ⟨F0,e,rfl⟩:∃ F0 e,F=F0++[e]:=⟨F.dropLast,F.getLast Fp,(JB _).symm⟩;have hz:(HV U)[L.length+(G++(F0++[e])).length]? = some z:=by
     rw [ce ea rfl,GS (by lia),MD];rfl
    have he:(HV U)[L.length+(G++(F0++[e])).length - 1]? = some e:=by
     rw [ce ea (n:=(G++F0).length) (by simp <;> lia),Hg (by simp <;> lia), <- He,GS (by lia),MD];rfl
    have Ff:P z:=hP z (hp.mem_iff.mp (by simp))
    have Fg:P e:=hP e (hp.mem_iff.mp (by simp))
    dsimp only;refine GZ (dE c (kp.kind.trans hk) hz he Ff Fg ?_);dsimp only;have EZ:cV lt (G++F0++[e]):=by rw [He];exact hN
    refine ae (fun F1 => ?_) (fun F1 => ?_)
    ·have EQ:lt e z=false:=c.asym _ _ F1;refine ae (fun ER => ?_) (fun ER => ?_)
     ·refine GZ (jA (L:=L++G) (B:=F0++[e]) (R:=z::R') (by rw [ea];simp) (by simp only [GR] at hF ⊢;simp only [HF] at hF ⊢;lia) (by simp <;> lia) fun Z e3 Y => ?_)
      refine aa ⟨G++(F0++[e]).reverse,[z],R',0,kp.trans Y,by rw [e3];simp, ?_,by simp <;> lia,rfl, ?_, ?_,by simp <;> lia⟩
      ·refine JN.trans ?_ hp;rw [He,He,He];exact Ie _ (Iq _ (LH _))
      ·have h1:=qH hN hE;refine GW.mpr ⟨h1,by simp,fun u j v J => ?_⟩
       simp at J;subst J;have hm:=iH c EZ EQ;refine (GW.mp hm).2.2 u ?_ v (by simp)
       rw [He]
       rcases Hj.mp j with g | g
       ·exact Im _ g
       ·exact Hn _ (KU.mp g)
      ·intro u j v J;simp at j J;subst j J;exact c.irr
     ·refine aa ⟨G++(F0++[e]),[z],R',0,kp,by rw [ea];simp,by simpa using hp,by simp <;> lia,rfl, ?_, ?_,by simp <;> lia⟩
      ·have hm:=iH c EZ EQ;simpa using hm
      ·intro u j v J;simp at j J;subst j J;exact c.irr
    ·have Fq:lt z e=false:=by simpa using F1
     refine GZ (dE c (kp.kind.trans hk) he hz Fg Ff ?_);dsimp only;refine ae (fun Fh => ?_) (fun Fh => ?_)
     ·exact aa ⟨G,F0++[e],z::R',neq,kp,ea,hp,rfl,hF,hN,hE⟩
     ·have EQ:lt e z=false:=by simpa using Fh
      refine aa ⟨G,(F0++[e])++[z],R',neq+1,kp,by rw [ea];simp,by simpa using hp,by simp <;> lia,by simp at hF ⊢;lia, ?_, ?_,by simp <;> lia⟩
      ·have hm:=iH c EZ EQ;simpa using hm
      ·have Fr:∀ u∈F0++[e],lt u z=false:=fun u j=>by
        cases q1:lt u z with
        | false=>rfl
        | true=>rcases c.neg u e z q1 with r | r
                ·rw [hE u j e (by simp)] at r;cases r
                ·rw [EQ] at r;cases r
       have Fs:∀ u∈F0++[e],lt z u=false:=fun u j=>by
        cases q1:lt z u with
        | false=>rfl
        | true=>rcases c.neg z e u q1 with r | r
                ·rw [Fq] at r;cases r
                ·rw [hE e (by simp) u j] at r;cases r
       intro u j v J
       rcases Hj.mp j with g | g <;> rcases Hj.mp J with g2 | g2
       ·exact hE u g v g2
       ·simp at g2;subst g2;exact Fr u g
       ·simp at g;subst g;exact Fs v g2
       ·simp at g g2;subst g g2;exact c.irr
   ·rintro r U ⟨G,F,R,neq,kp,ea,hp,hr,hF,hN,hE,Fe⟩;exact ⟨G,F,R,neq,kp,ea,hp,hr,hF,hN,hE⟩
   ·refine ⟨B,[x],xs.drop (n+1),0,EO,by rw [e1];simp, ?_,by simp [EL],rfl, ?_, ?_,by simp [EL]⟩
    ·have h9:(B++x::xs.drop (n+1)).Perm xs:=by
      have h9:=Iq (x::xs.drop (n+1)) hB;rw [<- exs] at h9;exact h9
     simpa using h9
    ·refine GW.mpr ⟨List.Pairwise.imp_of_mem (fun j J _=>EM _ j _ J) (List.pairwise_of_forall_mem_list (r:=fun _ _=>True) fun _ _ _ _=>trivial),by simp,fun u j v J => ?_⟩
     simp at J;subst J
     cases q1:lt u v with
     | false=>rfl
     | true=>rcases c.neg u y v q1 with r | r
             ·rw [EM u j y EN] at r;cases r
             ·rw [c.asym _ _ Fn] at r;cases r
    ·intro u j v J;simp at j J;subst j J;exact c.irr
   ·rintro r U ⟨G,F,R,neq,kp,ea,hp,rfl,hF,hN,hE⟩;dsimp -zeta -zetaHave -zetaUnused only
    extract_lets -underBinder +onlyGivenNames vr vs vn2 vq2
    dsimp -zeta -zetaHave -zetaUnused only [vr];have Ft:vn2=(G++F).length:=rfl;have eq2:neq=vq2:=rfl
    clear_value vn2 vq2
    clear vs vr;subst Ft eq2
    extract_lets -underBinder +onlyGivenNames ES
    have EW:∀ (D:List H8) (Z:Ih),(HV Z).toList=L++(D++R)->cV lt D->(D++R).Perm xs->D.length=(G++F).length->0 < D.length->Kp st' Z->wpS (Hl prog w) A E s (ES ()) Q Z:=by
     intro D Z e3 F4 F5 ET EX Y;dsimp -zeta -zetaHave -zetaUnused only [ES];clear ES;have Fu : 0 < D.length:=by lia
     refine GZ (jA (L:=L) (B:=D) (R:=R) e3 rfl (by rw [ET]) fun Fi e4 Fj => ?_)
     have o4:Ord lt D.reverse:=Oo.mpr F4;have EU:(D.reverse++R).Perm xs:=(Iq _ (LH D)).trans F5;have Fk:(D.reverse++R).length=xs.length:=EU.length_eq;have F6:Ord lt ((D.reverse++R).take D.length):=by
      rw [List.take_append_of_le_length (by simp),Kj (by simp)];exact o4
     have F7:∀ u∈D.reverse++R,P u:=fun u j=>hP u (EU.mem_iff.mp j);have Fv:D.length<=xs.length:=by rw [<- Fk];simp
     rw [<- ET];generalize D.length=N0 at F6 Fu Fv;generalize D.reverse++R=ys at e4 EU Fk F6 F7;refine GZ (aC (Q:=fun r EJ=>EJ=Fi /\ ∃ n,r=(none,n)/\1<=n/\n<=xs.length/\Ord lt (ys.take n))
      (Ig (fun i r EJ=>EJ=Fi/\r=(none,i)/\Ord lt (ys.take i)) ?_ ?_ ⟨rfl,rfl,F6⟩) ?_)
     ·rintro i r EJ h1 hi ⟨rfl,rfl,ho⟩;dsimp only;obtain ⟨u,j⟩:∃ u,ys[i]? = some u:=⟨_,D1 (by lia)⟩
      obtain ⟨v,J⟩:∃ v,ys[i - 1]? = some v:=⟨_,D1 (by lia)⟩
      refine GZ (dE c ((Y.trans Fj).kind.trans hk) ((ce e4 rfl).trans j) ((ce e4 (by lia)).trans J) (F7 _ (Hy j)) (F7 _ (Hy J)) ?_)
      dsimp only;refine ae (fun h => ?_) (fun h => ?_)
      ·exact aa ⟨rfl,i,rfl,by lia,by lia,ho⟩
      ·exact aa ⟨rfl,rfl,oB c ho (by lia) j J (by simpa using h)⟩
     ·rintro r EJ ⟨rfl,rfl,ho⟩;exact ⟨rfl,_,rfl,by lia,by lia,ho⟩
     ·rintro r EJ ⟨rfl,m,rfl,FA,FB,ho⟩;refine aa ?_;have:=q (ys.take m) (ys.drop m) EJ (by rw [e4,IS]) (perm_take.trans EU) (fun z=>by
       have h3:=congrArg KJ z;rw [Hq,Jd] at h3;lia) ho (Y.trans Fj)
      rw [Hq,Lg (by lia)] at this
      exact this
    clear_value ES
    refine ae (fun ER => ?_) (fun ER => ?_)
    ·refine GZ (jA (L:=L++G) (B:=F) (R:=R) (by rw [ea];simp) (by simp <;> lia) (by simp <;> lia) fun Z e3 Y => ?_)
     have Y:=kp.trans Y;have e3:(HV Z).toList=L++((G++F.reverse)++R):=by rw [e3];simp
     have F4:=qH hN hE;have F5:((G++F.reverse)++R).Perm xs:=(Iq _ (Ie _ (LH _))).trans hp;have ET:(G++F.reverse).length=(G++F).length:=by simp
     have EX : 0 < (G++F.reverse).length:=by simp <;> lia
     exact EW _ _ e3 F4 F5 ET EX Y
    ·exact EW _ _ ea hN hp rfl (by simp <;> lia) kp
  clear_value jp
  refine ae (fun h1 => ?_) (fun h1 => ?_)
  ·obtain ⟨x0,F8⟩:∃ x0,xs[0]? = some x0:=⟨_,D1 Fa⟩;refine GZ (dE c hk ((ce O (n := 0) (by lia)).trans F8) ((ce O (by lia)).trans hy) (hP _ (Hy F8)) (hP _ (Hy hy)) ?_)
   dsimp only;refine ae (fun hr=>aa EV) (fun hr => ?_);have hr:lt x0 y=false:=by simpa using hr
   have Fl:∀ u∈xs.take n,lt u x0=false:=fun u j=>by
    obtain ⟨i,hi,eu⟩:=Jq.mp j;have F9:(xs.take n)[i]? = some u:=by rw [<- eu];exact D1 hi
    have EY:(xs.take n)[0]? = some x0:=by rw [L9 (by lia)];exact F8
    by_cases hi0:i=0
    ·subst hi0;rw [EY] at F9;cases F9;exact c.irr
    ·exact eV ho (by lia) EY F9
   have Fw:∀ u∈xs.take n,lt y u=false:=gW c ho (by lia) hy c.irr
   have heq:∀ u∈xs.take n, ∀ v∈xs.take n,lt u v=false:=fun u j v J=>by
    exact c.le_trans (c.le_trans (Fw v J) hr) (Fl u j)
   refine GZ (jA (L:=L) (B:=xs.take n) (R:=x::xs.drop (n+1)) (by rw [O];exact congrArg (L ++ ·) exs) rfl (by rw [Hq,Lg Fb]) fun EK e1 EO => ?_)
   have hB:(xs.take n).reverse.Perm (xs.take n):=LH _;have EL:(xs.take n).reverse.length=n:=by rw [My,Hq];lia
   have EM:∀ u∈(xs.take n).reverse, ∀ v∈(xs.take n).reverse,lt u v=false:=fun u j v J=>heq u (KU.mp j) v (KU.mp J);have EN:y∈(xs.take n).reverse:=KU.mpr Fc;exact Fd _ _ e1 hB EL EM EN EO
  ·have EK:=st';have hn:n=1:=by lia
   have EO:Kp st' st':=Kp.refl;have e1:(HV st').toList=L++(xs.take n++x::xs.drop (n+1)):=by rw [O];exact congrArg (L ++ ·) exs
   have hB:(xs.take n).Perm (xs.take n):=OH _;have EL:(xs.take n).length=n:=by rw [Hq];lia
   have EN:=Fc;have EM:∀ u∈xs.take n, ∀ v∈xs.take n,lt u v=false:=fun u j v J=>by
    have e0:xs.take n=[y]:=by
     subst hn;rw [cK (by lia) hy];rfl
    rw [e0] at j J;simp at j J;subst j J;exact c.irr
   exact Fd _ _ e1 hB EL EM EN EO
end
end Srt
end L2
namespace L2
namespace Srt
open PySem PySem.Spec PyProof.Rows
section
variable {prog:Hu} {w:HW} {A:Ib} {E:h7->D0->Prop} {s:D0} {kd:Lb} {P:H8->Prop} {lt:H8->H8->Bool}
theorem vh (c:Cm prog w A s kd P lt) {L r R:List H8} {n:Nat} {st:Ih} {Q:Bool->Ih->Prop} (hk:IK st=kd) (Z:(HV st).toList=L++(r++R)) (h0:r≠[]) (ho:Ord lt r) (hn:r.length<=n) (EJ:n<=(r++R).length) (hP:∀ x∈r++R,P x)
 (q:∀ r' R' st',(HV st').toList=L++(r'++R')->(r'++R').Perm (r++R)->r'.length=n->Ord lt r'->Kp st st'->Q true st'):wpS (Hl prog w) A E s (binarySort' L.length n r.length) Q st:=by
 have EQ : 0 < r.length:=Ik.mpr h0;rw [binarySort'_eq];refine GZ (aC (Q:=fun x st'=>x=(none,()) /\ ∃ D T,Kp st st'/\(HV st').toList=L++(D++T)/\(D++T).Perm (r++R)/\D.length=n/\Ord lt D)
  (Ig (fun i x st'=>x=(none,()) /\ ∃ D T,Kp st st'/\(HV st').toList=L++(D++T)/\(D++T).Perm (r++R)/\D.length=i/\Ord lt D) ?_ ?_ ⟨rfl,r,R,Kp.refl,Z,OH _,by lia,ho⟩) ?_)
 ·rintro k x B ER ES ⟨rfl,D,T,kp,ea,J,hD,O⟩;dsimp only;subst hD;have hlen:=J.length_eq;rw [GR] at hlen;obtain ⟨z,T',rfl⟩:∃ z T',T=z::T':=by
   cases T with
   | nil=>simp at hlen EJ;lia
   | cons z T'=>exact ⟨z,T',rfl⟩
  have EK:∀ u∈D,P u:=fun u G=>hP u (J.mem_iff.mp (Im _ G));have EL:P z:=hP z (J.mem_iff.mp (by simp))
  have hz:(HV B)[L.length+D.length]? = some z:=by
   rw [ce ea rfl,GS (by lia),MD];rfl
  refine GZ (aC (Q:=fun x st'=>st'=B /\ ∃ k,x=(none,k,k)/\Gal lt false z D k k)
   (Ig (fun i x st'=>st'=B /\ ∃ lo hi,x=(none,lo,hi)/\Gal lt false z D lo hi/\hi - lo+i<=D.length) ?_ ?_ ⟨rfl,0,D.length,rfl,⟨by lia,by lia,fun _ _ h=>by lia,fun i x hi hx=>by
     have:=(Ho.mp hx).1;lia⟩,by lia⟩) ?_)
  ·rintro i x U _ hi ⟨rfl,lo,j,rfl,F,hm⟩;dsimp only;have hl:=F.le;have EM:=F.len;refine ae (fun EN => ?_) (fun EN => ?_)
   ·exact aa ⟨rfl,j,by rw [show lo=j by lia],by rw [show lo=j by lia] at F;exact F⟩
   ·obtain ⟨u,G⟩:∃ u,D[(lo+j) / 2]? = some u:=⟨_,D1 (by lia)⟩
    have EO:(HV U)[L.length+(lo+j) / 2]? = some u:=by
     rw [ce ea rfl,Hg (by lia)];exact G
    refine GZ (dE c (kp.kind.trans hk) hz EO EL (EK _ (Hy G)) ?_);dsimp only;refine ae (fun hf => ?_) (fun hf => ?_)
    ·exact aa ⟨rfl,_,_,rfl,⟨by lia,by lia,F.up,gU c O G (by simp [bey,hf])⟩,by lia⟩
    ·exact aa ⟨rfl,_,_,rfl,⟨by lia,EM,gT c O G (by simpa [bey] using hf),F.dn⟩,by lia⟩
  ·rintro x U ⟨rfl,lo,j,rfl,F,hm⟩;have hl:=F.le;exact ⟨rfl,j,by rw [show lo=j by lia],by rw [show lo=j by lia] at F;exact F⟩
  ·rintro x U ⟨rfl,l,rfl,F⟩;dsimp only;obtain ⟨X,Y,e,hl,hX,hY⟩:=F.out;subst hl e;rw [moveDown'_eq];refine GZ (Ji ?_);refine aa ⟨rfl,X++z::Y,T',kp.trans ⟨rfl,rfl,rfl⟩,qh ea (by simp) (by simp;lia), ?_,by simp;lia, ?_⟩
   ·refine JN.trans ?_ J;rw [He,He];refine Ie _ ?_;rw [Me];exact List.perm_middle.symm
   ·obtain ⟨o1,o2,o3⟩:=GW.mp O;refine GW.mpr ⟨o1,N4.mpr ⟨fun u G=>c.asym _ _ (by have:=hY u G;simpa [bey] using this),o2⟩,fun u G v hv => ?_⟩
    rcases Ha.mp hv with g | g
    ·subst g;have:=hX u G;simpa [bey] using this
    ·exact o3 u G v g
 ·rintro x B ⟨rfl,D,T,kp,ea,J,hD,O⟩;exact ⟨rfl,D,T,kp,ea,J,by lia,O⟩
 ·rintro x B ⟨rfl,D,T,kp,ea,J,hD,O⟩;exact aa (q D T B ea J hD O kp)
noncomputable def Pd:Nat->List (List H8)->List (Nat×Nat×Nat)->Prop
 | _,[],ps=>ps=[]
 | s,r::rs,ps => ∃ p t,ps=(s,r.length,p)::t/\Pd (s+r.length) rs t
theorem Pd.split:∀ {l t:List (List H8)} {s:Nat} {ps:List (Nat×Nat×Nat)},Pd s (l++t) ps -> ∃ pl pt,ps=pl++pt/\pl.length=l.length/\Pd s l pl/\Pd (s+l.flatten.length) t pt
 | [],t,s,ps,h=>⟨[],ps,rfl,rfl,rfl,by simpa using h⟩
 | r::l,t,s,ps,h=>by
   obtain ⟨p,q,e,h⟩:=h;obtain ⟨pl,pt,e2,j,h1,h2⟩:=Pd.split h;refine ⟨(s,r.length,p)::pl,pt,by rw [e,e2];rfl,by simp [j],⟨p,pl,rfl,h1⟩, ?_⟩
   rw [Io,GR, <- Nz];exact h2
theorem Pd.join:∀ {l t:List (List H8)} {s:Nat} {pl pt:List (Nat×Nat×Nat)},Pd s l pl->Pd (s+l.flatten.length) t pt->Pd s (l++t) (pl++pt)
 | [],t,s,pl,pt,h,g=>by
  have:pl=[]:=h;subst this;simpa using g
 | r::l,t,s,pl,pt,h,g=>by
   obtain ⟨p,q,e,h⟩:=h;subst e;refine ⟨p,q++pt,rfl,Pd.join h ?_⟩;rw [Io,GR, <- Nz] at g;exact g
theorem Pd.length:∀ {l:List (List H8)} {s:Nat} {ps:List (Nat×Nat×Nat)},Pd s l ps->ps.length=l.length
 | [],_,_,h=>by rw [show _=[] from h];rfl
 | r::l,s,ps,h=>by
   obtain ⟨p,q,e,h⟩:=h;rw [e];simp [h.length]
structure Rn (lt:H8->H8->Bool) (kd:Lb) (a₀:List H8) (st:Ih) (rs:List (List H8)) (R:List H8):Prop where
 arr:(HV st).toList=rs.flatten++R
 perm:(rs.flatten++R).Perm a₀
 ord:∀ r∈rs,r≠[]/\Ord lt r
 pend:Pd 0 rs (Hk st).toList
 kind:IK st=kd
 fail:JC st=none
theorem Rn.merge (c:Cm prog w A s kd P lt) {a₀:List H8} (hP:∀ x∈a₀,P x) {st:Ih} {l t:List (List H8)} {j F R:List H8} (h:Rn lt kd a₀ st (l++j::F::t) R) {i:Nat} (hi:i=l.length) {Q:Bool->Ih->Prop}
 (q:∀ m st',Rn lt kd a₀ st' (l++m::t) R->m.length=j.length+F.length->Q true st'):wpS (Hl prog w) A E s (QZ i) Q st:=by
 obtain ⟨g,lo,EN,⟨L,O,U⟩,Y⟩:=DQ (E:=E) c;obtain ⟨pl,pt,ep,J,Z,EJ⟩:=h.pend.split;obtain ⟨p1,t1,e1,EK⟩:=EJ;obtain ⟨p2,t2,e2,EL⟩:=EK;subst e1 e2;have o1:=h.ord j (by simp)
 have o2:=h.ord F (by simp)
 have G:∀ x,x∈j∨x∈F->P x:=fun x hx=>hP x (h.perm.mem_iff.mp (by simp only [JD,Io,Hj];rcases hx with z | z <;> simp [z]))
 have ip:∀ (k:Nat) (v:Nat×Nat×Nat),(Hk st).toList[k]? = some v->(Hk st)[k]? = some v:=fun k v e=>by rw [<- Hx];exact e
 refine Y L (O L) (U L) i (0+l.flatten.length) j.length p1 (0+l.flatten.length+j.length) F.length p2 l.flatten j F (t.flatten++R) st Q h.kind h.fail (ip _ _ ?_) (ip _ _ ?_) (by rw [h.arr];simp) (MJ _) rfl (by lia) rfl o1.1 o2.1 (fun x hx=>G x (.inl hx)) (fun x hx=>G x (.inr hx)) o1.2 o2.2 ?_
 ·rw [ep,hi, <- J,GS (by lia),MD];rfl
 ·rw [ep,hi, <- J,GS (by lia),show pl.length+1 - pl.length=1 by lia];rfl
 ·intro m st' ea hm om hk hf EM;have B:m.length=j.length+F.length:=by rw [hm.length_eq];simp
  refine q m st' ⟨by rw [ea];simp, ?_, ?_, ?_,hk,hf⟩ B
  ·refine JN.trans ?_ h.perm;simp only [JD,Io,He];refine Ie _ ?_;rw [<- He j];exact Iq _ hm
  ·intro r hr
   rcases Hj.mp hr with z | z
   ·exact h.ord r (Im _ z)
   ·rcases Ha.mp z with z | z
    ·subst z;exact ⟨fun z=>by rw [z] at B;have:=Ik.mpr o1.1;simp at B;lia,om⟩
    ·exact h.ord r (by simp [z])
  ·rw [EM];have e3:(((Hk st).setIfInBounds i (0+l.flatten.length,j.length+F.length,p1)).eraseIdxIfInBounds (i+1)).toList=pl++(0+l.flatten.length,j.length+F.length,p1)::t2:=by
    rw [Array.toList_eraseIdxIfInBounds,N6,ep,hi, <- J];rw [List.set_append_right _ _ (by lia),MD,List.eraseIdx_append_of_length_le (by lia),show pl.length+1 - pl.length=1 by lia];rfl
   rw [e3];refine Z.join ⟨p1,t2,by rw [B], ?_⟩
   rw [B, <- Nz];exact EL
theorem oC {α:Type} {l:List α} (h : 1 < l.length):∃ t a b,l=t++[a,b]:=by
 obtain ⟨t1,b,e1⟩:∃ t b,l=t++[b]:=⟨l.dropLast,l.getLast (fun z=>by rw [z] at h;simp at h),(JB _).symm⟩
 obtain ⟨j,a,e2⟩:∃ t b,t1=t++[b]:=⟨t1.dropLast,t1.getLast (fun z=>by rw [e1,z] at h;simp at h),(JB _).symm⟩
 exact ⟨j,a,b,by rw [e1,e2];simp⟩
theorem CB {α:Type} {l:List α} {i:Nat} (h:i+1 < l.length):∃ t a b u,l=t++a::b::u/\t.length=i:=by
 refine ⟨l.take i,l[i],l[i+1],l.drop (i+2), ?_,by rw [Hq];lia⟩
 rw [<- Iw (by lia), <- Iw (by lia),IS]
theorem Rn.size {a₀:List H8} {st:Ih} {rs:List (List H8)} {R:List H8} (h:Rn lt kd a₀ st rs R):rs.flatten.length+R.length=a₀.length:=by
 have:=h.perm.length_eq;rw [GR] at this;exact this
theorem qI:∀ {rs:List (List H8)},(∀ r∈rs,r≠[])->rs.length<=rs.flatten.length
 | [],_=>by simp
 | r::rs,h=>by
   have h1:=Ik.mpr (h r (by simp))
   have h2:=qI (rs:=rs) fun r j=>h r (by simp [j])
   rw [Io,GR,HR];lia
theorem vj {l:List (List H8)} {s pw:Nat} {ps:Array (Nat×Nat×Nat)} (h:Pd s l ps.toList):Pd s l (ps.modify (ps.size - 1) fun x=>(x.1,x.2.1,pw)).toList:=by
 rw [Array.toList_modify];have g:∀ (l:List (List H8)) (s k:Nat) (ps:List (Nat×Nat×Nat)),Pd s l ps->Pd s l (ps.modify k fun x=>(x.1,x.2.1,pw)):=by
  intro l
  induction l with
  | nil=>intro s k ps h;have:ps=[]:=h;subst this;cases k <;> rfl
  | cons r l ih =>
    intro s k ps h;obtain ⟨p,t,e,h⟩:=h;subst e
    cases k with
    | zero=>exact ⟨pw,t,rfl,h⟩
    | succ k=>exact ⟨p,_,rfl,ih _ k t h⟩
 exact g _ _ _ _ h
theorem qj (c:Cm prog w A s kd P lt) {st:Ih} {Q:Unit->Ih->Prop} (hk:IK st=kd) (hf:JC st=none) (hp:Hk st = #[]) (hP:∀ x∈(HV st).toList,P x)
 (q:∀ st',(HV st').toList.Perm (HV st).toList->Ord lt (HV st').toList->JC st'=none->Q () st'):wpS (Hl prog w) A E s sortRuns' Q st:=by
 rw [sortRuns'_eq];refine GZ (Lf ?_)
 try dsimp only
 have hsz:(HV st).size=(HV st).toList.length:=by simp
 generalize hA:(HV st).toList=a₀ at hP q hsz;generalize hS:(HV st).size=size at hsz;generalize minRun' size size 0=minrun;refine GZ (aC (Q:=fun r st' => ∃ rs lo,r=(none,lo)/\Rn lt kd a₀ st' rs [])
  (Ig (fun i r st' => ∃ rs R,r=(none,rs.flatten.length)/\Rn lt kd a₀ st' rs R/\i<=rs.flatten.length) ?_ ?_ ⟨[],a₀,rfl,⟨by simpa using hA,by simp,by simp,by rw [hp];rfl,hk,hf⟩,by simp⟩) ?_)
 ·rintro i r ER _ hi ⟨rs,R,rfl,L,EN⟩
  try dsimp only
  have F5:=L.size;refine ae (fun EZ => ?_) (fun EZ => ?_)
  ·have:R=[]:=HU.mp (by lia)
   subst this;exact aa ⟨rs,_,rfl,L⟩
  ·have ES:size - rs.flatten.length=R.length:=by lia
   have F1:R≠[]:=fun z=>by rw [z,Jd] at ES;lia
   have ET:∀ x∈R,P x:=fun x hx=>hP x (L.perm.mem_iff.mp (Hn _ hx));rw [ES];refine GZ (qi c L.kind L.arr F1 ET fun r R1 J ea EJ U ho kp => ?_)
   try dsimp only
   have F:Rn lt kd a₀ J rs (r++R1):=⟨ea,(Ie _ EJ).trans L.perm,L.ord,by rw [kp.pend];exact L.pend,kp.kind.trans L.kind,kp.fail.trans L.fail⟩
   have EU:r.length+R1.length=R.length:=by rw [<- EJ.length_eq];simp
   refine ae (fun EO => ?_) (fun EO => ?_)
   ·refine GZ (cJ ?_);refine GZ (vh c F.kind F.arr U ho (n:=min R.length minrun) (by lia) (by simp;lia) (fun x hx=>ET x (EJ.mem_iff.mp hx)) fun r2 R2 B EV EM G F4 EL => ?_)
    try dsimp only
    refine ae (fun h=>absurd h (by simp)) (fun _ => ?_)
    have EW:r2≠[]:=fun z=>by
     rw [z] at G;simp at G;have:=Ik.mpr U;lia
    have F:Rn lt kd a₀ B rs (r2++R2):=⟨EV,(Ie _ EM).trans F.perm,F.ord,by rw [EL.pend];exact F.pend,EL.kind.trans F.kind,EL.fail.trans F.fail⟩
    rw [<- G];clear G EM EV EL ea EJ kp EU EO;generalize B=J at F;clear ho U;have ho:=F4;have U:=EW;generalize r2=r at F ho U;generalize R2=R1 at F;refine GZ (Lf ?_)
    try dsimp only
    have EX:(Hk J).size=rs.length:=by rw [<- Hw];exact F.pend.length
    cases hb:(Hk J).back? with
    | none =>
      try dsimp only
      have HL:rs.flatten.length=rs.flatten.length:=rfl;refine GZ (Ji ?_);have EQ:=Ik.mpr U;have Y:(rs++[r]).flatten.length=rs.flatten.length+r.length:=by rw [JD,GR,HL];simp
      refine aa ⟨rs++[r],R1,by rw [Y],⟨by rw [show _=_ from F.arr];simp, ?_, ?_, ?_,F.kind,F.fail⟩,by rw [Y];lia⟩
      ·refine JN.trans (Kq (by simp)) F.perm
      ·intro u hu
       rcases Hj.mp hu with z | z
       ·exact F.ord u z
       ·simp at z;subst z;exact ⟨U,ho⟩
      ·have h8:(Hk (Lk J ((Hk J).push (rs.flatten.length,r.length,0)))).toList=(Hk J).toList++[(rs.flatten.length,r.length,0)]:=by
        show ((Hk J).push _).toList=_;rw [Hh]
       rw [show _=_ from h8];exact F.pend.join ⟨0,[],by rw [HL,MJ],rfl⟩
    | some v =>
      obtain ⟨s1,n1,p1⟩:=v
      try dsimp only
      refine GZ (aC (Q:=fun x st'=>x=(none,()) /\ ∃ rs',Rn lt kd a₀ st' rs' (r++R1)/\rs'.flatten.length=rs.flatten.length)
       (Ig (fun i x st'=>x=(none,()) /\ ∃ rs',Rn lt kd a₀ st' rs' (r++R1)/\rs'.flatten.length=rs.flatten.length) ?_ ?_ ⟨rfl,rs,F,rfl⟩) ?_)
      ·rintro j x B _ hj ⟨rfl,rs',O,G⟩;refine GZ (Lf ?_)
       try dsimp only
       have EK:(Hk B).size=rs'.length:=by rw [<- Hw];exact O.pend.length
       by_cases h1:(Hk B).size > 1
       ·rw [if_pos h1];have h2:(Hk B)[(Hk B).size - 2]? = some ((Hk B)[(Hk B).size - 2]'(by lia)):=HM (by lia)
        rw [h2]
        try dsimp only
        refine ae (fun h => ?_) (fun h => ?_)
        ·exact aa ⟨rfl,rs',O,G⟩
        ·obtain ⟨t,a,b,e⟩:=oC (l:=rs') (by lia)
         subst e;refine GZ (O.merge c hP (by rw [EK];simp) fun m Z h4 hm => ?_)
         refine ae (fun h=>absurd h (by simp)) (fun _=>aa ⟨rfl,_,h4, ?_⟩)
         rw [<- G];simp [hm]
       ·rw [if_neg h1];exact aa ⟨rfl,rs',O,G⟩
      ·rintro x B ⟨rfl,rs',O,G⟩;exact ⟨rfl,rs',O,G⟩
      ·rintro x B ⟨rfl,rs',O,G⟩
       try dsimp only
       refine GZ (Ji ?_);have h4:Rn lt kd a₀ (Lk B ((Hk B).modify ((Hk B).size - 1) fun x=>(x.1,x.2.1,power' size (2*s1+n1) (2*s1+n1+n1+r.length) size))) rs' (r++R1):=⟨O.arr,O.perm,O.ord,vj O.pend,O.kind,O.fail⟩;generalize EY:Lk B ((Hk B).modify ((Hk B).size - 1) fun x=>(x.1,x.2.1,power' size (2*s1+n1) (2*s1+n1+n1+r.length) size))=Z at h4;have HL:=G;refine GZ (Ji ?_);have EQ:=Ik.mpr U;have Y:(rs'++[r]).flatten.length=rs.flatten.length+r.length:=by rw [JD,GR,HL];simp
       refine aa ⟨rs'++[r],R1,by rw [Y],⟨by rw [show _=_ from h4.arr];simp, ?_, ?_, ?_,h4.kind,h4.fail⟩,by rw [Y];lia⟩
       ·refine JN.trans (Kq (by simp)) h4.perm
       ·intro u hu
        rcases Hj.mp hu with z | z
        ·exact h4.ord u z
        ·simp at z;subst z;exact ⟨U,ho⟩
       ·have h8:(Hk (Lk Z ((Hk Z).push (rs.flatten.length,r.length,0)))).toList=(Hk Z).toList++[(rs.flatten.length,r.length,0)]:=by
         show ((Hk Z).push _).toList=_;rw [Hh]
        rw [show _=_ from h8];exact h4.pend.join ⟨0,[],by rw [HL,MJ],rfl⟩
   ·clear ea EJ kp EU EO;refine GZ (Lf ?_)
    try dsimp only
    have EX:(Hk J).size=rs.length:=by rw [<- Hw];exact F.pend.length
    cases hb:(Hk J).back? with
    | none =>
      try dsimp only
      have HL:rs.flatten.length=rs.flatten.length:=rfl;refine GZ (Ji ?_);have EQ:=Ik.mpr U;have Y:(rs++[r]).flatten.length=rs.flatten.length+r.length:=by rw [JD,GR,HL];simp
      refine aa ⟨rs++[r],R1,by rw [Y],⟨by rw [show _=_ from F.arr];simp, ?_, ?_, ?_,F.kind,F.fail⟩,by rw [Y];lia⟩
      ·refine JN.trans (Kq (by simp)) F.perm
      ·intro u hu
       rcases Hj.mp hu with z | z
       ·exact F.ord u z
       ·simp at z;subst z;exact ⟨U,ho⟩
      ·have h8:(Hk (Lk J ((Hk J).push (rs.flatten.length,r.length,0)))).toList=(Hk J).toList++[(rs.flatten.length,r.length,0)]:=by
        show ((Hk J).push _).toList=_;rw [Hh]
       rw [show _=_ from h8];exact F.pend.join ⟨0,[],by rw [HL,MJ],rfl⟩
    | some v =>
      obtain ⟨s1,n1,p1⟩:=v
      try dsimp only
      refine GZ (aC (Q:=fun x st'=>x=(none,()) /\ ∃ rs',Rn lt kd a₀ st' rs' (r++R1)/\rs'.flatten.length=rs.flatten.length)
       (Ig (fun i x st'=>x=(none,()) /\ ∃ rs',Rn lt kd a₀ st' rs' (r++R1)/\rs'.flatten.length=rs.flatten.length) ?_ ?_ ⟨rfl,rs,F,rfl⟩) ?_)
      ·rintro j x B _ hj ⟨rfl,rs',O,G⟩;refine GZ (Lf ?_)
       try dsimp only
       have EK:(Hk B).size=rs'.length:=by rw [<- Hw];exact O.pend.length
       by_cases h1:(Hk B).size > 1
       ·rw [if_pos h1];have h2:(Hk B)[(Hk B).size - 2]? = some ((Hk B)[(Hk B).size - 2]'(by lia)):=HM (by lia)
        rw [h2]
        try dsimp only
        refine ae (fun h => ?_) (fun h => ?_)
        ·exact aa ⟨rfl,rs',O,G⟩
        ·obtain ⟨t,a,b,e⟩:=oC (l:=rs') (by lia)
         subst e;refine GZ (O.merge c hP (by rw [EK];simp) fun m Z h4 hm => ?_)
         refine ae (fun h=>absurd h (by simp)) (fun _=>aa ⟨rfl,_,h4, ?_⟩)
         rw [<- G];simp [hm]
       ·rw [if_neg h1];exact aa ⟨rfl,rs',O,G⟩
      ·rintro x B ⟨rfl,rs',O,G⟩;exact ⟨rfl,rs',O,G⟩
      ·rintro x B ⟨rfl,rs',O,G⟩
       try dsimp only
       refine GZ (Ji ?_);have h4:Rn lt kd a₀ (Lk B ((Hk B).modify ((Hk B).size - 1) fun x=>(x.1,x.2.1,power' size (2*s1+n1) (2*s1+n1+n1+r.length) size))) rs' (r++R1):=⟨O.arr,O.perm,O.ord,vj O.pend,O.kind,O.fail⟩;generalize EY:Lk B ((Hk B).modify ((Hk B).size - 1) fun x=>(x.1,x.2.1,power' size (2*s1+n1) (2*s1+n1+n1+r.length) size))=Z at h4;have HL:=G;refine GZ (Ji ?_);have EQ:=Ik.mpr U;have Y:(rs'++[r]).flatten.length=rs.flatten.length+r.length:=by rw [JD,GR,HL];simp
       refine aa ⟨rs'++[r],R1,by rw [Y],⟨by rw [show _=_ from h4.arr];simp, ?_, ?_, ?_,h4.kind,h4.fail⟩,by rw [Y];lia⟩
       ·refine JN.trans (Kq (by simp)) h4.perm
       ·intro u hu
        rcases Hj.mp hu with z | z
        ·exact h4.ord u z
        ·simp at z;subst z;exact ⟨U,ho⟩
       ·have h8:(Hk (Lk Z ((Hk Z).push (rs.flatten.length,r.length,0)))).toList=(Hk Z).toList++[(rs.flatten.length,r.length,0)]:=by
         show ((Hk Z).push _).toList=_;rw [Hh]
        rw [show _=_ from h8];exact h4.pend.join ⟨0,[],by rw [HL,MJ],rfl⟩
 ·rintro r ER ⟨rs,R,rfl,L,EN⟩;have:=L.size;have:R=[]:=HU.mp (by lia)
  subst this;exact ⟨rs,_,rfl,L⟩
 ·rintro r ER ⟨rs,lo,rfl,L⟩
  try dsimp only
  refine GZ (aC (Q:=fun r st'=>r=(none,()) /\ ∃ rs,Rn lt kd a₀ st' rs []/\rs.length<=1)
   (Ig (fun i r st'=>r=(none,()) /\ ∃ rs,Rn lt kd a₀ st' rs []/\rs.length+i<=size) ?_ ?_ ⟨rfl,rs,L, ?_⟩) ?_)
  ·rintro i r J _ hi ⟨rfl,rs,L,EN⟩;refine GZ (Lf ?_)
   try dsimp only
   have EX:(Hk J).size=rs.length:=by rw [<- Hw];exact L.pend.length
   refine ae (fun h => ?_) (fun h => ?_)
   ·exact aa ⟨rfl,rs,L,by lia⟩
   ·have go:∀ k,k+1 < rs.length->wpS (Hl prog w) A E s (QZ k) (fun b st'=>b=true /\ ∃ rs',Rn lt kd a₀ st' rs' []/\rs'.length+1=rs.length) J:=by
     intro k hk;obtain ⟨t,a,b,u,e,ht⟩:=CB hk;subst e;refine L.merge c hP ht.symm fun m B O _=>⟨rfl,_,O,by simp;lia⟩
    refine GZ (aC (go _ ?_) ?_)
    ·(repeat' split) <;> lia
    ·rintro b B ⟨rfl,rs',O,G⟩;refine ae (fun h=>absurd h (by simp)) (fun _=>aa ⟨rfl,rs',O,by lia⟩)
  ·rintro r J ⟨rfl,rs,L,EN⟩;exact ⟨rfl,rs,L,by lia⟩
  ·have h1:=qI fun r hr=>(L.ord r hr).1;have h2:=L.size;simp only [Jd] at h2;lia
  ·rintro r J ⟨rfl,rs,L,hl⟩;refine aa (q J (by rw [L.arr];exact L.perm) ?_ L.fail)
   rw [L.arr,Ja]
   match rs,hl,L with
   | [],_,_=>exact Nq
   | [r],_,L=>simpa using (L.ord r (by simp)).2
end
end Srt
end L2
namespace L2
namespace Srt
open PySem PySem.Spec PyProof.Rows
def gX (cap:Nat):Prop := ∀ (prog:Hu) (w:HW) (A:Ib) (E:h7->D0->Prop) (s:D0) (kd:Lb) (P:H8->Prop) (lt:H8->H8->Bool),Cm prog w A s kd P lt -> ∀ (st:Ih) (Q:Unit->Ih->Prop),IK st=kd->JC st=none->Hk st = #[]->(∀ x∈(HV st).toList,P x)->2<=(HV st).size->(HV st).size<=cap ->
 (∀ st',(HV st').toList.Perm (HV st).toList->Ord lt (HV st').toList->JC st'=none->Q () st')->wpS (Hl prog w) A E s sortRuns' Q st
theorem sK {cap:Nat}:gX cap:=fun _ _ _ _ _ _ _ _ c _ _ j hf z B _ _ q=>qj c j hf z B q
end Srt
end L2
namespace L2
namespace Srt
open PySem PySem.Spec PyProof.Rows
inductive Ky where
 | int (i:Int)
 | tup (l:List Ky)
mutual
noncomputable def ax:Ky->Ky->Ordering
 | .int a, .int b=>if a < b then .lt else if a=b then .eq else .gt
 | .int _, .tup _ => .lt
 | .tup _, .int _ => .gt
 | .tup a, .tup b=>cmpKs a b
noncomputable def cmpKs:List Ky->List Ky->Ordering
 | [],[] => .eq
 | [],_::_ => .lt
 | _::_,[] => .gt
 | x::xs,y::ys=>(ax x y).then (cmpKs xs ys)
end
mutual
theorem cX:∀ a b,ax b a=(ax a b).swap
 | .int a, .int b=>by
  simp only [ax]
  by_cases h1:a < b
  ·rw [if_pos h1,if_neg (by lia),if_neg (by lia)];rfl
  ·by_cases h2:a=b
   ·rw [if_neg h1,if_pos h2,if_neg (by lia),if_pos h2.symm];rfl
   ·rw [if_neg h1,if_neg h2,if_pos (by lia)];rfl
 | .int _, .tup _=>by simp [ax]
 | .tup _, .int _=>by simp [ax]
 | .tup a, .tup b=>by simp only [ax];exact cmpKs_swap a b
theorem cmpKs_swap:∀ a b,cmpKs b a=(cmpKs a b).swap
 | [],[] => rfl
 | [],_::_=>rfl
 | _::_,[] => rfl
 | x::xs,y::ys=>by
   simp only [cmpKs];rw [cX x y,cmpKs_swap xs ys]
   cases ax x y <;> rfl
end
mutual
theorem gY:∀ a b,ax a b = .eq->a=b
 | .int a, .int b,h=>by
  simp only [ax] at h
  by_cases h1:a < b
  ·rw [if_pos h1] at h;cases h
  ·by_cases h2:a=b
   ·rw [h2]
   ·rw [if_neg h1,if_neg h2] at h;cases h
 | .int _, .tup _,h=>by simp [ax] at h
 | .tup _, .int _,h=>by simp [ax] at h
 | .tup a, .tup b,h=>by simp only [ax] at h;rw [cmpKs_eq a b h]
theorem cmpKs_eq:∀ a b,cmpKs a b = .eq->a=b
 | [],[],_=>rfl
 | [],_::_,h=>by simp [cmpKs] at h
 | _::_,[],h=>by simp [cmpKs] at h
 | x::xs,y::ys,h=>by
   simp only [cmpKs] at h
   cases e:ax x y with
   | lt=>rw [e] at h;cases h
   | gt=>rw [e] at h;cases h
   | eq=>rw [e] at h;rw [gY x y e,cmpKs_eq xs ys h]
end
mutual
theorem jB:∀ a b c,ax a b = .lt->ax b c = .lt->ax a c = .lt
 | .int a, .int b, .int c,h,g=>by
  simp only [ax] at h g ⊢;have h1:a < b:=by
   by_cases h1:a < b
   ·exact h1
   ·rw [if_neg h1] at h;split at h <;> cases h
  have h2:b < c:=by
   by_cases h1:b < c
   ·exact h1
   ·rw [if_neg h1] at g;split at g <;> cases g
  rw [if_pos (by lia)]
 | .int _, .tup _, .int _,_,g=>by simp [ax] at g
 | .int _, .int _, .tup _,_,_=>by simp [ax]
 | .int _, .tup _, .tup _,_,_=>by simp [ax]
 | .tup _, .int _,_,h,_=>by simp [ax] at h
 | .tup _, .tup _, .int _,_,g=>by simp [ax] at g
 | .tup a, .tup b, .tup c,h,g=>by simp only [ax] at h g ⊢;exact cmpKs_trans a b c h g
theorem cmpKs_trans:∀ a b c,cmpKs a b = .lt->cmpKs b c = .lt->cmpKs a c = .lt
 | [],[],_,h,_=>by simp [cmpKs] at h
 | [],_::_,[],_,g=>by simp [cmpKs] at g
 | [],_::_,_::_,_,_=>by simp [cmpKs]
 | _::_,[],_,h,_=>by simp [cmpKs] at h
 | _::_,_::_,[],_,g=>by simp [cmpKs] at g
 | x::xs,y::ys,z::zs,h,g=>by
   simp only [cmpKs] at h g ⊢
   cases e:ax x y with
   | gt=>rw [e] at h;cases h
   | eq =>
     have:=gY x y e;subst this;rw [e] at h
     cases e2:ax x z with
     | gt=>rw [e2] at g;cases g
     | lt=>rfl
     | eq=>rw [e2] at g;exact cmpKs_trans xs ys zs h g
   | lt =>
     cases e2:ax y z with
     | gt=>rw [e2] at g;cases g
     | lt=>rw [jB x y z e e2];rfl
     | eq =>
       have:=gY y z e2;subst this;rw [e];rfl
end
noncomputable def ltK (a b:Ky):Bool:=ax a b == .lt
noncomputable def oD (a b:List Ky):Bool:=cmpKs a b == .lt
theorem y8 (a b:Ky) (h:ltK a b=true):ltK b a=false:=by
 unfold ltK at h ⊢;rw [cX a b,(by simpa using h:ax a b = .lt)];rfl
theorem lK (a b:Ky) (h:ltK a b=false) (g:ltK b a=false):a=b:=by
 unfold ltK at h g;rw [cX a b] at g;apply gY
 cases e:ax a b with
 | eq=>rfl
 | lt=>rw [e] at h;cases h
 | gt=>rw [e] at g;cases g
theorem AB (a b c:Ky) (h:ltK a c=true):ltK a b=true∨ltK b c=true:=by
 cases e:ltK a b with
 | true=>exact .inl rfl
 | false =>
   right
   cases e2:ltK b a with
   | false=>rw [lK a b e e2] at h;exact h
   | true =>
     unfold ltK at h e2 ⊢;rw [jB b a c (by simpa using e2) (by simpa using h)];rfl
theorem vm (x y:Ky) (xs ys:List Ky):oD (x::xs) (y::ys)=if (!ltK x y && !ltK y x)=true then oD xs ys else ltK x y:=by
 unfold oD ltK;rw [cX x y];simp only [cmpKs]
 cases ax x y <;> simp
mutual
noncomputable def toK:Iz->Ky
 | .int i => .int i
 | .tuple xs => .tup (toKs xs)
 | _ => .int 0
noncomputable def toKs:List Iz->List Ky
 | [] => []
 | x::xs=>toK x::toKs xs
end
inductive Cmpb:Iz->Iz->Prop where
 | int (a b:Int):Cmpb (.int a) (.int b)
 | nil (ys:List Iz):Cmpb (.tuple []) (.tuple ys)
 | nil' (xs:List Iz):Cmpb (.tuple xs) (.tuple [])
 | cons {x y:Iz} {xs ys:List Iz}:Cmpb x y->Cmpb (.tuple xs) (.tuple ys)->Cmpb (.tuple (x::xs)) (.tuple (y::ys))
theorem Cmpb.eqv {x y:Iz} (h:Cmpb x y):IA x y=(!ltK (toK x) (toK y) && !ltK (toK y) (toK x)):=by
 have g:∀ {x y:Iz},Cmpb x y->IA x y=(ax (toK x) (toK y) == .eq):=by
  intro x y h
  induction h with
  | int a b =>
    simp only [IA,toK,ax]
    by_cases h1:a < b
    ·rw [if_pos h1];simp;lia
    ·by_cases h2:a=b
     ·rw [if_neg h1,if_pos h2];simp [h2]
     ·rw [if_neg h1,if_neg h2];simp;lia
  | nil ys=>cases ys <;> simp [IA,JJ,toK,toKs,ax,cmpKs]
  | nil' xs=>cases xs <;> simp [IA,JJ,toK,toKs,ax,cmpKs]
  | @cons x y xs ys h1 h2 ih1 j =>
   simp only [IA] at j ⊢;simp only [JJ,toK,toKs,ax,cmpKs] at j ⊢;rw [ih1,j]
   cases ax (toK x) (toK y) <;> simp
 rw [g h];unfold ltK;rw [cX (toK x) (toK y)]
 cases ax (toK x) (toK y) <;> rfl
section
variable {prog:Hu} {w:HW} {A:Ib} {E:h7->D0->Prop} {s:D0}
theorem trd {b:Bool} {Q:Bool->D0->Prop} (q:Q b s):Hd (Hl prog w) A (truthOfDropped (.bool b)) Q E s:=by
 unfold truthOfDropped
 wp_walk
 exact q
theorem gZ (a b:Int):ltK (.int a) (.int b)=decide (a < b):=by
 simp only [ltK,ax]
 by_cases h:a < b
 ·simp [h]
 ·by_cases h2:a=b <;> simp [h,h2]
theorem vp {a b:Int} {t u:Tok} {Q:h7->D0->Prop} (q:Q (.bool (decide (a < b))) s):Hd (Hl prog w) A (Qw .Lt (.int a t) (.int b u)) Q E s :=
 wpAny_richCompare_same (T := "int") rfl rfl F.slot_int_lt (call_int_lt ⟨by simp,q⟩)
noncomputable def cg:List Iz->List Iz->Option Bool
 | x::xs,y::ys=>if IA x y=true then cg xs ys else some (ltK (toK x) (toK y))
 | _,_=>none
theorem iI:∀ {xs ys:List Iz},Cmpb (.tuple xs) (.tuple ys)->ltK (toK (.tuple xs)) (toK (.tuple ys))=match cg xs ys with | some b=>b | none=>decide (xs.length < ys.length)
 | [],[],_=>rfl
 | [],_::_,_=>by simp [cg,toK,toKs,ltK,ax,cmpKs]
 | _::_,[],_=>by simp [cg,toK,toKs,ltK,ax,cmpKs]
 | x::xs,y::ys,h=>by
   cases h with
   | cons h1 h2 =>
     have ih:=iI h2;have e:∀ a b:List Ky,ltK (.tup a) (.tup b)=oD a b:=fun a b=>by simp [ltK,oD,ax]
     simp only [toK,toKs,e] at ih ⊢;rw [vm, <- h1.eqv];simp only [cg]
     split
     ·rw [ih];simp
     ·rfl
noncomputable def cv {α β:Type} (M:LO) (A:Ib) (E:h7->D0->Prop) (f : α -> β -> Sem (ForInStep β)) (Q : β -> D0->Prop):List α -> β -> D0->Prop
 | [],c,s=>Q c s
 | x::xs,c,s=>Hd M A (f x c) (fun r s'=>match r with | .done c'=>Q c' s' | .yield c'=>cv M A E f Q xs c' s') E s
theorem fK {α β:Type} {M:LO} {f : α -> β -> Sem (ForInStep β)} {Q : β -> D0->Prop}:∀ {l:List α} {c : β} {s:D0},cv M A E f Q l c s->Hd M A (forIn l c f) Q E s
 | [],c,s,h=>by rw [LB];exact tv h
 | x::xs,c,s,h=>by
   rw [Jx];refine gV (Jf h (fun r s' j => ?_) fun _ _ z=>z)
   cases r with
   | done c'=>exact tv j
   | yield c'=>exact fK j
theorem bS {h:Heap}:∀ {vs:List h7} {xs:List Iz} {as:List Addr},OE h vs xs as->vs.length=xs.length
 | _,_,_, .nil=>rfl
 | _,_,_, .cons _ r=>by simp [bS r]
theorem iJ {α β:Type} {M:LO} {n:Nat} {f : α -> Option β × Unit->Sem (ForInStep (Option β × Unit))} {g:Bool -> β} {pr : α -> h7×h7} {Q:Option β × Unit->D0->Prop} :
 ∀ {l:List α} {vs us:List h7} {xs ys:List Iz} {as bs:List Addr},l.map pr=vs.zip us->OE s.heap vs xs as->OE s.heap us ys bs->Cmpb (.tuple xs) (.tuple ys)->IE xs=true->IE ys=true->JA xs<=n ->
  (∀ (z : α) (x y:h7) (d e:Iz) (as bs:List Addr) (R:ForInStep (Option β × Unit)->D0->Prop),z∈l->pr z=(x,y)->LF s.heap x d as->LF s.heap y e bs->Cmpb d e->d.canLay0=true->e.canLay0=true->d.depth<=n ->
   R (if IA d e=true then .yield (none,()) else .done (some (g (ltK (toK d) (toK e))),())) s->Hd M A (f z (none,())) R E s) ->
  Q ((cg xs ys).map g,()) s->cv M A E f Q l (none,()) s
 | [],vs,us,xs,ys,as,bs,e,j,B,F,_,_,_,_,q=>by
  have h1:=bS j;have h2:=bS B;have:vs=[]∨us=[]:=by
   cases vs with
   | nil=>exact .inl rfl
   | cons v vs=>cases us with
     | nil=>exact .inr rfl
     | cons u us=>simp at e
  have e2:cg xs ys=none:=by
   rcases this with rfl | rfl
   ·cases xs with
    | nil=>simp [cg]
    | cons x xs=>simp at h1
   ·cases ys with
    | nil=>cases xs <;> simp [cg]
    | cons y ys=>simp at h2
  rw [e2] at q;exact q
 | z::l,vs,us,xs,ys,as,bs,e,j,B,F,lx,ly,hd,hf,q=>by
   cases j with
   | nil=>simp at e
   | cons rx j =>
     cases B with
     | nil=>simp at e
     | cons ry B =>
       simp only [Hs,List.zip_cons_cons,QH] at e;simp only [IE,z4] at lx ly;simp only [JA] at hd
       cases F with
       | cons G J =>
         simp only [cv];refine hf z _ _ _ _ _ _ _ (by simp) e.1 rx ry G lx.1 ly.1 (by lia) ?_
         simp only [cg] at q
         split at q
         ·next h =>
          rw [if_pos h];exact iJ e.2 j B J lx.2 ly.2 (by lia) (fun z x y d e as bs R L=>hf z x y d e as bs R (by simp [L])) q
         ·next h =>
          rw [if_neg h];exact q
def EC (n:Nat):Prop := ∀ (prog:Hu) (w:HW) (A:Ib) (s:D0) (a b:h7) (d e:Iz) (as bs:List Addr) (E:h7->D0->Prop) (Q:h7->D0->Prop),d.depth<=n->Cmpb d e->LF s.heap a d as->LF s.heap b e bs->d.canLay0=true->e.canLay0=true->A.units+n+1 < JH ->
 Q (.bool (ltK (toK d) (toK e))) s->Hd (Hl prog w) A (Qw .Lt a b) Q E s
theorem DR:∀ n,EC n:=by
 intro n
 induction n with
 | zero =>
   intro prog w A s a b d e as bs E Q hd z ra rb ld le Y q
   cases z with
   | int i j =>
     cases ra;cases rb
     exact vp (by rw [<- gZ];exact q)
   | nil ys=>simp [Kk] at hd
   | nil' xs=>simp [Kk] at hd
   | cons _ _=>simp [Kk] at hd
 | succ n ih =>
   intro prog w A s a b d e as bs E Q hd z ra rb ld le Y q;have tup:∀ xs ys,d = .tuple xs->e = .tuple ys->Hd (Hl prog w) A (Qw .Lt a b) Q E s:=by
    rintro xs ys rfl rfl
    cases ra with
    | tuple h1 h2 Z G =>
      cases rb with
      | tuple g1 g2 g3 J =>
        rename_i l ol vl nl p ob vb nb;have tl:s.TypeIs (.ref l) "tuple" := ⟨_,h1,h2⟩;have tb:s.TypeIs (.ref p) "tuple" := ⟨_,g1,g2⟩;refine MK tl tb QI (HX QI tl F.entry_tuple_lt ?_ (F.args_tuple_lt_2 _ _)) (by lia)
        unfold Jl.«tuple.__lt__»;refine gV ?_;have L:isSubtype (.type "tuple") (.type "tuple")=pure true:=by rw [LI];kernel_rfl
        wp_walk
        rw [Z]
        wp_walk
        rw [g3];refine tv ?_;refine tv ?_;refine gV (fK (iJ (n:=n) (g:=fun b=>Fin.done (Flow.ret (NT b))) (pr:=id) (List.map_id _) G J z ld le (by simp [Kk] at hd;lia) ?_ ?_))
        ·rintro ⟨x,y⟩ x' y' d e as bs R _ hz rx ry z ld le hd r
         cases hz
         dsimp only;refine gV (Qf d e _ _ _ _ _ _ rx ry ld le ?_ prog w E _ ?_)
         ·show A.units+1+min d.depth e.depth < JH;lia
         ·by_cases B:IA d e=true
          ·rw [if_pos B] at r;rw [B];exact tv r
          ·rw [if_neg B] at r;have B:IA d e=false:=by simpa using B
           rw [B];refine gV (IG (gV (ih prog w _ s x y d e as bs E _ hd z rx ry ld le ?_ ?_)))
           ·show A.units+1+n+1 < JH;lia
           ·exact tv r
        ·have e1:=iI z
         cases e2:cg xs ys with
         | some b =>
           rw [e2] at e1;dsimp only at e1;rw [e1] at q;exact tv ⟨_,rfl,by simp,q⟩
         | none =>
           rw [e2] at e1;dsimp only at e1;rw [e1] at q;have O:=bS G;have U:=bS J;refine tv ⟨_,rfl, ?_, ?_⟩
           ·simp [LN]
           ·simp only [Hw] at O U;simp only [LN];rw [O,U];exact q
   cases z with
   | int i j =>
     cases ra;cases rb
     exact vp (by rw [<- gZ];exact q)
   | nil ys=>exact tup _ _ rfl rfl
   | nil' xs=>exact tup _ _ rfl rfl
   | cons _ _=>exact tup _ _ rfl rfl
end
end Srt
end L2
namespace L2
namespace Srt
open PySem PySem.Spec PyProof.Rows
section
variable {prog:Hu} {w:HW} {A:Ib} {E:h7->D0->Prop} {s:D0}
theorem jC {α β:Type} {M:LO} {f : α -> Sem β} {g : α -> β}:∀ {l:List α} {Q:List β -> D0->Prop},(∀ x∈l, ∀ R : β -> D0->Prop,R (g x) s->Hd M A (f x) R E s)->Q (l.map g) s->Hd M A (l.mapM f) Q E s
 | [],Q,_,q=>by rw [List.mapM_nil];exact tv q
 | x::xs,Q,h,q=>by
   rw [List.mapM_cons];refine gV (h x (by simp) _ (gV (jC (fun y j=>h y (by simp [j])) (tv q))))
theorem eF {α β:Type} {M:LO} {f : α -> Sem β} {g : α -> β} {xs:Array α} {Q:Array β -> D0->Prop} (h:∀ x∈xs.toList, ∀ R : β -> D0->Prop,R (g x) s->Hd M A (f x) R E s) (q:Q (xs.map g) s):Hd M A (xs.mapM f) Q E s:=by
 rw [Array.mapM_eq_mapM_toList];rw [map_eq_pure_bind];refine gV (jC h (tv ?_));have:(xs.toList.map g).toArray=xs.map g:=by
  apply Mf.mp;simp
 rw [this];exact q
theorem lL {a:Addr} {v:h7} {vs:List h7} {o:Obj} {n:Nat} (h1:s.heap.get? a=some o) (h2:o.cls = .type "tuple") (j:o.data = .seq (v::vs).toArray n) {Q:Option h7->D0->Prop} (q:Q (some v) s):Hd (Hl prog w) A (firstOfTuple' (.ref a)) Q E s:=by
 unfold firstOfTuple';have ty:s.TypeIs (.ref a) "tuple" := ⟨_,h1,h2⟩
 wp_walk
 rw [j];refine tv ?_;refine tv ?_;exact tv q
theorem AC {a:Addr} {o:Obj} {T:h7} (h1:s.heap.get? a=some o) (h2:o.cls=T) {Q:h7->D0->Prop} (q:Q T s):Hd (Hl prog w) A (typeOf (.ref a)) Q E s:=by
 wp_walk
 rw [h2];exact q
theorem vq {n:Nat} {x y:h7} {d e:Iz} {as bs:List Addr} (j:Cmpb d e) (rx:LF s.heap x d as) (ry:LF s.heap y e bs) (ld:d.canLay0=true) (le:e.canLay0=true) (hd:d.depth<=n) (z:A.units+n+1 < JH) {Q:Bool->D0->Prop} (q:Q (ltK (toK d) (toK e)) s):Hd (Hl prog w) A (oneLt' false x y) Q E s:=by
 rw [oneLt'_eq];exact gV (DR n prog w A s x y d e as bs E _ hd j rx ry ld le z (trd q))
theorem lM {n:Nat} {b:Bool} {x y:h7} {xs ys:List Iz} {as bs:List Addr} (hb:b=true -> ∀ d e,xs.head? = some d->ys.head? = some e->(∃ i,d = .int i) /\ ∃ i,e = .int i)
 (F:Cmpb (.tuple xs) (.tuple ys)) (rx:LF s.heap x (.tuple xs) as) (ry:LF s.heap y (.tuple ys) bs) (lx:IE xs=true) (ly:IE ys=true) (hd:JA xs<=n) (hu:A.units+n+1 < JH) {Q:Bool->D0->Prop} (q:Q (ltK (toK (.tuple xs)) (toK (.tuple ys))) s) :
 Hd (Hl prog w) A (keyLt' (tuples' b) x y) Q E s:=by
 cases rx with
 | tuple h1 h2 h3 G =>
   cases ry with
   | tuple g1 g2 g3 J =>
     refine gV (PZ h1 h3 ?_);refine gV (PZ g1 g3 ?_);refine gV (fK (iJ (n:=n) (g:=id) (pr:=Prod.fst) (List.zipIdx_map_fst _ _) G J F lx ly hd ?_ ?_))
     ·rintro ⟨⟨x,y⟩,i⟩ x' y' d e as bs R hz hp rx ry F ld le hd r
      cases hp
      dsimp only;refine gV (Qf d e _ _ _ _ _ _ rx ry ld le (by lia) prog w E _ ?_)
      by_cases B:IA d e=true
      ·rw [if_pos B] at r;rw [B];exact tv r
      ·rw [if_neg B] at r;have B:IA d e=false:=by simpa using B
       rw [B];refine gV ?_
       by_cases z:(b&&i==0)=true
       ·rw [z];simp only [z4,beq_iff_eq] at z;obtain ⟨rfl,rfl⟩:=z;have j:=List.mem_zipIdx_iff_getElem?.mp hz;obtain ⟨L,O,t1,U,e1,e2⟩:∃ (L O:Int) (t1 U:Tok),x = .int L t1/\y = .int O U:=by
         generalize hV:NU _=vl at G j;generalize hU:NU _=ul at J j
         cases G with
         | nil=>simp at j
         | cons p1 p2 =>
           cases J with
           | nil=>simp at j
           | cons q1 q2 =>
             simp at j;obtain ⟨⟨L,ei⟩,⟨O,ej⟩⟩:=hb rfl _ _ rfl rfl;subst ei ej
             cases p1;cases q1
             exact ⟨_,_,_,_,j.1.symm,j.2.symm⟩
        subst e1 e2
        cases rx;cases ry
        refine oneLt_int ?_;rw [<- gZ];exact tv r
       ·have z:(b&&i==0)=false:=by simpa using z
        rw [z];exact vq F rx ry ld le hd hu (tv r)
     ·have e1:=iI F
      cases e2:cg xs ys with
      | some b =>
        rw [e2] at e1;dsimp only at e1;rw [e1] at q;exact tv q
      | none =>
        rw [e2] at e1;dsimp only at e1;rw [e1] at q;have Y:=bS G;have Z:=bS J;refine tv ?_;simp only [Hw] at Y Z;rw [Y,Z];exact q
end
end Srt
end L2
namespace L2
namespace Srt
open PySem PySem.Spec PyProof.Rows
structure oE (n:Nat) (ds:List Iz):Prop where
 cmp:∀ d∈ds, ∀ e∈ds,Cmpb d e
 lay:∀ d∈ds,d.canLay0=true/\d.depth<=n
 kind:(∀ d∈ds, ∃ i,d = .int i)∨(∀ d∈ds, ∃ i xs,d = .tuple (.int i::xs))∨(∀ d∈ds, ∃ ys xs,d = .tuple (.tuple ys::xs))
noncomputable def cA (h:Heap):h7->Option h7
 | .ref a=>(h.get? a).bind fun o=>match o.data with | .seq xs _=>xs[0]? | _=>none
 | _=>none
section
variable {prog:Hu} {w:HW} {A:Ib} {E:h7->D0->Prop} {s:D0}
noncomputable def dy (h:Heap) (x:H8):Ky:=toK (J6 h x.1)
def RdL (h:Heap) (vs:List h7) (ds:List Iz):Prop := ∀ v∈vs, ∃ d∈ds, ∃ as,LF h v d as
theorem gm {arr:Array h7} {T:String} (h0 : 0 < arr.size) (h:∀ v∈arr.toList, ∀ R:h7->D0->Prop,R (.type T) s->Hd (Hl prog w) A (typeOf v) R E s) {Q:Option h7->D0->Prop} (q:Q (some (.type T)) s):Hd (Hl prog w) A (oneTypeOnly' arr) Q E s:=by
 rw [oneTypeOnly'_eq];refine gV (eF (g:=fun _=>ID T) h ?_);have e:(Mg (fun _=>ID T) arr)[0]? = some (ID T):=by
  rw [Array.getElem?_map,HM h0];rfl
 rw [e];dsimp only;have e2:((Mg (fun _=>ID T) arr).all fun x=>x==ID T)=true:=by
  rw [Q0];intro i hi;simp
 rw [e2];exact tv q
theorem sL {n:Nat} {kd:Lb} {vs:List h7} {ds:List Iz} (j:RdL s.heap vs ds) (hs:oE n ds)
 (h:∀ (x y:h7) (d e:Iz) (as bs:List Addr) (E:h7->D0->Prop) (Q:Bool->D0->Prop),d∈ds->e∈ds->LF s.heap x d as->LF s.heap y e bs->Q (ltK (toK d) (toK e)) s->Hd (Hl prog w) A (keyLt' kd x y) Q E s) :
 Cm prog w A s kd (fun x=>x.1∈vs) (fun x y=>ltK (dy s.heap x) (dy s.heap y)) where
 asym:=fun x y=>y8 _ _
 neg:=fun x y z=>AB _ _ _
 run:=fun x y E Q hx B q=>by
  obtain ⟨d,hd,as,ra⟩:=j _ hx;obtain ⟨e,he,bs,rb⟩:=j _ B;have e1:=JS (hs.lay d hd).1 ra;have e2:=JS (hs.lay e he).1 rb;unfold dy at q;rw [e1,e2] at q;exact h _ _ d e as bs E Q hd he ra rb q
theorem oF {h:Heap} {vs:List h7} (j:∀ v∈vs, ∃ u,cA h v=some u):((vs.toArray.map (cA h)).all fun x=>x.isSome)=true:=by
 rw [Q0];intro i hi;simp at hi;obtain ⟨u,q⟩:=j vs[i] (Md hi);simp [q]
theorem vt {h:Heap} {vs:List h7} {x:h7} (hx:x∈(QJ id (vs.toArray.map (cA h))).toList):∃ v∈vs,cA h v=some x:=by
 simp at hx;exact hx
theorem vw {h:Heap} {v:h7} {vs:List h7} {u:h7} (j:cA h v=some u) : 0 < (QJ id ((v::vs).toArray.map (cA h))).size:=by
 rw [<- Hw];simp [j]
theorem lN {h:Heap} {v:h7} {d:Iz} {xs:List Iz} {as:List Addr} (r:LF h v (.tuple (d::xs)) as):∃ a o u us n bs,v = .ref a/\h.get? a=some o/\o.cls = .type "tuple" /\ o.data = .seq (u::us).toArray n/\LF h u d bs:=by
 cases r with
 | @tuple a o vs n xs as h1 h2 j h4 =>
  generalize q:vs.toList=vl at h4
  cases h4 with
  | @cons u us _ _ bs _ p1 p2=>exact ⟨_,_,u,us,n,bs,rfl,h1,h2,by rw [j];congr 1;apply Mf.mp;simpa using q,p1⟩
theorem DS {n:Nat} {v:h7} {vs:List h7} {ds:List Iz} (U:RdL s.heap (v::vs) ds) (hs:oE n ds) (z:A.units+n+1 < JH) :
 ∃ kd,(∀ (E:h7->D0->Prop) (Q:Lb->D0->Prop),Q kd s->Hd (Hl prog w) A (keyKind' (v::vs).toArray) Q E s)/\Cm prog w A s kd (fun x=>x.1∈v::vs) (fun x y=>ltK (dy s.heap x) (dy s.heap y)):=by
 rcases hs.kind with G | G | G
 ·refine ⟨oneType',fun E Q q => ?_,sL U hs fun x y d e as bs E Q hd he ra rb q => ?_⟩
  ·have hint:∀ u∈v::vs, ∃ i t,u = .int i t:=fun u z=>by
    obtain ⟨d,hd,as,ra⟩:=U u z;obtain ⟨i,rfl⟩:=G d hd
    cases ra
    exact ⟨_,_,rfl⟩
   rw [Qx];refine gV (eF (g:=fun _=>(none:Option h7)) (fun u z R r => ?_) ?_)
   ·obtain ⟨i,t,rfl⟩:=hint u (by simpa using z)
    rw [firstOfTuple'_int];exact tv r
   ·have e1:((Mg (fun _=>(none:Option h7)) (v::vs).toArray).all fun x=>x.isSome)=false:=by
     simp
    rw [e1];have e2:((Mg (fun _=>(none:Option h7)) (v::vs).toArray)[0]?.bind id).isSome=false:=by simp
    simp only [e2,IY,if_false];refine gV (gm (T := "int") (by simp) (fun u z R r => ?_) ?_)
    ·obtain ⟨i,t,rfl⟩:=hint u (by simpa using z)
     exact tv r
    ·exact tv q
  ·obtain ⟨i,rfl⟩:=G d hd;obtain ⟨j,rfl⟩:=G e he
   cases ra;cases rb
   rw [keyLt'_oneType];exact oneLt_int (by rw [<- gZ];exact q)
 ·refine ⟨tuples' true,fun E Q q => ?_,sL U hs fun x y d e as bs E Q hd he ra rb q => ?_⟩
  ·have hf:∀ u∈v::vs, ∃ a o i t us n,u = .ref a/\s.heap.get? a=some o/\o.cls = .type "tuple" /\ o.data = .seq (.int i t::us).toArray n:=fun u z=>by
    obtain ⟨d,hd,as,ra⟩:=U u z;obtain ⟨i,xs,rfl⟩:=G d hd;obtain ⟨a,o,Z,us,n,bs,e1,e2,J,F,L⟩:=lN ra
    cases L
    exact ⟨a,o,_,_,us,n,e1,e2,J,F⟩
   have B:∀ u∈v::vs, ∃ i t,cA s.heap u=some (.int i t):=fun u z=>by
    obtain ⟨a,o,i,t,us,n,rfl,e2,J,F⟩:=hf u z;exact ⟨i,t,by simp [cA,e2,F]⟩
   rw [Qx];refine gV (eF (g:=cA s.heap) (fun u z R r => ?_) ?_)
   ·obtain ⟨a,o,i,t,us,n,rfl,e2,J,F⟩:=hf u (by simpa using z)
    refine lL e2 J F ?_;simpa [cA,e2,F] using r
   ·rw [oF (fun u z=>let ⟨i,t,e⟩:=B u z; ⟨_,e⟩)];refine gV (IG ?_);obtain ⟨i0,t0,e0⟩:=B v (by simp)
    refine gV (gm (T := "int") (vw e0) (fun u z R r => ?_) ?_)
    ·obtain ⟨u',O,e⟩:=vt z;obtain ⟨i,t,e'⟩:=B u' O;rw [e'] at e;cases e;exact tv r
    ·exact tv q
  ·obtain ⟨i,xs,rfl⟩:=G d hd;obtain ⟨j,ys,rfl⟩:=G e he;have l1:=hs.lay _ hd;have l2:=hs.lay _ he;refine lM (n:=n) (fun _ d e hd he => ?_) (hs.cmp _ hd _ he) ra rb (by simpa [LJ] using l1.1) (by simpa [LJ] using l2.1) (by have:=l1.2;simp [Kk] at this;lia) z q
   simp at hd he;subst hd he;exact ⟨⟨_,rfl⟩,_,rfl⟩
 ·refine ⟨tuples' false,fun E Q q => ?_,sL U hs fun x y d e as bs E Q hd he ra rb q => ?_⟩
  ·have hf:∀ u∈v::vs, ∃ a o b ob us n,u = .ref a/\s.heap.get? a=some o/\o.cls = .type "tuple" /\ o.data = .seq (.ref b::us).toArray n/\s.heap.get? b=some ob/\ob.cls = .type "tuple" := fun u z=>by
    obtain ⟨d,hd,as,ra⟩:=U u z;obtain ⟨ys,xs,rfl⟩:=G d hd;obtain ⟨a,o,Z,us,n,bs,e1,e2,J,F,L⟩:=lN ra
    cases L with
    | tuple h1 h2 h3 h4=>exact ⟨a,o,_,_,us,n,e1,e2,J,F,h1,h2⟩
   have B:∀ u∈v::vs, ∃ b ob,cA s.heap u=some (.ref b)/\s.heap.get? b=some ob/\ob.cls = .type "tuple" := fun u z=>by
    obtain ⟨a,o,b,ob,us,n,rfl,e2,J,F,L,Y⟩:=hf u z;exact ⟨b,ob,by simp [cA,e2,F],L,Y⟩
   rw [Qx];refine gV (eF (g:=cA s.heap) (fun u z R r => ?_) ?_)
   ·obtain ⟨a,o,b,ob,us,n,rfl,e2,J,F,L,Y⟩:=hf u (by simpa using z)
    refine lL e2 J F ?_;simpa [cA,e2,F] using r
   ·rw [oF (fun u z=>let ⟨i,t,e,_⟩:=B u z; ⟨_,e⟩)];refine gV (IG ?_);obtain ⟨i0,t0,e0,_⟩:=B v (by simp)
    refine gV (gm (T := "tuple") (vw e0) (fun u z R r => ?_) ?_)
    ·obtain ⟨u',O,e⟩:=vt z;obtain ⟨b,ob,e',L,Y⟩:=B u' O;rw [e'] at e;cases e;exact AC L Y r
    ·exact tv q
  ·obtain ⟨zs,xs,rfl⟩:=G d hd;obtain ⟨zs',ys,rfl⟩:=G e he;have l1:=hs.lay _ hd;have l2:=hs.lay _ he;exact lM (n:=n) (fun h=>by cases h) (hs.cmp _ hd _ he) ra rb (by simpa [LJ] using l1.1) (by simpa [LJ] using l2.1) (by have:=l1.2;simp [Kk] at this;lia) z q
end
end Srt
end L2
namespace L2
namespace Srt
open PySem PySem.Spec PyProof.Rows
inductive Pl:Iz->Prop where
 | int (i:Int):Pl (.int i)
 | tup (xs:List Iz):(∀ x∈xs,Pl x)->Pl (.tuple xs)
theorem bu {h h':Heap} (k:∀ b o,h.get? b=some o->o.cls = .type "tuple" -> h'.get? b=some o) {d:Iz} (p:Pl d):∀ {v:h7} {as:List Addr},LF h v d as->LF h' v d as:=by
 induction p with
 | int i=>intro v as r;cases r;exact .int _ _
 | tup xs hx ih =>
   intro v as r
   cases r with
   | tuple h1 h2 q z =>
     refine .tuple (k _ _ h1 h2) h2 q ?_;have g:∀ (xs:List Iz),(∀ x∈xs, ∀ {v:h7} {as:List Addr},LF h v x as->LF h' v x as) -> ∀ (vs:List h7) (as:List Addr),OE h vs xs as->OE h' vs xs as:=by
      intro xs
      induction xs with
      | nil=>intro _ vs as r;cases r;exact .nil
      | cons x xs ihx =>
        intro j vs as r
        cases r with
        | cons p1 p2=>exact .cons (j x (by simp) p1) (ihx (fun y B=>j y (by simp [B])) _ _ p2)
     exact g xs ih _ _ z
section
variable {prog:Hu} {w:HW} {A:Ib} {E:h7->D0->Prop} {s:D0}
theorem AD {cap:Nat} (S:gX cap) {m:Nat} {a:Addr} {vs:List h7} {n:Nat} {ds:List Iz} (ha:s.heap.get? a=some (Qg "list" vs.toArray n)) (Z:RdL s.heap vs ds) (hs:oE m ds) (hp:∀ d∈ds,Pl d) (hl:vs.length<=GX) (EN:vs.length<=cap) (hu:A.units+m+1 < JH) {Q:PySem.Fin->D0->Prop}
 (q:∀ (h':Heap) (out:List h7) (n':Nat),(∀ b o,b≠a->s.heap.get? b=some o->h'.get? b=some o)->h'.get? a=some (Qg "list" out.toArray n')->out.Perm vs->out.Pairwise (fun x y=>ltK (toK (J6 s.heap y)) (toK (J6 s.heap x))=false)->Q (.done (.ret .none)) { s with heap:=h' }) :
 Hd (Hl prog w) A (Jl.«list.sort» ⟨[.ref a],[]⟩) Q E s:=by
 rw [list_sort_plain];refine gV (PZ ha rfl ?_);refine gV (Mj ha rfl ?_ (by simpa using hl) (by simp))
 have g1:=Lh ha (fun _ => #[]);generalize EO:s.heap.update a (K1 fun _ => #[])=h1 at g1;generalize (if ((#[]:Array h7).size==vs.toArray.size)=true then n else n+1)=n1 at g1
 refine gV (Qy g1 rfl ?_);refine gV (N1 ?_ (by simpa using hl))
 refine gV (Nx ?_ (by simp))
 refine Ii ?_;dsimp only;generalize O:({ heap:=(h1.push { cls:=ID "tuple",data:=Ml vs.toArray.toList.toArray }).push { cls:=ID "list",data:=Ml [].toArray },gens:=s.gens,drawn:=s.drawn,toks:=s.toks,os:=s.os }:D0)=s3;have g3:s3.heap.get? a=some (Qg "list" #[] n1):=by
  rw [<- O];exact q7 _ (q7 _ g1)
 have keep:∀ b o,b≠a->s.heap.get? b=some o->s3.heap.get? b=some o:=fun b o G J=>by
  rw [<- O, <- EO];exact q7 _ (q7 _ (by rw [J9 _ _ _ _ G];exact J))
 have keepT:∀ b o,s.heap.get? b=some o->o.cls = .type "tuple" -> s3.heap.get? b=some o:=fun b o G hc=>keep b o (fun z=>by
  rw [z,ha] at G;cases G;simp at hc) G
 have EQ:RdL s3.heap vs ds:=fun v hv=>by
  obtain ⟨d,hd,as,r⟩:=Z v hv;exact ⟨d,hd,as,bu keepT (hp d hd) r⟩
 have same:∀ v∈vs,J6 s3.heap v=J6 s.heap v:=fun v hv=>by
  obtain ⟨d,hd,as,r⟩:=Z v hv;rw [JS (hs.lay d hd).1 r,JS (hs.lay d hd).1 (bu keepT (hp d hd) r)]
 have q:∀ (h':Heap) (out:List h7) (n':Nat),(∀ b o,b≠a->s.heap.get? b=some o->h'.get? b=some o)->h'.get? a=some (Qg "list" out.toArray n')->out.Perm vs->out.Pairwise (fun x y=>ltK (toK (J6 s.heap y)) (toK (J6 s.heap x))=false)->Q (.done (.ret .none)) { s3 with heap:=h' }:=by
  rw [<- O];exact q
 have ER:∀ A':Ib,A'.units=A.units->True:=fun _ _=>trivial;clear O
 let Good:Ih->Prop:=fun st'=>JC st'=none/\(HV st').toList.Perm (vs.zip vs)/\(HV st').toList.Pairwise (fun x y=>ltK (dy s3.heap y) (dy s3.heap x)=false)
 by_cases F:vs.toArray.size < 2
 ·rw [if_pos F,if_pos F];refine gV (tv ?_);have B:vs.length < 2:=by simpa using F
  have run:Hd (Hl prog w) A ((pure ():StateT Ih Sem Unit).run (Mc general' (vs.toArray.zip vs.toArray) #[] 7 none)) (fun r s'=>s'=s3/\Good r.2) E s3:=by
   refine tv ⟨rfl,rfl, ?_, ?_⟩
   ·show (vs.toArray.zip vs.toArray).toList.Perm _;simp
   ·show List.Pairwise _ (vs.toArray.zip vs.toArray).toList
    match vs,B with
    | [],_=>simp
    | [x],_=>simp
  refine gV (Jf (Q:=fun r s'=>s'=s3/\Good r.2) run (fun r s' Z => ?_) (fun _ _ z=>z));obtain ⟨rfl,L,j,U⟩:=Z;obtain ⟨u,st'⟩:=r;refine gV (Qy g3 rfl ?_);refine gV (Mj g3 rfl ?_ (by simp) (by simp only [Array.size_map];have:=j.length_eq;simp at this;rw [this];lia))
  dsimp only at L;rw [L];simp only [bne_self_eq_false,IY,if_false];refine tv ?_;have gq:=Lh g3 (fun _=>Mg (fun x=>x.snd) (HV st'));have eo:Mg (fun x=>x.snd) (HV st')=((HV st').toList.map fun x=>x.snd).toArray:=by apply Mf.mp;simp
  refine q _ ((HV st').toList.map fun x=>x.snd) _ (fun b o G J => ?_) (by rw [gq,eo]) ?_ ?_
  ·rw [J9 _ _ _ _ G];exact keep b o G J
  ·have h8:=j.map (fun x:H8=>x.snd);rw [Qh (by simp)] at h8
   exact h8
  ·rw [J8];refine U.imp_of_mem fun {x y} hx hy hxy => ?_;have mx:=MM (j.mem_iff.mp hx);have my:=MM (j.mem_iff.mp hy);unfold dy at hxy;rw [mx.1,my.1,same y.2 (by rw [<- my.1];exact my.2),same x.2 (by rw [<- mx.1];exact mx.2)] at hxy
   exact hxy
 ·rw [if_neg F,if_neg F];have B : 2<=vs.length:=by simpa using F
  obtain ⟨v0,Y,EJ⟩:∃ v0 Y,vs=v0::Y:=by
   match vs,B with
   | v::t,_=>exact ⟨v,t,rfl⟩
  obtain ⟨kd,EK,EL⟩:=DS (prog:=prog) (w:=w) (A:=A) (v:=v0) (vs:=Y) (by rw [<- EJ];exact EQ) hs hu
  rw [<- EJ] at EK EL;refine gV (EK E _ ?_);have run:Hd (Hl prog w) A (sortRuns'.run (Mc kd (vs.toArray.zip vs.toArray) #[] 7 none)) (fun r s'=>s'=s3/\Good r.2) E s3:=by
   have ez:(HV (Mc kd (vs.toArray.zip vs.toArray) #[] 7 none)).toList=vs.zip vs:=by
    show (vs.toArray.zip vs.toArray).toList=_;simp
   have h9:wpS (Hl prog w) A E s3 sortRuns' (fun _ st'=>Good st') (Mc kd (vs.toArray.zip vs.toArray) #[] 7 none):=by
    have EM:(HV (Mc kd (vs.toArray.zip vs.toArray) #[] 7 none)).size=vs.length:=by rw [<- Hw,ez];simp
    refine S _ _ _ _ _ _ _ _ EL (Mc kd (vs.toArray.zip vs.toArray) #[] 7 none) _ rfl rfl rfl (fun x hx => ?_) (by rw [EM];exact B) (by rw [EM];exact EN) fun st' p1 p2 p3=>⟨p3,by rw [ez] at p1;exact p1,p2⟩
    rw [ez] at hx;exact (MM hx).2
   exact h9
  refine gV (Jf (Q:=fun r s'=>s'=s3/\Good r.2) run (fun r s' Z => ?_) (fun _ _ z=>z));obtain ⟨rfl,L,j,U⟩:=Z;obtain ⟨u,st'⟩:=r;refine gV (Qy g3 rfl ?_);refine gV (Mj g3 rfl ?_ (by simp) (by simp only [Array.size_map];have:=j.length_eq;simp at this;rw [this];lia))
  dsimp only at L;rw [L];simp only [bne_self_eq_false,IY,if_false];refine tv ?_;have gq:=Lh g3 (fun _=>Mg (fun x=>x.snd) (HV st'));have eo:Mg (fun x=>x.snd) (HV st')=((HV st').toList.map fun x=>x.snd).toArray:=by apply Mf.mp;simp
  refine q _ ((HV st').toList.map fun x=>x.snd) _ (fun b o G J => ?_) (by rw [gq,eo]) ?_ ?_
  ·rw [J9 _ _ _ _ G];exact keep b o G J
  ·have h8:=j.map (fun x:H8=>x.snd);rw [Qh (by simp)] at h8
   exact h8
  ·rw [J8];refine U.imp_of_mem fun {x y} hx hy hxy => ?_;have mx:=MM (j.mem_iff.mp hx);have my:=MM (j.mem_iff.mp hy);unfold dy at hxy;rw [mx.1,my.1,same y.2 (by rw [<- my.1];exact my.2),same x.2 (by rw [<- mx.1];exact mx.2)] at hxy
   exact hxy
theorem sM (u:h7):Qb "sorted" ⟨[u],[]⟩=pure ():=by kernel_rfl
theorem vx {cap:Nat} (S:gX cap) {m:Nat} {u:h7} {ds:List Iz} {C:Heap->List h7->Prop} {Q:h7->D0->Prop} (hu:A.units+m+3 < JH) (hs:oE m ds) (F:∀ d∈ds,Pl d)
 (G:∀ (E:h7->D0->Prop) (R:List h7->D0->Prop),(∀ (h':Heap) (vs':List h7) (t':Nat),C h' vs'->RdL h' vs' ds->vs'.length<=GX/\vs'.length<=cap->s.toks<=t'->R vs' { s with heap:=h',toks:=t' })->Hd (Hl prog w) A.in1 (collect u) R E s)
 (q:∀ (h1 h2:Heap) (vs out:List h7) (n' t':Nat),C h1 vs->(∀ b o,h1.get? b=some o->h2.get? b=some o)->h2.get? h1.objs.size=some (Qg "list" out.toArray n')->out.Perm vs->out.Pairwise (fun x y=>ltK (toK (J6 h2 y)) (toK (J6 h2 x))=false)->RdL h2 out ds->vs.length<=GX->s.toks<=t'->Q (.ref h1.objs.size) { s with heap:=h2,toks:=t' }) :
 Hd (Hl prog w) A (call (.builtin "sorted") [u]) Q E s:=by
 refine wpAny_call (codeAny_call_builtin plain_sorted entry_sorted (JI (sM u) ?_));unfold Builtin.sorted;refine gV (JI (a:=()) (by kernel_rfl) ?_)
 refine gV (G _ _ fun h1 vs t' hC L J ht => ?_);obtain ⟨J,O⟩:=J;refine gV (Nx ?_ J);refine gV (Ii ?_);have U:RdL (h1.push { cls:=ID "list",data:=Ml vs.toArray }) vs ds:=fun v B=>by
  obtain ⟨d,hd,as,r⟩:=L v B;exact ⟨d,hd,as,bu (fun b o z _=>q7 _ z) (F d hd) r⟩
 have ha:(h1.push { cls:=ID "list",data:=Ml vs.toArray }).get? h1.objs.size=some (Qg "list" vs.toArray 0):=GY _ rfl;refine HX slot_list_sort (T := "list") ⟨_,ha,rfl⟩ entry_list_sort ?_ (args_list_sort _);refine AD S (m:=m) ha U hs F J O (by show A.units+1+1+m+1 < JH;lia) fun h2 out n' keep g2 j Y=>⟨_,rfl,tv ?_⟩
 have old:∀ b o,h1.get? b=some o->h2.get? b=some o:=fun b o z=>keep b o (HQ (Hb z)) (q7 _ z);have Z:RdL h2 vs ds:=fun v B=>by
  obtain ⟨d,hd,as,r⟩:=L v B;exact ⟨d,hd,as,bu (fun b o z _=>old b o z) (F d hd) r⟩
 refine q h1 h2 vs out n' t' hC old g2 j ?_ (fun v B=>Z v (j.mem_iff.mp B)) J ht;have same:∀ v∈vs,J6 (h1.push { cls:=ID "list",data:=Ml vs.toArray }) v=J6 h2 v:=fun v B=>by
  obtain ⟨d,hd,as,r⟩:=L v B;rw [JS (hs.lay d hd).1 (bu (fun b o z _=>old b o z) (F d hd) r),JS (hs.lay d hd).1 (bu (fun b o z _=>q7 _ z) (F d hd) r)]
 refine Y.imp_of_mem fun {x y} hx hy hxy => ?_;rw [same y (j.mem_iff.mp hy),same x (j.mem_iff.mp hx)] at hxy;exact hxy
end
end Srt
end L2
namespace L2
namespace It
open PySem PySem.Spec PyProof.Rows
end It
end L2
namespace L2
namespace It
open PySem PySem.Spec PyProof.Rows
end It
end L2
namespace L2
namespace It
open PySem PySem.Spec PyProof.Rows
end It
end L2
namespace L2
open PySem PySem.Spec PyProof.Rows
section
section
variable {P:Hu} {w:HW} {H:Hp} {h:Heap} {a:Addr} {o:HO}
theorem ObjOk.there (x:ObjOk P w H h a o):∃ ob,h.get? a=some ob:=by
 cases o with
 | lst xs=>obtain ⟨_,_,_,_,e⟩:=x;exact ⟨_,e⟩
 | tup xs=>obtain ⟨_,_,_,_,e,_⟩:=x;exact ⟨_,e⟩
 | dK kvs=>obtain ⟨_,_,_,_,o,_,_,e,_⟩:=x;exact ⟨_,e⟩
 | dT kvs=>obtain ⟨_,_,_,_,o,_,_,e,_⟩:=x;exact ⟨_,e⟩
 | set S n=>obtain ⟨o,_,_,_,e,_⟩:=x;exact ⟨_,e⟩
 | ins C dx fs=>obtain ⟨_,_,_,e,_⟩:=x;exact ⟨_,e⟩
 | own y=>obtain ⟨_,e⟩:=x;exact ⟨_,e⟩
 | xd fs=>obtain ⟨_,⟨_,_,_,e,_⟩,_⟩:=x;exact ⟨_,e⟩
 | rng lo hi=>obtain ⟨_,_,_,e⟩:=x;exact ⟨_,e⟩
 | frz ob u=>obtain ⟨e,_⟩:=x;exact ⟨_,e⟩
 | tbl ps=>exact ⟨_,show h.get? a=some _ from x⟩
 | met f y=>exact ⟨_,show h.get? a=some _ from x⟩
 | ext φ => obtain ⟨_,⟨_,e⟩,_⟩:=x;exact ⟨_,e⟩
end
noncomputable def lay (H:Hp) (N:Addr->Option HO):Hp:=fun b=>match N b with | some o=>some o | none=>H b
section
variable {X:Cx} {pins:List (Addr×Obj)} {σ:List (Option V)} {H:Hp} {s:D0} {h':Heap} {N:Addr->Option HO}
theorem AE {b:Addr} {o:HO} (e:N b=some o):lay H N b=some o:=by unfold lay;rw [e]
theorem kA {b:Addr} (e:N b=none):lay H N b=H b:=by unfold lay;rw [e]
theorem Inv.fresh' (I:Inv X pins σ H s) {b:Addr} (e:s.heap.get? b=none):H b=none:=by
 cases q:H b with
 | none=>rfl
 | some o=>obtain ⟨ob,eo⟩:=(I.hok b o q).there;rw [e] at eo;cases eo
theorem Inv.laidN {t':Nat} (I:Inv X pins σ H s) (k:∀ b u,s.heap.get? b=some u->h'.get? b=some u) (j:∀ b o,N b=some o->s.heap.get? b=none) (new:∀ b o,N b=some o->ObjOk X.prog X.w (lay H N) h' b o):Inv X pins σ (lay H N) { s with heap:=h',toks:=t' }:=by
 have old:∀ b u,s.heap.get? b=some u->N b=none:=fun b u e=>by
  cases q:N b with
  | none=>rfl
  | some o=>rw [j b o q] at e;cases e
 have oldH:∀ b o,H b=some o->lay H N b=some o:=fun b o e=>by
  obtain ⟨ob,eo⟩:=(I.hok b o e).there;rw [kA (old b ob eo)];exact e
 refine I.un ⟨fun b u q _ _ _=>k b u q,fun b u q _ _ _=>⟨u.slots,k b u q⟩,fun b u q n _=>by rw [kA (old b u q)];exact n,fun b u q _=>⟨u,k b u q⟩,fun b xs q=>oldH b _ q,fun b u xs q=>oldH b _ q,fun b ps q=>⟨#[],by rw [oldH b _ q];simp⟩⟩ fun b o e => ?_
 cases q:N b with
 | some o'=>rw [AE q] at e;cases e;exact new b o q
 | none =>
   rw [kA q] at e;exact (I.hok b o e).stay (fun c v _ q=>k c v q) (fun c q=>oldH c _ q) fun c xs q=>oldH c _ q
end
namespace Mi
open L2.Srt
inductive Sh where
 | int
 | tup (l:List Sh)
mutual
noncomputable def hs:Sh->D->Bool
 | .int, .int _=>true
 | .tup l, .tup ds=>hss l ds
 | _,_=>false
noncomputable def hss:List Sh->List D->Bool
 | [],[] => true
 | s::l,d::ds=>hs s d&&hss l ds
 | _,_=>false
end
mutual
noncomputable def pd:D->Iz
 | .int i => .int i
 | .tup ds => .tuple (pds ds)
 | _ => .none
noncomputable def pds:List D->List Iz
 | [] => []
 | d::ds=>pd d::pds ds
end
mutual
noncomputable def dep:Sh->Nat
 | .int => 0
 | .tup l=>deps l+1
noncomputable def deps:List Sh->Nat
 | [] => 0
 | s::l=>max (dep s) (deps l)
end
noncomputable def iK:Sh->Bool
 | .int=>true
 | .tup (.int::l)=>decide (deps l<=6)
 | .tup (.tup a::l)=>decide (deps (.tup a::l)<=6)
 | .tup [] => false
noncomputable def kyD (d:D):Ky:=toK (pd d)
mutual
theorem vy:∀ (s:Sh) (x y:D),hs s x=true->hs s y=true->Cmpb (pd x) (pd y)
 | .int, .int a, .int b,_,_=>by simp only [pd];exact .int a b
 | .tup l, .tup a, .tup b,h,g=>by simp only [hs] at h g;simp only [pd];exact hss_cmp l a b h g
 | .int, .int _, .non,_,g=>by simp [hs] at g
 | .int, .int _, .bl _,_,g=>by simp [hs] at g
 | .int, .int _, .str _,_,g=>by simp [hs] at g
 | .int, .int _, .tup _,_,g=>by simp [hs] at g
 | .int, .int _, .con _,_,g=>by simp [hs] at g
 | .int, .int _, .ref _,_,g=>by simp [hs] at g
 | .int, .non,_,h,_=>by simp [hs] at h
 | .int, .bl _,_,h,_=>by simp [hs] at h
 | .int, .str _,_,h,_=>by simp [hs] at h
 | .int, .tup _,_,h,_=>by simp [hs] at h
 | .int, .con _,_,h,_=>by simp [hs] at h
 | .int, .ref _,_,h,_=>by simp [hs] at h
 | .tup _, .non,_,h,_=>by simp [hs] at h
 | .tup _, .bl _,_,h,_=>by simp [hs] at h
 | .tup _, .int _,_,h,_=>by simp [hs] at h
 | .tup _, .str _,_,h,_=>by simp [hs] at h
 | .tup _, .con _,_,h,_=>by simp [hs] at h
 | .tup _, .ref _,_,h,_=>by simp [hs] at h
 | .tup _, .tup _, .non,_,g=>by simp [hs] at g
 | .tup _, .tup _, .bl _,_,g=>by simp [hs] at g
 | .tup _, .tup _, .int _,_,g=>by simp [hs] at g
 | .tup _, .tup _, .str _,_,g=>by simp [hs] at g
 | .tup _, .tup _, .con _,_,g=>by simp [hs] at g
 | .tup _, .tup _, .ref _,_,g=>by simp [hs] at g
theorem hss_cmp:∀ (l:List Sh) (a b:List D),hss l a=true->hss l b=true->Cmpb (.tuple (pds a)) (.tuple (pds b))
 | [],[],[],_,_=>by simp only [pds];exact .nil _
 | [],[],_::_,_,g=>by simp [hss] at g
 | [],_::_,_,h,_=>by simp [hss] at h
 | _::_,[],_,h,_=>by simp [hss] at h
 | _::_,_::_,[],_,g=>by simp [hss] at g
 | s::l,x::a,y::b,h,g=>by
   simp only [hss,z4] at h g;simp only [pds];exact .cons (vy s x y h.1 g.1) (hss_cmp l a b h.2 g.2)
end
mutual
theorem sN:∀ (s:Sh) (x:D),hs s x=true->Pl (pd x)/\(pd x).canLay0=true/\(pd x).depth<=dep s
 | .int, .int a,_=>by simp only [pd];exact ⟨.int a,rfl,by simp [Kk]⟩
 | .tup l, .tup a,h=>by
  simp only [hs] at h;obtain ⟨h1,h2,j⟩:=hss_pl l a h;simp only [pd];exact ⟨.tup _ h1,by simpa [LJ] using h2,by simp [Kk,dep];lia⟩
 | .int, .non,h=>by simp [hs] at h
 | .int, .bl _,h=>by simp [hs] at h
 | .int, .str _,h=>by simp [hs] at h
 | .int, .tup _,h=>by simp [hs] at h
 | .int, .con _,h=>by simp [hs] at h
 | .int, .ref _,h=>by simp [hs] at h
 | .tup _, .non,h=>by simp [hs] at h
 | .tup _, .bl _,h=>by simp [hs] at h
 | .tup _, .int _,h=>by simp [hs] at h
 | .tup _, .str _,h=>by simp [hs] at h
 | .tup _, .con _,h=>by simp [hs] at h
 | .tup _, .ref _,h=>by simp [hs] at h
theorem hss_pl:∀ (l:List Sh) (a:List D),hss l a=true->(∀ x∈pds a,Pl x)/\IE (pds a)=true/\JA (pds a)<=deps l
 | [],[],_=>by simp [pds,IE,JA]
 | [],_::_,h=>by simp [hss] at h
 | _::_,[],h=>by simp [hss] at h
 | s::l,x::a,h=>by
   simp only [hss,z4] at h;obtain ⟨h1,h2,q⟩:=sN s x h.1;obtain ⟨g1,g2,g3⟩:=hss_pl l a h.2;simp only [pds];refine ⟨fun y j => ?_,by simp [IE,h2,g2],by simp [JA,deps];lia⟩
   rcases Ha.mp j with z | z
   ·rw [z];exact h1
   ·exact g1 y z
end
mutual
theorem zj (M:Mem):∀ (s:Sh) (x:D) (n:Nat),hs s x=true->dep s<=n->rb n M x=some (pd x)
 | .int, .int a,n,_,_=>by cases n <;> simp [rb,pd]
 | .tup l, .tup a,n,h,j=>by
  simp only [hs] at h;simp only [dep] at j;obtain ⟨k,rfl⟩:∃ k,n=k+1:=⟨n - 1,by lia⟩
  simp only [rb,pd];rw [hss_rb M l a k h (by lia)];rfl
 | .int, .non,_,h,_=>by simp [hs] at h
 | .int, .bl _,_,h,_=>by simp [hs] at h
 | .int, .str _,_,h,_=>by simp [hs] at h
 | .int, .tup _,_,h,_=>by simp [hs] at h
 | .int, .con _,_,h,_=>by simp [hs] at h
 | .int, .ref _,_,h,_=>by simp [hs] at h
 | .tup _, .non,_,h,_=>by simp [hs] at h
 | .tup _, .bl _,_,h,_=>by simp [hs] at h
 | .tup _, .int _,_,h,_=>by simp [hs] at h
 | .tup _, .str _,_,h,_=>by simp [hs] at h
 | .tup _, .con _,_,h,_=>by simp [hs] at h
 | .tup _, .ref _,_,h,_=>by simp [hs] at h
theorem hss_rb (M:Mem):∀ (l:List Sh) (a:List D) (n:Nat),hss l a=true->deps l<=n->aM (rb n M) a=some (pds a)
 | [],[],_,_,_=>by simp [pds,aM]
 | [],_::_,_,h,_=>by simp [hss] at h
 | _::_,[],_,h,_=>by simp [hss] at h
 | s::l,x::a,n,h,j=>by
   simp only [hss,z4] at h;simp only [deps] at j;simp only [pds,aM];rw [zj M s x n h.1 (by lia),hss_rb M l a n h.2 (by lia)];rfl
end
theorem oG {s:Sh} (h:iK s=true):dep s<=7:=by
 match s,h with
 | .int,_=>simp [dep]
 | .tup (.int::l),h=>simp [iK] at h;simp [dep,deps];lia
 | .tup (.tup a::l),h=>simp only [iK,decide_eq_true_eq] at h;simp only [dep];lia
theorem AF {s:Sh} (h:iK s=true) {xs:List D} (hx:∀ x∈xs,hs s x=true):oE 7 (xs.map pd) /\ ∀ d∈xs.map pd,Pl d:=by
 refine ⟨⟨?_, ?_, ?_⟩, ?_⟩
 ·intro d hd e he;obtain ⟨x,h1,rfl⟩:=Hr.mp hd;obtain ⟨y,h2,rfl⟩:=Hr.mp he;exact vy s x y (hx x h1) (hx y h2)
 ·intro d hd;obtain ⟨x,h1,rfl⟩:=Hr.mp hd;obtain ⟨_,g2,g3⟩:=sN s x (hx x h1);exact ⟨g2,by have:=oG h;lia⟩
 ·match s,h with
  | .int,_ =>
   left
   intro d hd;obtain ⟨x,h1,rfl⟩:=Hr.mp hd;have:=hx x h1
   cases x <;> simp [hs] at this
   exact ⟨_,rfl⟩
  | .tup (.int::l),_ =>
   right;left
   intro d hd;obtain ⟨x,h1,rfl⟩:=Hr.mp hd;have:=hx x h1
   cases x <;> simp [hs] at this
   rename_i ds
   cases ds with
   | nil=>simp [hss] at this
   | cons y ys =>
     simp [hss] at this
     cases y <;> simp [hs] at this
     exact ⟨_,_,rfl⟩
  | .tup (.tup a::l),_ =>
   right;right
   intro d hd;obtain ⟨x,h1,rfl⟩:=Hr.mp hd;have:=hx x h1
   cases x <;> simp [hs] at this
   rename_i ds
   cases ds with
   | nil=>simp [hss] at this
   | cons y ys =>
     simp [hss] at this
     cases y <;> simp [hs] at this
     exact ⟨_,_,rfl⟩
 ·intro d hd;obtain ⟨x,h1,rfl⟩:=Hr.mp hd;exact (sN s x (hx x h1)).1
theorem lP {α β:Type} (f : α -> β):∀ {l m:List β},l.Perm m -> ∀ {t:List α},t.map f=m -> ∃ t':List α,t'.Perm t/\t'.map f=l:=by
 intro l m h
 induction h with
 | nil=>intro t e;exact ⟨[],by rw [List.map_eq_nil_iff.mp e],rfl⟩
 | cons x h ih =>
   intro t e
   cases t with
   | nil=>simp at e
   | cons a t =>
     simp at e;obtain ⟨t',h1,h2⟩:=ih e.2;exact ⟨a::t',h1.cons a,by simp [h2,e.1]⟩
 | swap x y l =>
   intro t e
   match t,e with
   | a::b::t,e =>
     simp at e;exact ⟨b::a::t, .swap _ _ _,by simp [e]⟩
 | trans h1 h2 j q =>
   intro t e;obtain ⟨z,p2,e2⟩:=q e;obtain ⟨t1,p1,e1⟩:=j e2;exact ⟨t1,p1.trans p2,e1⟩
def kB (ys:List D):Prop:=ys.Pairwise fun a b=>ltK (kyD b) (kyD a)=false
theorem qJ {K:Frag} {H:Hp}:∀ {ds:List D} {vs:List V} {us:List h7},RDs K H ds vs->Vals vs us -> ∃ t:List (D×V×h7),t.map (·.1)=ds/\t.map (·.2.1)=vs/\t.map (·.2.2)=us /\ ∀ p∈t,RD K H p.1 p.2.1/\RelV p.2.1 p.2.2
 | [],vs,us,h,g=>by
  cases RDs.nil_iff.mp h
  cases g
  exact ⟨[],rfl,rfl,rfl,fun _ h=>by simp at h⟩
 | d::ds,vs,us,h,g=>by
   obtain ⟨v,r,rfl,h1,h2⟩:=Rl.mp h
   cases g with
   | cons g1 g2 =>
     rename_i u us;obtain ⟨t,e1,e2,j,q⟩:=qJ h2 g2;exact ⟨(d,v,u)::t,by simp [e1],by simp [e2],by simp [j],fun p B=>by
      rcases Ha.mp B with z | z
      ·rw [z];exact ⟨h1,g1⟩
      ·exact q p z⟩
theorem qK {K:Frag} {H:Hp}:∀ {t:List (D×V×h7)},(∀ p∈t,RD K H p.1 p.2.1/\RelV p.2.1 p.2.2)->RDs K H (t.map (·.1)) (t.map (·.2.1))/\Vals (t.map (·.2.1)) (t.map (·.2.2))
 | [],_=>⟨RDs.nil, .nil⟩
 | p::t,h=>by
   obtain ⟨h1,h2⟩:=qK (t:=t) fun q j=>h q (by simp [j])
   exact ⟨RDs.cons (h p (by simp)).1 h1, .cons (h p (by simp)).2 h2⟩
section
variable {X:Cx}
theorem qk {cap:Nat} (S:gX cap) (L:X.A.units+16 < JH) {pins:List (Addr×Obj)} {s:D0} {σ:St} {H:Hp} {Q:VK} (I:Inv X pins σ H s) {M:Mem} (rm:RM X.K M H) {es:List D} {sh:Sh} {vs:List V} {p:Addr} (rvs:RDs X.K H es vs) (hok:iK sh=true) (O:∀ d∈es,hs sh d=true)
 (q:∀ p ys,M p=none->ys.Perm es->kB ys->KE' X.K M H Q (.ref p) (ag M p (.lst ys))) {its:List h7} (hv:Vals vs its) (hl:vs.length<=GX) (EL:vs.length<=cap)
 (U:∀ (E:h7->D0->Prop) (R:List h7->D0->Prop),(∀ (h':Heap) (tk:Nat),(∀ b o,s.heap.get? b=some o->h'.get? b=some o)->s.toks<=tk->R its { s with heap:=h',toks:=tk })->Hd (Hl X.prog X.w) X.A.in1 (collect (.ref p)) R E s) :
 Hd (Hl X.prog X.w) X.A (call (.builtin "sorted") [.ref p]) (EP X pins σ Q) X.xe s:=by
 obtain ⟨hS,J⟩:=AF hok O;have EO:=oG hok;obtain ⟨t,t1,t2,t3,t4⟩:=qJ rvs hv;have Y:∀ pp∈t, ∃ as,LF s.heap pp.2.2 (pd pp.1) as:=fun pp j=>by
  have hm:pp.1∈es:=by rw [<- t1];exact HK j
  exact bR I rm 16 pp.1 (pd pp.1) pp.2.1 pp.2.2 (zj M sh pp.1 16 (O _ hm) (by lia)) (t4 pp j).1 (t4 pp j).2
 have Z:RdL s.heap its (es.map pd):=fun u L=>by
  rw [<- t3] at L;obtain ⟨pp,j,rfl⟩:=Hr.mp L;obtain ⟨as,ra⟩:=Y pp j;exact ⟨pd pp.1,HK (by rw [<- t1];exact HK j),as,ra⟩
 refine vx S (m := 7) (ds:=es.map pd) (C:=fun h' vs'=>vs'=its /\ ∀ b o,s.heap.get? b=some o->h'.get? b=some o) (by lia) hS J (fun E R hR => ?_) fun h1 h2 vs' out n' tk hC old g2 F EJ EQ ER ht => ?_
 ·refine U E R fun h' tk kp EM=>hR h' its tk ⟨rfl,kp⟩ (fun u L => ?_) ⟨by rw [<- hv.length];exact hl,by rw [<- hv.length];exact EL⟩ EM
  obtain ⟨d,hd,as,ra⟩:=Z u L;exact ⟨d,hd,as,bu (fun b o e _=>kp b o e) (J d hd) ra⟩
 ·obtain ⟨rfl,kp⟩:=hC;rw [<- t3] at F;obtain ⟨t',p1,p2⟩:=lP (fun pp:D×V×h7=>pp.2.2) F rfl;have hz:=qK (t:=t') fun pp j=>t4 pp (p1.mem_iff.mp j);have EK:∀ b o,s.heap.get? b=some o->h2.get? b=some o:=fun b o e=>old b o (kp b o e);have z:s.heap.get? h1.objs.size=none:=by
   cases hq:s.heap.get? h1.objs.size with
   | none=>rfl
   | some o=>exact absurd (Hb (kp _ _ hq)) (IT _)
  have EN:=I.fresh' z;have hlen:(t'.map (·.2.1)).length<=GX:=by
   rw [D2,p1.length_eq, <- D2 (f:=fun pp:D×V×h7=>pp.2.1),t2];exact hl
  have I2:=I.laidN (t':=tk) (h':=h2) (N:=fun b=>if b=h1.objs.size then some (.lst (t'.map (·.2.1))) else none) EK (fun b o e=>by
   by_cases B:b=h1.objs.size
   ·rw [B];exact z
   ·rw [if_neg B] at e;cases e) (fun b o e=>by
   by_cases B:b=h1.objs.size
   ·subst B;rw [if_pos rfl] at e;cases e;exact ⟨hlen,out,n',by rw [<- p2];exact hz.2,g2⟩
   ·rw [if_neg B] at e;cases e)
  have eH:lay H (fun b=>if b=h1.objs.size then some (.lst (t'.map (·.2.1))) else none)=upd H h1.objs.size (.lst (t'.map (·.2.1))):=by
   funext b
   unfold lay upd;dsimp only
   by_cases B:b=h1.objs.size
   ·rw [if_pos B,if_pos B]
   ·rw [if_neg B,if_neg B]
  rw [eH] at I2;refine ⟨.ref h1.objs.size,_,I2,rfl, ?_⟩;refine cI rm hz.1 (fun p' n=>q p' _ n ?_ ?_) EN
  ·have:=p1.map (fun pp:D×V×h7=>pp.1);rw [t1] at this;exact this
  ·unfold kB;rw [J8];rw [<- p2,J8] at EJ;refine EJ.imp_of_mem fun {a b} ha B hab => ?_;have rd:∀ pp∈t',J6 h2 pp.2.2=pd pp.1:=fun pp j=>by
    have G:=p1.mem_iff.mp j;obtain ⟨as,ra⟩:=Y pp G;have hm:pp.1∈es:=by rw [<- t1];exact HK G
    exact JS (hS.lay _ (HK hm)).1 (bu (fun b o e _=>EK b o e) (J _ (HK hm)) ra)
   rw [rd a ha,rd b B] at hab;exact hab
end
end Mi
end
end L2
namespace L2
namespace Mi
open PySem PySem.Spec PyProof.Rows L2.Srt
def kC (K:Frag) (H:Hp) (kv:D×D) (e:JL):Prop := ∃ kV vV,RD K H kv.1 kV/\RelV kV e.key/\RD K H kv.2 vV/\RelV vV e.val
theorem qL {K:Frag} {H:Hp} {d:D} {k:Key} (h:RKey d k):RD K H d (kV k):=by
 cases d <;> first
  | exact h.elim
  | (cases h;first | exact Rj.mpr rfl | exact Rt.mpr rfl)
theorem lQ {K:Frag} {H:Hp}:∀ {ds:List D} {ks:List Key},HZ RKey ds ks->RDs K H ds (ks.map kV)
 | _,_, .nil=>RDs.nil
 | _,_, .cons r t=>RDs.cons (qL r) (lQ t)
theorem zk {P:Hu} {w:HW} {K:Frag} {H:Hp}:∀ {kvs:List (D×D)} {ps:List (Key×V)} {vs:List (Key×h7)} {es:List JL},HZ (fun (p:D×D) (q:Key×V)=>RKey p.1 q.1/\RD K H p.2 q.2) kvs ps->KV ps vs->Pairs (aI P w) es vs->HZ (kC K H) kvs es
 | _,_,_,_, .nil, .nil, .nil => .nil
 | _,_,_,_, .cons j t1, .cons z B, .cons h1 h2 t3=>by
   refine .cons ⟨kV _,_,qL j.1, ?_,j.2,by rw [h2];exact z.2⟩ (zk t1 B t3)
   rw [<- z.1] at h1
   rcases aQ h1 with ⟨i,t,e1,e2⟩ | ⟨x,t,e1,e2⟩
   ·rw [e1,e2];exact ⟨t,rfl⟩
   ·rw [e1,e2];exact ⟨t,rfl⟩
theorem zm {P:Hu} {w:HW} {K:Frag} {H:Hp}:∀ {kvs:List (D×D)} {ps:List (List Key×V)} {xs:List (List Key×Addr×h7)},HZ (fun (p:D×D) (q:List Key×V)=>RKeys p.1 q.1/\RD K H p.2 q.2) kvs ps->HZ (fun (p:List Key×V) (q:List Key×Addr×h7)=>p.1=q.1/\H q.2.1=some (.tup (p.1.map kV))/\RelV p.2 q.2.2) ps xs->HZ (kC K H) kvs (xs.map (entryOfKey (Lp (aI P w))))
 | _,_,_, .nil, .nil => .nil
 | kv::_,_,_, .cons z t1, .cons B F=>by
   refine .cons ?_ (zm t1 F);obtain ⟨d,v⟩:=kv;have j:=z.1
   cases d <;> first
    | exact j.elim
    | exact ⟨.ref _,_,Rw ⟨_,_,rfl,B.2.1,lQ j⟩,rfl,z.2,B.2.2⟩
theorem aW {α β:Type} {R : α -> β -> Prop}:∀ {l:List α} {m:List β},HZ R l m->l.length=m.length
 | _,_, .nil=>rfl
 | _,_, .cons _ t=>by simp [aW t]
section
variable {X:Cx}
theorem oH {H:Hp} {h:Heap} {P:Hu} {w:HW} {K:Frag} {a:Addr} {ps:List (List Key×V)} {kvs:List (D×D)} (ok:ObjOk P w H h a (.dT ps)) (pr:HZ (fun (p:D×D) (q:List Key×V)=>RKeys p.1 q.1/\RD K H p.2 q.2) kvs ps) :
 ∃ cd dd sl es ep,h.get? a=some { cls:=cd,dict:=dd,data := .dict es ep,slots:=sl }/\es.size<=GX/\HZ (kC K H) kvs es.toList:=by
 obtain ⟨G,B,xs,j,o,es,ep,h1,h2,z,F,J⟩:=ok;obtain ⟨cd,dd,dat,sl⟩:=o;dsimp only at z;subst z;have pp:=zm (P:=P) (w:=w) pr j;rw [<- F] at pp;refine ⟨cd,dd,sl,es,ep,h1, ?_,pp⟩;have:=aW pp;have:=aW pr;simp at *;lia
theorem AG {pins:List (Addr×Obj)} {σ:St} {H:Hp} {s:D0} {M:Mem} (I:Inv X pins σ H s) (rm:RM X.K M H) {a:Addr} {t:Bool} {kvs:List (D×D)} (e:M a=some (.dct t kvs)) :
 ∃ cd dd sl es ep,s.heap.get? a=some { cls:=cd,dict:=dd,data := .dict es ep,slots:=sl }/\es.size<=GX/\HZ (kC X.K H) kvs es.toList/\IsD H a:=by
 have ro:=rm a _ e
 cases t with
 | false =>
   obtain ⟨ps,j,pr⟩:=ro;obtain ⟨G,B,vs,z,o,es,ep,h1,h2,q,J,F,L⟩:=I.hok a _ j;obtain ⟨cd,dd,dat,sl⟩:=o;dsimp only at q;subst q;have pp:=zk pr z F;refine ⟨cd,dd,sl,es,ep,h1, ?_,pp, .inl ⟨_,Rd.of j⟩⟩;have:=aW pp;have:=aW pr;simp at *;lia
 | true =>
   obtain ⟨ps,j,pr⟩:=ro;obtain ⟨cd,dd,sl,es,ep,h1,h2,q⟩:=oH (I.hok a _ j) pr;exact ⟨cd,dd,sl,es,ep,h1,h2,q, .inr ⟨_,Rd.of j⟩⟩
end
section
noncomputable def jD (to tk tx:TEd):TEd:=fun ρ M Q=>to ρ M fun x M1 => ∃ a t kvs,x = .ref a/\M1 a=some (.dct t kvs)/\tk ρ M1 fun k M2=>tx ρ M2 fun z M3 => ∃ t' kvs',M3 a=some (.dct t' kvs')/\gK t' k=true/\Q ((dget kvs' k).getD z) M3
theorem vz {to tk tx:TEd} (h1:ab to) (h2:ab tk) (j:ab tx):ab (jD to tk tx):=fun ρ M Q Q' i q=>h1 _ _ _ _ (fun x L ⟨a,t,kvs,e,e1,B⟩=>⟨a,t,kvs,e,e1,h2 _ _ _ _ (fun k M2 F=>j _ _ _ _ (fun z O ⟨t',kvs',G,ok,J⟩=>⟨t',kvs',G,ok,i _ _ J⟩) F) B⟩) q
section
variable {X:Cx}
theorem CC {K:Frag} {M:Mem} {H:Hp} (rm:RM K M H) {a:Addr} {t:Bool} {kvs:List (D×D)} (e:M a=some (.dct t kvs)):IsD H a:=by
 have ro:=rm a _ e
 cases t with
 | false=>obtain ⟨ps,j,_⟩:=ro;exact .inl ⟨_,Rd.of j⟩
 | true=>obtain ⟨ps,j,_⟩:=ro;exact .inr ⟨_,Rd.of j⟩
theorem AH {o e f:Expr} {to tk tx:TEd} {apos cpos:Pos} (Y:X.A.units+1 < JH) (mo:ab to) (mk:ab tk) (mx:ab tx) (ho:PE X o (lE X.K to)) (he:PE X e (lE X.K tk)) (hf:PE X f (lE X.K tx)) (m:M2 X o "get" apos e f cpos) :
 PE X (.Call (.Attribute o "get" apos) [e,f] [] cpos) (lE X.K (jD to tk tx)):=by
 refine PE.imp (xj Y ho he hf m) fun σ H Q h => ?_;obtain ⟨ρ,M,rs,rm,q⟩:=h;refine ⟨ρ,M,rs,rm,mo _ _ _ _ (fun x Z ⟨a,t,kvs,e,e1,q1⟩ v H1 L j rd1 => ?_) q⟩;subst e
 cases Rk.mp rd1
 have B:=rs.mono (L.stab rm);refine ⟨a,rfl,CC j e1, ρ,Z,B,j,mk _ _ _ _ (fun k M2 q2 v2 H2 O F G => ?_) q1⟩;have J:=B.mono (O.stab j);refine ⟨ρ,M2,J,F,mx _ _ _ _ (fun z M3 ⟨t',kvs',e3,ok,q3⟩ v3 H3 U rm3 rd3 => ?_) q2⟩;obtain ⟨w,g,g1,g2⟩:=qA rm3 e3 ok (G.mono (U.stab F));refine ⟨w,g, ?_⟩;refine q3 _ H3 (L.trans (O.trans U)) rm3 ?_
 cases e4:dget kvs' k with
 | none=>rw [g2 e4];exact rd3
 | some d =>
   obtain ⟨w',e5,r5⟩:=g1 d e4;rw [e5];exact r5
end
end
end Mi
end L2
namespace L2
open PySem PySem.Spec PyProof.Rows
namespace Mi
end Mi
end L2
namespace L2
open PySem PySem.Spec PyProof.Rows
namespace Mi
end Mi
end L2
namespace L2
open PySem PySem.Spec PyProof.Rows
namespace Mi
end Mi
end L2
namespace L2
open PySem PySem.Spec PyProof.Rows
section
section
variable {prog:Hu} {w:HW} {A:Ib} {E:h7->D0->Prop} {s:D0}
theorem AI:Pn (.type "list") "keys" = pure none:=by rw [typeLookup_type,Oq];kernel_rfl
theorem AJ {l:Addr} {o:Obj} {xs:Array h7} {k:Nat} {Q:Option h7->D0->Prop} (B:A.handled=none) (ho:s.heap.get? l=some o) (z:o.cls = .type "list") (hd:o.data = .seq xs k) (j:o.dict=none)
 (q:∀ h' tk,(∀ b o,s.heap.get? b=some o->h'.get? b=some o)->Q none { s with heap:=h',toks:=tk }):Hd (model prog w) A (getAttr? (.ref l) "keys") Q E s:=by
 have ty:s.TypeIs (.ref l) "list" := ⟨_,ho,z⟩;unfold getAttr?;unfold mkText;refine gV ?_;refine gV (wpAny_fresh ?_);refine tv ?_;unfold getAttrBy?;refine gV (Jn ?_);unfold getAttrBy;refine Ii ?_;refine gV (JF (s := { s with toks:=s.toks+1 }) ty ?_)
 refine gV (JI F.slot_list_getattribute.lookup ?_);refine Oj (by decide) ?_
 unfold getAttrByItsOwn hookBefore;rw [if_neg (by decide)]
 refine gV (tv ?_);refine gV (Jn (Ii ?_));unfold callGetattribute boundAndCalled;rw [if_neg (by decide)]
 refine gV (JI (F.slot_list_getattribute.bind _) ?_);dsimp only;obtain ⟨cls,dd,dat,sl⟩:=o;dsimp only at z hd j;subst z hd j;refine PQ F.slot_list_getattribute (s := { s with toks:=s.toks+1 }) ty am_entry_list_getattribute (F.args_list_getattribute_2 _ _) ((meets_getattribute_miss_list l xs k sl "keys" s.toks AI (by decide) (by decide)).inModel prog w) ⟨ho,B,fun h' tk a ne => ?_⟩
 ·have ne:s.heap.NewAttrErr h' a (.ref l) "keys" := ne;obtain ⟨t,u,he⟩:=ne.there;unfold getattributeRaised;refine gV (Jh (T := "AttributeError") (b:=true) ⟨_,he,rfl⟩ (by rw [LI];kernel_rfl) ?_)
  rw [if_pos rfl];unfold hookBehind;rw [if_neg (by decide)]
  refine gV (JI am_list_getattr_none ?_);unfold hookOrError attributeErrorLeaves;dsimp only;rw [if_pos (by decide)]
  refine gV (Qu ?_);refine gV (Jh (T := "AttributeError") (b:=true) ⟨_,he,rfl⟩ (by rw [LI];kernel_rfl) ?_)
  rw [if_pos rfl];exact tv (q h' tk ne.keeps)
end
end
section
theorem oI:entryFor table "dict.update.loop" = some Jl.«dict.update.loop» := Qi (by kernel_rfl)
theorem oJ:plainId "dict.update.loop" = true:=by decide +kernel
section
variable {X:Cx} {pins:List (Addr×Obj)} {σ:St} {H:Hp}
def PrV (H:Hp) (v:V) (kv:List Key×V):Prop := ∃ t b,v = .ref t/\H t=some (.tup [.ref b,kv.2])/\H b=some (.tup (kv.1.map kV))
noncomputable abbrev bI (kvs:List (List Key×V)):List (List Key×V):=kvs.foldl (fun a kv=>bm a kv.1 kv.2) []
theorem sP (kvs:List (List Key×V)):(bI kvs).length<=kvs.length:=by
 have g:∀ (r:List (List Key×V)) (a:List (List Key×V)),(r.foldl (fun a kv=>bm a kv.1 kv.2) a).length<=a.length+r.length:=by
  intro r
  induction r with
  | nil=>intro a;simp
  | cons x r ih =>
    intro a;have h1:=ih (bm a x.1 x.2);have h2:=cP a x.1 x.2;simp only [Ld,HR];lia
 have:=g kvs [];simpa using this
theorem jE {α β:Type} {R : α -> β -> Prop}:∀ {l:List α} {m:List β} {i:Nat} {x : α},HZ R l m->l[i]? = some x -> ∃ y,m[i]? = some y/\R x y
 | _,_,_,_, .nil,e=>by simp at e
 | _,_,0,_, .cons r _,e=>by simp at e;subst e;exact ⟨_,rfl,r⟩
 | _,_,i+1,x, .cons _ t,e=>by
   simp at e;obtain ⟨y,h1,h2⟩:=jE t e;exact ⟨y,by simpa using h1,h2⟩
theorem AK {A:Ib} (hu:A.units+1 < JH) (hn:A.handled=none) {l it p:Addr} {vs:List V} {kvs:List (List Key×V)} (Z:H p=none) (Y:H l=some (.lst vs)) (G:HZ (PrV H) vs kvs) (hz:vs.length < GX) {R:Result->D0->Prop} (hf:bZ X pins H it) (j:it≠p) :
 ∀ (k i:Nat) (s:D0),vs.length - i=k->i<=vs.length->Inv X pins σ (upd H p (.dT (bI (kvs.take i)))) s->s.heap.IsListIter it l i ->
  (∀ s',Inv X pins σ (upd H p (.dT (bI kvs))) s'->R (.ok (.ret .none)) s') ->
  Mh (model X.prog X.w) A (.builtin "dict.update.loop" ⟨[.ref p, .ref it,Lu i, .none],[]⟩) R s:=by
 have J:l≠p:=fun z=>by rw [z,Z] at Y;cases Y
 have hlen:vs.length=kvs.length:=JX G;obtain ⟨f0,f1,f2,f3,f4,f5⟩:=hf;intro k
 induction k with
 | zero =>
   intro i s hk hi I st q;have EJ:i=vs.length:=by lia
   obtain ⟨its,rv,pl,_⟩:=I.list (SqL.of (K:=X.K) ((ak J).trans Y));refine Mv oI ?_;unfold Jl.«dict.update.loop»;dsimp only;refine gV (Om hn st pl.isList (by have:=rv.length;simp;lia) fun h' eb => ?_)
   refine gV ?_;unfold Builtin.Dict.addKeywords;refine gV ?_;have B:=I.turned (t':=s.toks) (h':=h') (fun b o F e=>eb b o F e) ((ak j).trans f0) f1 f3 f4 f5;rw [EJ,hlen,List.take_length] at B;exact tv (tv (tv (q _ B)))
 | succ k ih =>
   intro i s hk hi I st q;have L:i < vs.length:=by lia
   obtain ⟨its,rv,pl,_⟩:=I.list (SqL.of (K:=X.K) ((ak J).trans Y));obtain ⟨u,EK,ru⟩:=rv.get (D1 L);obtain ⟨kv,EL,t,b,hv,ht,F⟩:=jE G (D1 L);rw [hv] at ru
   cases (show u=I9 t from ru)
   refine Mv oI ?_;rw [Pu (by rfl) (by rfl)]
   unfold Jl.«dict.update.loop»;dsimp only;refine gV (NV st pl.isList (x := .ref t) (by simpa using EK) fun h' st' sb => ?_)
   have B:=I.turned (t':=s.toks) (h':=h') (fun b o F e=>(sb.2 b F).trans e) ((ak j).trans f0) f1 f3 f4 f5;dsimp only;have EM:t≠p:=fun z=>by rw [z,Z] at ht;cases ht
   have EN:b≠p:=fun z=>by rw [z,Z] at F;cases F
   obtain ⟨tits,rt,tt,_⟩:=B.tuple (SqT.of (K:=X.K) ((ak EM).trans ht));obtain ⟨ob,O,EO,nt,EQ⟩:=id tt
   cases rt with
   | cons r1 rt =>
     cases rt with
     | cons r2 rt =>
       cases rt
       cases (show _=I9 b from r1)
       rename_i uv;refine gV (Ii ?_);refine gV (wpAny_tryCatch ?_);unfold Builtin.Dict.pairItems;refine gV (JF (T := "tuple") (s := { s with heap:=h' }) ⟨ob,O,EO⟩ ?_)
       rw [if_pos (by decide)]
       refine gV (Ia (s := { s with heap:=h' }) O EQ ?_)
       refine tv ?_;refine Ii ?_;obtain ⟨z,hd,xs,rel,dd⟩:=yY (a:=p) B.hok aw;have ER:xs.length<=GX:=by rw [<- JX rel];exact z
       have U:upd H p (.dT (bI (kvs.take i))) b=some (.tup (kv.1.map kV)):=(ak EN).trans F;have ES:(bm (bI (kvs.take i)) kv.1 kv.2).length<=GX:=by
        have h1:=cP (bI (kvs.take i)) kv.1 kv.2;have h2:=sP (kvs.take i);rw [Hq] at h2;lia
       have etk:bm (bI (kvs.take i)) kv.1 kv.2=bI (kvs.take (i+1)):=by
        unfold bI;rw [List.take_succ,EL,List.foldl_append];rfl
       refine wpAny_dictSet_heap (hsz:=ER) (knd:=Lp (aI X.prog X.w)) (Ki hu) (fV B.hok U) dd fun h2 dd' hs => ?_;obtain ⟨q',es,ep,hq,g2,g3,g4,_,g5⟩:=dd';have I2:=ke (t':=s.toks+(Lp (aI X.prog X.w)).draws kv.1) B (a:=p) (ob := .dT (bm (bI (kvs.take i)) kv.1 kv.2)) (by rw [aw];exact IX) hs ⟨q',hq⟩ ⟨ES,hd,_,(rel.put kv.1 U r2).keeps fun c ys ec => ?_,q',es,ep,hq,g2,g3,g4,g5⟩
       ·rw [zE,etk] at I2;refine tv ⟨P7 oJ _,ih (i+1) _ (by lia) (by lia) I2 ?_ q⟩
        exact st'.at fun o e=>(hs.2 it j).trans e
       ·rw [ak (yO ec aw (fun z=>nomatch z))];exact ec
end
section
variable {X:Cx}
theorem jF (hu:X.A.units+16 < JH) (hc:X.calm=true):CallR X (.type "dict") (fun xs H Q => ∃ l vs kvs,xs=[V.ref l]/\H l=some (.lst vs)/\HZ (PrV H) vs kvs/\vs.length < GX /\ ∀ p,H p=none->Q (.ref p) (upd H p (.dT (bI kvs)))):=by
 intro pins s σ H xs us Q I r h;obtain ⟨l,vs,kvs,rfl,J,L,hz,q⟩:=h
 cases r with
 | cons r1 rr =>
 cases rr
 cases (show _=I9 l from r1)
 have Z:=I.ok.hd hc;have O:H s.heap.objs.size=none:=I.hok.fresh (Hc _);have I1:=I.laid (a:=s.heap.objs.size) (o := .dT []) (t':=s.toks) (fun _ _ q=>q7 _ q) (Hc _) (nc s.heap I.big);have U:l≠s.heap.objs.size:=fun z=>by rw [z,O] at J;cases J
 refine callType_codes (Q₁ := fun obj s₁ => obj = .ref s.heap.objs.size/\s₁ = { s with heap:=s.heap.push { cls := .type "dict",data := .dict #[] } }) F.kt_called_dict (F.kt_typeCall_dict_1 _) F.entry_dict_init (kt_code_dict_new _ ⟨rfl,rfl⟩) fun obj s₁ h₁ => ?_
 obtain ⟨rfl,rfl⟩:=h₁;refine ⟨⟨_,GY _ rfl,rfl⟩,F.args_dict_init_2 _ _, ?_⟩;unfold Jl.«dict.__init__»;refine gV ?_;unfold Builtin.Dict.selfAndRest;unfold Builtin.Dict.notOrdered;rw [if_pos (by decide)]
 have tyd:Shared.TypeIs { s with heap:=s.heap.push { cls := .type "dict",data := .dict #[] } } (.ref s.heap.objs.size) "dict" := ⟨_,GY _ rfl,rfl⟩
 refine gV (gV (JF tyd ?_));rw [if_neg (by decide)]
 refine tv ?_;refine gV (tv (tv ?_));unfold Builtin.Dict.updateCommon Builtin.Dict.updateFrom;dsimp only;obtain ⟨its,rv,pl,_⟩:=I1.list (SqL.of (K:=X.K) ((ak U).trans J));have il:=pl.isList;refine gV (JF il.typeIs ?_);rw [if_pos (by decide)]
 obtain ⟨ob,nn,e1,j,B,G⟩:=id pl;refine gV (AJ Z e1 j G B fun h1 tk kp => ?_);rw [if_pos (show (none:Option h7).isNone=true from rfl)];refine gV (IG ?_);have Y:=I1.kept (t':=tk) kp;refine gV (J4 (s := { s with heap:=h1,toks:=tk }) (PlainL.isList (⟨ob,nn,kp _ _ e1,j,B,G⟩)) ?_)
 have I3:=Y.kept (t':=tk) (h':=h1.push { cls := .type "list_iterator",data := .fields #[.ref l, .int 0 0] }) fun b o e=>q7 _ e;refine tv ⟨P7 oJ _, ?_⟩;have hle:s.heap.objs.size < h1.objs.size:=Hb (kp _ _ (GY _ rfl));have hf:bZ X pins H h1.objs.size:=by
  have:=Y.fpOk (H':=upd H s.heap.objs.size (.dT [])) (Hc _) (Y.hok.fresh (Hc _));exact ⟨by rw [<- this.1,ak (IW hle)],this.2⟩
 refine AK (A:=X.A.in1) (X:=X) (pins:=pins) (σ := σ) (H:=H) (p:=s.heap.objs.size) (kvs:=kvs) (by have:X.A.in1.units=X.A.units+1:=rfl;lia) Z O J L hz hf (IW hle) vs.length 0 _ (by lia) (by lia) I3 ⟨_,GY _ rfl,rfl,rfl⟩ fun s' I' => ?_
 exact ⟨rfl, .ref s.heap.objs.size,_,I',rfl,q _ O⟩
end
end
end L2
namespace L2
namespace Mi
open PySem PySem.Spec PyProof.Rows
section
section
variable {X:Cx}
noncomputable def sQ (kvs:List (D×D)):List (D×D):=kvs.foldl (fun a kv=>cj a kv.1 kv.2) []
noncomputable def sR:RAd:=fun ds M Q => ∃ a kvs,ds=[.ref a]/\M a=some (.lst (kvs.map fun kv:D×D => .tup [kv.1,kv.2]))/\(∀ kv∈kvs,bQ kv.1=true)/\kvs.length < GX /\ ∀ p,M p=none->Q (.ref p) (ag M p (.dct true (sQ kvs)))
theorem lU:aX sR:=fun _ _ _ _ h ⟨a,kvs,e,e1,e2,j,q⟩=>⟨a,kvs,e,e1,e2,j,fun p n=>h _ _ (q p n)⟩
theorem oK {K:Frag} {H:Hp}:∀ {kvs:List (D×D)} {vs:List V},RDs K H (kvs.map fun kv:D×D => .tup [kv.1,kv.2]) vs->(∀ kv∈kvs,bQ kv.1=true) ->
 ∃ ps:List (List Key×V),HZ (PrV H) vs ps/\HZ (fun (p:D×D) (q:List Key×V)=>RKeys p.1 q.1/\RD K H p.2 q.2) kvs ps
 | [],vs,r,_=>by rw [RDs.nil_iff.mp r];exact ⟨[], .nil, .nil⟩
 | kv::kvs,vs,r,h=>by
   rw [Hs] at r;obtain ⟨v,vr,rfl,G,J⟩:=Rl.mp r;obtain ⟨ps,h1,h2⟩:=oK J fun x hx=>h x (HE _ hx);have z:=h kv (Ir ..);obtain ⟨k,v⟩:=kv;obtain ⟨ks,j⟩:=kh z
   cases k <;> first
    | exact j.elim
    | (obtain ⟨t,us,rfl,B,ru⟩:=RB rfl G
       obtain ⟨Z,ur,rfl,L,ru⟩:=Rl.mp ru;obtain ⟨O,U,rfl,Y,ru⟩:=Rl.mp ru;rw [RDs.nil_iff.mp ru] at B;obtain ⟨b,ws,rfl,F,rw'⟩:=RB (ki z) L;rw [fy j rw'] at F;exact ⟨(ks,O)::ps, .cons ⟨t,b,rfl,B,F⟩ h1, .cons ⟨j,Y⟩ h2⟩)
theorem oM {K:Frag} {H:Hp}:∀ {kvs:List (D×D)} {ps:List (List Key×V)} {a:List (D×D)} {b:List (List Key×V)},HZ (fun (p:D×D) (q:List Key×V)=>RKeys p.1 q.1/\RD K H p.2 q.2) kvs ps->HZ (fun (p:D×D) (q:List Key×V)=>RKeys p.1 q.1/\RD K H p.2 q.2) a b ->
 HZ (fun (p:D×D) (q:List Key×V)=>RKeys p.1 q.1/\RD K H p.2 q.2) (kvs.foldl (fun a kv=>cj a kv.1 kv.2) a) (ps.foldl (fun a kv=>bm a kv.1 kv.2) b)
 | _,_,_,_, .nil,h=>h
 | _,_,_,_, .cons r t,h=>by
   have g:=oM t (iG (RK:=RKeys) RKeys.inj RKeys.fun r.1 r.2 h);exact g
theorem ql (j:X.A.units+16 < JH) (B:X.calm=true):CallR X (.type "dict") (lR X.K sR):=by
 refine CallR.of (jF j B) fun vs H Q h => ?_;obtain ⟨ds,M,rm,rs,a,kvs,rfl,e,F,G,q⟩:=h;obtain ⟨v,rfl,r⟩:=rs.one
 cases Rk.mp r
 obtain ⟨us,J,ru⟩:=rm _ _ e;obtain ⟨ps,h1,h2⟩:=oK ru F;refine ⟨a,us,ps,rfl,J,h1,by rw [ru.length,D2];exact G,fun p n => ?_⟩
 have st:Stab H (upd H p (.dT (bI ps))):=(Ru (M:=M) n).stab rm;exact q p (rm.out n) (.ref p) _ (Ext.lay n) (rm.lay n ⟨_,aw,Rp (oM h2 .nil) fun _ _ z=>⟨z.1,z.2.mono st⟩⟩) (Rk.mpr rfl)
end
end
end Mi
end L2
namespace L2
namespace Dk
open PySem PySem.Spec PyProof.Rows
section
variable {prog:Hu} {w:HW} {A:Ib} {E:h7->D0->Prop} {s:D0}
noncomputable def kO (d:Addr) (i n ep:Nat):Obj := { cls := .type "dict_keyiterator",data := .fields #[.ref d, .int i 0, .int n 0, .int ep 0] }
theorem slot_next:Slot "dict_keyiterator" "__next__" "dict_keyiterator.__next__" := .of (owner := "dict_keyiterator") (n := "__next__") (by rw [typeLookup_type,Oq];kernel_rfl) (by decide +kernel) (by decide +kernel) (by decide +kernel) (.inl (by decide +kernel)) (by rw [LI];kernel_rfl)
theorem jG:entryFor table "dict_keyiterator.__next__" = some Jl.«dict_keyiterator.__next__» := Qi (by kernel_rfl)
theorem lV (a:h7):argsOk "dict_keyiterator.__next__" ⟨[a],[]⟩:=by unfold argsOk;kernel_rfl
theorem vA {it:Addr} (ty:s.TypeIs (.ref it) "dict_keyiterator") {types:List String} {Q:Bool->D0->Prop} (q:Q (types.any fun t => [ID "dict_keyiterator",ID "object"].contains (ID t)) s):Hd (model prog w) A (N7 (.ref it) types) Q E s:=by
 have hm:=Pa;unfold N7
 wp_walk
 exact q
theorem nx_item {it d:Addr} {i ep:Nat} {cd:h7} {dd:Option Addr} {sl:Array (Option h7)} {es:Array JL} {e:JL} {Q:Option h7->D0->Prop} (hi:s.heap.get? it=some (kO d i es.size ep)) (hd:s.heap.get? d=some { cls:=cd,dict:=dd,data := .dict es ep,slots:=sl }) (he:es[i]? = some e)
 (q:∀ h',h'.get? it=some (kO d (i+1) es.size ep)->IJ it s.heap h'->Q (some e.key) { s with heap:=h' }):Hd (model prog w) A (Kt (.ref it)) Q E s:=by
 have ty:s.TypeIs (.ref it) "dict_keyiterator" := ⟨_,hi,rfl⟩;unfold Kt;refine gV (Jn (HN (name:=Ic "__next__") ty slot_next (HX slot_next ty jG ?_ (lV _))));unfold Jl.«dict_keyiterator.__next__»;have hm:=Pa
 wp_walk
 dsimp only;rw [if_neg (by simp)]
 simp only [HJ,he];refine gV (Jf (Q:=fun n s'=>n=0/\s'=s) ?_ (fun n s' hs => ?_) fun _ _ z=>z)
 ·wp_walk
  exact ⟨by kernel_rfl,rfl⟩
 obtain ⟨rfl,rfl⟩:=hs;refine gV (vA ty ?_);refine gV (Hz hi (by simp) fun h1 e1 s1 => ?_)
 rw [if_neg (by decide +kernel)] at e1
 have e1:h1.get? it=some (kO d (i+1) es.size ep):=e1;have j:Shared.TypeIs { s' with heap:=h1 } (.ref it) "dict_keyiterator" := ⟨_,e1,rfl⟩
 refine gV (Ii ?_);refine gV (vA j ?_);refine OI (by decide +kernel) ?_
 refine tv (tv ⟨_,rfl,tv ?_⟩);exact q h1 e1 s1
theorem nx_end {it d:Addr} {ep:Nat} {cd:h7} {dd:Option Addr} {sl:Array (Option h7)} {es:Array JL} {Q:Option h7->D0->Prop} (j:A.handled=none) (hi:s.heap.get? it=some (kO d es.size es.size ep)) (hd:s.heap.get? d=some { cls:=cd,dict:=dd,data := .dict es ep,slots:=sl })
 (q:∀ h',(∀ b o,b≠it->s.heap.get? b=some o->h'.get? b=some o)->Q none { s with heap:=h' }):Hd (model prog w) A (Kt (.ref it)) Q E s:=by
 have ty:s.TypeIs (.ref it) "dict_keyiterator" := ⟨_,hi,rfl⟩;unfold Kt;refine gV (Jn (HN (name:=Ic "__next__") ty slot_next (HX slot_next ty jG ?_ (lV _))));unfold Jl.«dict_keyiterator.__next__»;have hm:=Pa
 wp_walk
 dsimp only;rw [if_neg (by simp)]
 have he:es[es.size]? = none:=LK (Hc _);simp only [HJ,he];refine gV (Jf (Q:=fun n s'=>n=0/\s'=s) ?_ (fun n s' hs => ?_) fun _ _ z=>z)
 ·wp_walk
  exact ⟨by kernel_rfl,rfl⟩
 obtain ⟨rfl,rfl⟩:=hs;refine gV (Hz hi (by simp) fun h1 e1 s1 => ?_)
 refine gV (m:=newExc (.type "StopIteration") []) ?_;simp only [newExc,newTuple];refine gV (IQ ?_ (by size_fits))
 refine gV (m:=MZ _ _) (JI (a:=JW) (by first | rfl | (simp only [MZ];rfl)) (IQ ?_ (by size_fits)))
 simp only [raiseNew];refine gV (wpAny_handled ?_)
 first | rw [show A.in1.handled=none from j] | rw [j]
 refine gV (tv (Qu ?_));exact gV (Jh (T := "StopIteration") (b:=true) ⟨_,GY _ rfl,rfl⟩ N2 (tv (q _ fun b o B e=>q7 _ (q7 _ (s1.extBut b o B e)))))
theorem it_dict {d:Addr} {es:Array JL} {ep:Nat} {dd:Option Addr} {sl:Array (Option h7)} {Q:h7->D0->Prop} (j:(d==Iu)=false) (hd:s.heap.get? d=some { cls := .type "dict",dict:=dd,data := .dict es ep,slots:=sl })
 (q:Q (.ref s.heap.objs.size) { s with heap:=s.heap.push (kO d 0 es.size ep) }):Hd (model prog w) A (Pg (.ref d)) Q E s:=by
 have ty:s.TypeIs (.ref d) "dict" := ⟨_,hd,rfl⟩;refine wpAny_pyIter_slot ty Qj (HX Qj ty F.entry_dict_iter ?_ (F.args_dict_iter_1 _));unfold Jl.«dict.__iter__»
 wp_walk
 exact ⟨_,rfl, "dict_keyiterator",_,⟨_,GY _ rfl,rfl⟩,slot_next.lookup,q⟩
theorem walk (hn:A.handled=none) (it d:Addr) (hne:d≠it) (es:Array JL) (ep:Nat) :
 Walks prog w A it [it,d] [it] es.size (fun i v => ∃ e,es[i]? = some e/\v=e.key) (fun i h=>h.get? it=some (kO d i es.size ep) /\ ∃ cd dd sl,h.get? d=some { cls:=cd,dict:=dd,data := .dict es ep,slots:=sl }) where
 sub:=fun b hb=>by simp at hb;simp [hb]
 frame:=fun _ _ _ st k=>⟨k it (by simp) _ st.1,by obtain ⟨cd,dd,sl,h⟩:=st.2;exact ⟨cd,dd,sl,k d (by simp) _ h⟩⟩
 item:=fun i s Q E hi st q=>by
  obtain ⟨h1,cd,dd,sl,h2⟩:=st;refine nx_item (e:=es[i]) h1 h2 (HM hi) fun h' e' s' => ?_;exact q _ h' s.toks ⟨_,HM hi,rfl⟩ ⟨e',cd,dd,sl,s'.extBut d _ hne h2⟩ fun b o hb x=>s'.extBut b o (fun z=>hb (by simp [z])) x
 done:=fun s Q E st q=>by
  obtain ⟨h1,cd,dd,sl,h2⟩:=st;exact nx_end hn h1 h2 fun h' k=>q h' s.toks fun b o hb x=>k b o (fun z=>hb (by simp [z])) x
 self:=fun i s Q E st q=>OJ ⟨_,st.1,rfl,rfl⟩ q
theorem vB {d:Addr} {Q:Bool->D0->Prop} (ty:s.TypeIs (.ref d) "dict") (q:Q false s):Hd (model prog w) A (MN (.ref d)) Q E s:=by
 unfold MN;refine gV (wpAny_specialOf ty F.slot_dict_len.lookup ?_);generalize j:("dict.__len__":String)=z
 (fail_if_success (clear j z));wp_delta
 rw [show splitId z=some ("dict", "__len__") from by subst j;decide +kernel]
 subst j;refine gV (Jh (b:=true) ty (by rw [LI];kernel_rfl) ?_)
 rw [if_neg (by decide)]
 refine OI (by decide +kernel) ?_
 refine gV (JF ty ?_);exact tv q
open Builtin.List in
theorem y9 (hn:A.handled=none) {S d:Addr} {es:Array JL} {ep c:Nat} {dd:Option Addr} {sl:Array (Option h7)} {R:Result->D0->Prop} (res:h7) (Z:(d==Iu)=false) (hd:s.heap.get? d=some { cls := .type "dict",dict:=dd,data := .dict es ep,slots:=sl }) (Y:s.heap.get? S=some { cls := .type "list",data := .seq #[] c }) (hz:es.size<=GX)
 (q:∀ (h':Heap) (tk:Nat) (acc':Array h7) (c':Nat),(∀ b o,b≠S->s.heap.get? b=some o->h'.get? b=some o)->h'.get? S=some { cls := .type "list",data := .seq acc' c' }->acc'.toList=es.toList.map (·.key)->s.toks<=tk->R (.ok (.ret res)) { s with heap:=h',toks:=tk }) :
 Hd (model prog w) A.in1 (listExtendWith (.ref S) (.ref d) res) (fun fin s'=>match fin with | .done f=>R (.ok f) s' | .again c'=>c'.quiet=true/\Mh (model prog w) A c' R s') (fun e s'=>R (.error e) s') s:=by
 have ty:s.TypeIs (.ref d) "dict" := ⟨_,hd,rfl⟩;have G:S≠d:=fun e=>by rw [e,hd] at Y;simp at Y
 have h1:listSameRef (.ref S) (.ref d)=false:=by simp [listSameRef,G]
 unfold listExtendWith;refine gV (JF ty ?_);rw [if_neg (by rw [h1];decide)]
 refine gV (it_dict Z hd ?_);refine gV (Ii (vB (s := { s with heap:=s.heap.push (kO d 0 es.size ep) }) ⟨_,q7 _ hd,rfl⟩ ?_))
 have B:=Hb Y;have J:=Hb hd;have W:=(walk (prog:=prog) (w:=w) (A:=A.in1) hn s.heap.objs.size d (HQ J) es ep).toS;have EJ:S∉[s.heap.objs.size,d]:=fun hm=>by
  simp only [Ha,Ht,or_false] at hm
  rcases hm with e | e
  ·exact absurd (e ▸ B) (IT _)
  ·exact G e
 refine OI (by decide +kernel) ?_
 refine gV (IG ?_);unfold listTouch;have L:(s.heap.push (kO d 0 es.size ep)).get? S=some (Qg "list" #[] c):=q7 _ Y;refine gV (gV (Mj L rfl ?_ (by simp) (by simp)))
 have O:=Lh L (fun x=>x.push JW);refine Mj O rfl ?_ (by simp;decide) (by simp)
 have EK:=Lh O (fun x=>x.pop);have oth:∀ b o,b≠S->s.heap.get? b=some o->(((s.heap.push (kO d 0 es.size ep)).update S (K1 fun x=>x.push JW)).update S (K1 fun x=>x.pop)).get? b=some o:=fun b o U e=>by
  rw [J9 _ _ _ _ U,J9 _ _ _ _ U];exact q7 _ e
 have hit:(((s.heap.push (kO d 0 es.size ep)).update S (K1 fun x=>x.push JW)).update S (K1 fun x=>x.pop)).get? s.heap.objs.size=some (kO d 0 es.size ep):=by
  rw [J9 _ _ _ _ (IW B),J9 _ _ _ _ (IW B)];exact GY _ rfl
 refine tv ⟨P7 F.plain_extend_loop _,codeAny_extend_loopS W hz _ EJ _ es.size 0 _ _ _ rfl (J1 _) ⟨hit,_,_,_,oth d _ G.symm hd⟩ EK (ItemsOf.nil _) fun s' acc c' hm EL ha => ?_⟩;rw [hm.eq_with];refine q _ _ acc c' (fun b o U e => ?_) EL ?_ hm.toks
 ·exact hm.heap b o (fun z=>by
   simp only [Ha,Ht,or_false] at z
   rcases z with z | z
   ·exact U z
   ·exact absurd (z ▸ Hb e) (IT _)) (oth b o U e)
 ·obtain ⟨g1,g2⟩:=ha;apply KD;intro j;rw [Hx,HB,Hx]
  by_cases hj:j < es.size
  ·obtain ⟨e,he,hv⟩:=g2 j (acc[j]'(by lia)) (HM (by lia))
   rw [HM (by lia),hv,he];rfl
  ·rw [LK (by lia),LK (by lia)];rfl
theorem collect_dict (L:A.handled=none) {d:Addr} {es:Array JL} {ep:Nat} {dd:Option Addr} {sl:Array (Option h7)} {Q:List h7->D0->Prop} (j:(d==Iu)=false) (hd:s.heap.get? d=some { cls := .type "dict",dict:=dd,data := .dict es ep,slots:=sl }) (O:es.size<=GX)
 (q:∀ (h':Heap) (tk:Nat),(∀ b o,s.heap.get? b=some o->h'.get? b=some o)->s.toks<=tk->Q (es.toList.map (·.key)) { s with heap:=h',toks:=tk }):Hd (model prog w) A (collect (.ref d)) Q E s:=by
 unfold collect;refine gV (wpAny_runValue (Mv F.entry_proto_collect ?_));unfold Jl.«proto.collect»;dsimp only;refine gV (Nx ?_ (by simp))
 refine tv ⟨Code.quiet_builtin _ (by decide +kernel), ?_⟩
 refine Mv entry_list_iadd' ?_;unfold Jl.«list.__iadd__»;refine gV (JI (a:=(I9 s.heap.objs.size,[I9 d])) (by kernel_rfl) ?_)
 have z:(s.heap.push { cls:=ID "list",data:=Ml [].toArray }).get? s.heap.objs.size=some { cls:=ID "list",data:=Ml #[] 0 }:=GY _ rfl;rw [Pu (by rfl) (by rfl)]
 refine Jf (y9 (s := { s with heap:=s.heap.push { cls:=ID "list",data:=Ml [].toArray } }) (R:=fun r s'=>r = .ok (.ret (.ref s.heap.objs.size))/\Hd (model prog w) A (do
  let o <- load s.heap.objs.size
  match o.data with
  | .seq xs _=>pure xs.toList
  | _=>unsupported "internal:collect") Q E s') L (I9 s.heap.objs.size) j (q7 _ hd) z O fun h' tk acc c' kp B U G=>⟨rfl, ?_⟩) (fun fn s' h => ?_) (fun e s' h => ?_)
 ·refine gV (wpAny_load B ?_);refine tv ?_;rw [U];exact q h' tk (fun b o e=>kp b o (HQ (Hb e)) (q7 _ e)) G
 ·cases fn with
  | done f =>
    obtain ⟨e,h⟩:=h
    cases e
    exact h
  | again c' =>
    refine ⟨h.1,Lx h.2 fun r s1 J => ?_⟩;obtain ⟨rfl,J⟩:=J;exact J
 ·cases h.1
end
end Dk
end L2
namespace L2
namespace Mi
open PySem PySem.Spec PyProof.Rows L2.Srt
noncomputable def oO:RAd:=fun ds M Q => ∃ a t kvs sh,ds=[.ref a]/\M a=some (.dct t kvs)/\iK sh=true/\(∀ kv∈kvs,hs sh kv.1=true) /\ ∀ p ys,M p=none->ys.Perm (kvs.map (·.1))->kB ys->Q (.ref p) (ag M p (.lst ys))
theorem jH:aX oO:=fun _ _ _ _ h ⟨a,t,kvs,sh,e,e1,e2,j,q⟩=>⟨a,t,kvs,sh,e,e1,e2,j,fun p ys n z hs=>h _ _ (q p ys n z hs)⟩
theorem qM {K:Frag} {H:Hp}:∀ {kvs:List (D×D)} {es:List JL},HZ (kC K H) kvs es -> ∃ vs,RDs K H (kvs.map (·.1)) vs/\Vals vs (es.map (·.key))
 | _,_, .nil=>⟨[],RDs.nil, .nil⟩
 | _,_, .cons r t=>by
   obtain ⟨vs,h1,h2⟩:=qM t;obtain ⟨kV,vV,g1,g2,_,_⟩:=r;exact ⟨kV::vs,RDs.cons g1 h1, .cons g2 h2⟩
section
variable {X:Cx}
theorem oP (L:X.A.units+16 < JH) (O:X.calm=true):CallR X (.builtin "sorted") (lR X.K oO):=by
 intro pins s σ H xs us Q I r h;obtain ⟨ds,M,rm,rs,a,t,kvs,sh,rfl,e,hok,j,q⟩:=h;obtain ⟨v,rfl,rv⟩:=rs.one;obtain ⟨u,rfl,ru⟩:=eA r
 cases Rk.mp rv
 cases (show u=I9 a from ru)
 obtain ⟨cd,dd,sl,es,ep,hd,U,z,Y⟩:=AG I rm e;obtain ⟨t1,t2,B⟩:=j6 I Y;obtain ⟨vs,h1,h2⟩:=qM z;have F:cd = .type "dict" := by
  obtain ⟨o,g1,g2⟩:=t1;rw [hd] at g1;cases g1;exact g2
 subst F;have Z:X.A.in1.handled=none:=I.ok.hd O;exact qk (cap:=GX) sK L I rm h1 hok (fun d hd=>by
  obtain ⟨kv,G,rfl⟩:=Hr.mp hd;exact j kv G) q h2 (by have:=h2.length;rw [D2] at this;simp at this;lia) (by have:=h2.length;rw [D2] at this;simp at this;lia) fun E R hR=>Dk.collect_dict Z B hd U fun h' tk kp J=>hR h' tk kp J
end
end Mi
end L2
namespace L2
open PySem PySem.Spec PyProof.Rows
section
section
variable {X:Cx} {pins:List (Addr×Obj)} {σ:St} {H:Hp} {s:D0}
theorem AL {x:V} {u:h7} {t:String} (I:Inv X pins σ H s) (rx:RelV x u) (ty:ca X.K H x (.type t)):∃ P,PySem.W.KitX X.K u (.type t) P/\P s.heap/\u≠Value.builtin "__main__.__loader__#opaque" := by
 generalize j:ID t=T at ty
 cases ty with
 | non=>cases (show u=JW from rx);exact ⟨_,Pz,IX,fun z=>nomatch z⟩
 | bl y=>cases (show u=NT y from rx);exact ⟨_,PD,IX,fun z=>nomatch z⟩
 | int i=>obtain ⟨t,rfl⟩:=(show ∃ t,u=OR i t from rx);exact ⟨_,Q5,IX,fun z=>nomatch z⟩
 | str y=>obtain ⟨t,rfl⟩:=(show ∃ t,u=OS y t from rx);exact ⟨_,Q6,IX,fun z=>nomatch z⟩
 | flt y=>obtain ⟨t,rfl⟩:=(show ∃ t,u=Qs y t from rx);exact ⟨_,Pj,IX,fun z=>nomatch z⟩
 | @lst a xs ea =>
  cases (show u=I9 a from rx)
  obtain ⟨_,_,n,_,h1⟩:=(show ObjOk X.prog X.w H s.heap a (.lst xs) from I.hok a _ ea);exact ⟨_,Lv,⟨_,h1,rfl⟩,fun z=>nomatch z⟩
 | @frz a ob xs ea =>
  cases (show u=I9 a from rx)
  obtain ⟨_,_,_,n,_,h1⟩:=(show ObjOk X.prog X.w H s.heap a (.frz ob (.lst xs)) from I.hok a _ ea);exact ⟨_,Lv,⟨_,h1,rfl⟩,fun z=>nomatch z⟩
 | @tup a xs ea =>
  cases (show u=I9 a from rx)
  obtain ⟨_,_,⟨o,h1,h2,_⟩,_⟩:=I.tuple ea;exact ⟨_,Pk,⟨o,h1,h2⟩,fun z=>nomatch z⟩
 | @dK a kvs ea =>
  cases (show u=I9 a from rx)
  obtain ⟨_,_,vs,_,o,es,ep,h1,h2,_⟩:=(show ObjOk X.prog X.w H s.heap a (.dK kvs) from I.hok a _ ea);exact ⟨_,Lw,⟨o,h1,h2.1⟩,fun z=>nomatch z⟩
 | @dT a kvs ea =>
  cases (show u=I9 a from rx)
  obtain ⟨_,_,xs,_,o,es,ep,h1,h2,_⟩:=(show ObjOk X.prog X.w H s.heap a (.dT kvs) from I.hok a _ ea);exact ⟨_,Lw,⟨o,h1,h2.1⟩,fun z=>nomatch z⟩
 | ins=>cases j
end
namespace Mi
section
variable {X:Cx}
theorem AM (K:Frag) {T U:String} (q:T∈["bool", "int", "str", "tuple", "list", "dict"]) (z:U∈["bool", "int", "str", "tuple", "list", "dict"]) {t:String} (j:t∈cr):OK K (.type t) [.type T, .type U]=some (dQ T t || dQ U t):=by
 have h1:=ku K T q t j;have h2:=ku K U z t j;unfold OK;rw [h1]
 cases e1:dQ T t with
 | true=>rfl
 | false =>
   dsimp only;unfold OK;rw [h2]
   cases dQ U t <;> rfl
theorem sU {T U:String} (z:T∈["bool", "int", "str", "tuple", "list", "dict"]) (B:U∈["bool", "int", "str", "tuple", "list", "dict"]):CallR X (.builtin "isinstance") (fun vs H Q => ∃ v t p,vs=[v, .ref p]/\H p=some (.tup [.ty T, .ty U])/\ca X.K H v (.type t)/\t∈cr/\Q (.bl (dQ T t || dQ U t)) H):=by
 intro pins s σ H xs us Q I r h;obtain ⟨v,t,p,rfl,F,ty,G,q⟩:=h;obtain ⟨u,c,rfl,ru,rc⟩:=mH r
 cases (show c=I9 p from rc)
 obtain ⟨P,g1,g2,g3⟩:=AL I ru ty;obtain ⟨_,its,rv,⟨cls,dd,dat,sl⟩,h1,h2,n,j⟩:=(show ObjOk X.prog X.w H s.heap p (.tup [.ty T, .ty U]) from I.hok p _ F);dsimp only at h2 j;subst h2 j
 cases rv with
 | cons J rv =>
 cases rv with
 | cons L rv =>
 cases rv
 cases J
 cases L
 exact PySem.W.kia_tup g1 I.kIn g2 h1 (AM X.K z B G) g3 fun tk=>⟨.bl _,H,I.tok tk,rfl,q⟩
noncomputable def gn (T U:String) (ta:TEd):TEd:=fun ρ M Q=>ta ρ M fun x M1 => ∃ t,tyN M1 x=some t/\Q (.bl (dQ T t || dQ U t)) M1
theorem sV {T U:String} {ta:TEd} (h:ab ta):ab (gn T U ta):=fun ρ M Q Q' i q=>h _ _ _ _ (fun x z ⟨t,e,j⟩=>⟨t,e,i _ _ j⟩) q
theorem ya {e:Expr} {ta:TEd} {T U:String} {y z:Str} {k:Nat} {p p2 j G pos:Pos} (hT:T∈["bool", "int", "str", "tuple", "list", "dict"]) (hU:U∈["bool", "int", "str", "tuple", "list", "dict"]) (m:ab ta) (he:PE X e (lE X.K ta)) (hg:Gl X "isinstance") (hm:X.mg "isinstance" = none)
 (J:Gl X y) (L:X.mg y=none) (hv:JE y=some (.type T)) (hn:y ≠ "__name__") (O:(y==("__debug__":Str))=false)
 (Y:Gl X z) (Z:X.mg z=none) (EJ:JE z=some (.type U)) (EK:z ≠ "__name__") (B:(z==("__debug__":Str))=false)
 (hs:Hv [e, .Tuple [.Name y p2, .Name z j] k G] X.env=(false,eval e X.env)::Hv [.Tuple [.Name y p2, .Name z j] k G] X.env) :
 PE X (.Call (.Name "isinstance" p) [e, .Tuple [.Name y p2, .Name z j] k G] [] pos) (lE X.K (gn T U ta)):=by
 have h2:PE X (.Name y p2) (tC (.ty T)):=jZ J L hv rfl hn O;have h3:PE X (.Name z j) (tC (.ty U)):=jZ Y Z EJ rfl EK B;have h4:PE X (.Tuple [.Name y p2, .Name z j] k G) _:=uf (cH h2 (cH h3 iZ rfl) rfl);refine PE.imp (ci (sU hT hU) hg hm (by decide +kernel) (cH he (cH h4 iZ rfl) hs) (by decide) (by decide) hs rfl) fun σ H Q h => ?_
 obtain ⟨ρ,M,rs,rm,q⟩:=h;refine ⟨ρ,M,rs,rm,m _ _ _ _ (fun x M1 ⟨t,e,q1⟩ v H1 x1 rm1 EL => ?_) q⟩;refine ⟨by simp;decide,fun pp n => ?_⟩
 have st:=(Ru (M:=M1) (ho := .tup [.ty T, .ty U]) n).stab rm1;have F:=rm1.new (ho := .tup [.ty T, .ty U]) n;exact ⟨v,t,pp,rfl,aw,zd F (EL.mono st) e,qB e,q1 _ _ (x1.trans (Ru n)) F (Rm.mpr rfl)⟩
end
end Mi
end
section
section
variable {X:Cx} {pins:List (Addr×Obj)} {σ:St} {H:Hp} {s:D0}
theorem Inv.freeze (I:Inv X pins σ H s) {a:Addr} {ps:List (List Key×V)} (e:H a=some (.dT ps)):∃ o,Inv X pins σ (upd H a (.frz o (.dT ps))) s:=by
 obtain ⟨B,j,xs,pr,o,es,ep,h1,h2,F,G,J⟩:=id (I.hok a _ e);have mu:Mut (H a):=by rw [e];exact IX
 have u:Un X.fs [] H (upd H a (.frz o (.dT ps))) s.heap s.heap:=Un.write mu (.inl rfl) (fun b u _ q=>q) ⟨_,h1⟩;have ok:HOk X.prog X.w (upd H a (.frz o (.dT ps))) s.heap:=HOk.write I.hok mu (.inl rfl) (fun b u _ q=>q) ⟨_,h1⟩
  ⟨h1,(I.hok a _ e).stay (fun b u _ q=>q) (fun b q=>by rw [ak (fun z=>by subst z;rw [e] at q;cases q)];exact q) (fun b xs q=>by rw [ak (fun z=>by subst z;rw [e] at q;cases q)];exact q)⟩
 exact ⟨o,I.un (t':=s.toks) u ok⟩
end
noncomputable def Itk (n:Nat) (G:Hp->Prop) (yl:Nat->V->Hp->Prop):It:=⟨fun i H=>i < n/\G H,fun i H x H'=>H'=H/\yl i x H,fun i H=>n<=i/\G H⟩
theorem vC {P:Hu} {w:HW} {K:Frag} {tg:Expr} (a it:Addr) {cd:h7} {dd:Option Addr} {sl:Array (Option h7)} {es:Array JL} {ep:Nat} {G:Hp->Prop} {yl:Nat->V->Hp->Prop}
 (U:∀ H,G H -> ∃ u,H a=some (.frz { cls:=cd,dict:=dd,data := .dict es ep,slots:=sl } u)) (Z:∀ i H h,HOk P w H h->G H -> ∀ e,es[i]? = some e -> ∃ x,RelV x e.key/\yl i x H) :
 fo P w K tg (Itk es.size G yl) [it] it (fun i h=>i<=es.size/\h.get? it=some (Dk.kO a i es.size ep)) where
 mem:=by simp
 obj:=fun i h st b q=>by
  have e:b=it:=by simpa using q
  subst e;exact ⟨_,st.2,fun v z=>by cases z⟩
 keep:=fun i h h' st k=>⟨st.1,k it (by simp) _ st.2⟩
 item:=by
  intro X B hw F Y i pins s σ H E I hf st j;subst B hw F;obtain ⟨hi,j⟩:=j;obtain ⟨u,J⟩:=U H j;obtain ⟨f0,f1,f2,L,f4,O⟩:=hf it (by simp)
  obtain ⟨x,rx,yx⟩:=Z i H s.heap I.hok j es[i] (HM hi);refine Dk.nx_item (e:=es[i]) st.2 (I.hok a _ J).1 (HM hi) fun h' st' sb => ?_;have I1:Inv X pins σ H { s with heap:=h' }:=I.turned (t':=s.toks) (fun b o q e=>(sb.2 b q).trans e) f0 f1 L f4 O
  exact ⟨_,rfl,mG (s := { s with heap:=h' }) (n := "dict_keyiterator") st' rfl rfl (by decide) ⟨x,H,I1,rx,⟨rfl,yx⟩,⟨hi,st'⟩,fun b q=>(hf b q).1⟩⟩
 done:=by
  intro X B hw F Y i pins s σ H E I hf st j;subst B hw F;obtain ⟨hi,j⟩:=j;obtain ⟨u,J⟩:=U H j;obtain ⟨f0,f1,f2,L,f4,O⟩:=hf it (by simp)
  have e:i=es.size:=by have:=st.1;lia
  subst e;exact Dk.nx_end (I.ok.hd Y) st.2 (I.hok a _ J).1 fun h' k=>⟨rfl,I.turned (t':=s.toks) (fun b o q e=>k b o q e) f0 f1 L f4 O⟩
 self:=fun A i s Q E st h=>OJ ⟨_,st.2,rfl,rfl⟩ h
namespace Mi
section
variable {X:Cx}
noncomputable def sW (i:Nat) (t:TSd):TSd:=fun A ρ M => ∃ a kvs, ρ[i]? = some (some (.ref a))/\((M a=some (.dct true kvs)/\t A ρ (ag M a (.fdc kvs)))∨(M a=some (.fdc kvs)/\t A ρ M))
theorem yb {i:Nat} {t:TSd} (h:aF t):aF (sW i t):=fun a b ρ M l ⟨p,kvs,e,q⟩=>⟨p,kvs,e,q.imp (fun q=>⟨q.1,h _ _ _ _ l q.2⟩) fun q=>⟨q.1,h _ _ _ _ l q.2⟩⟩
theorem CD {st:Stmt} {i:Nat} {t:TSd} (h:PS X st (lS X.K t)):PS X st (lS X.K (sW i t)):=by
 intro pins s σ H D I ⟨ρ,M,A,rs,rm,lk,a,kvs,e,q⟩
 rcases q with ⟨m,q⟩ | ⟨m,q⟩
 ·obtain ⟨ps,j,pr⟩:=rm a _ m;obtain ⟨o,I'⟩:=I.freeze j;have sb:Stab H (upd H a (.frz o (.dT ps))):=rm.stabPut m;exact h pins s σ _ D I' ⟨ρ,ag M a (.fdc kvs),A,rs.mono sb,rm.put m ⟨o,ps,aw,Rp pr fun _ _ z=>⟨z.1,z.2.mono sb⟩⟩,lk.ext (Ext.put m),q⟩
 ·exact h pins s σ H D I ⟨ρ,M,A,rs,rm,lk,q⟩
noncomputable def jI (ta:TEd):TId:=fun ρ M R=>ta ρ M fun x M1 => ∃ a kvs,x = .ref a/\M1 a=some (.fdc kvs)/\R (kvs.map (·.1)) (fun _=>True) M1
theorem vD {ta:TEd} (h:ab ta):bW (jI ta):=fun ρ M Q Q' i q=>h _ _ _ _ (fun x z ⟨a,ds,e,e1,j⟩=>⟨a,ds,e,e1,i _ _ _ j⟩) q
theorem qN {K:Frag} {H:Hp}:∀ {kvs:List (D×D)} {es:List JL},HZ (kC K H) kvs es -> ∀ (i:Nat) (e:JL),es[i]? = some e -> ∃ (kv:D×D) (v:V),kvs[i]? = some kv/\RD K H kv.1 v/\RelV v e.key
 | _,_, .nil,_,_,h=>by simp at h
 | _,_, .cons r t,0,_,h=>by
   simp at h;subst h;obtain ⟨kV,vV,g1,g2,_,_⟩:=r;exact ⟨_,kV,rfl,g1,g2⟩
 | _,_, .cons _ t,i+1,e,h=>by
   obtain ⟨kv,v,h1,h2⟩:=qN t i e (by simpa using h)
   exact ⟨kv,v,by simpa using h1,h2⟩
theorem AN {tg e:Expr} {ta:TEd} (m:ab ta) (he:PE X e (lE X.K ta)):PI X tg e (lI X.K (jI ta)):=by
 intro pins s σ H R I h;obtain ⟨ρ,M,rs,rm,q⟩:=h;have hq:lE X.K ta σ H (fun v H1 => ∃ a kvs B,v = .ref a/\Ext M H B H1/\RM X.K B H1/\B a=some (.fdc kvs) /\ ∀ J,fE X.K H1 (kvs.map (·.1)) (fun _=>True) J->R J H1) :=
  ⟨ρ,M,rs,rm,m _ _ _ _ (fun x B ⟨a,kvs,e,e1,O⟩ v H1 U j rd1=>by
    subst e
    cases Rk.mp rd1
    exact ⟨a,kvs,B,rfl,U,j,e1,fun J ij=>O J H1 U j ij⟩) q⟩
 refine thn (he pins s σ H _ I hq) fun u s1 ⟨x,H1,F,r1,a,kvs,B,e0,U,j,e1,O⟩ => ?_;subst e0
 cases r1
 obtain ⟨o,ps,Y,pr⟩:=j _ _ e1;obtain ⟨Z,ok⟩:=F.hok a _ Y;obtain ⟨cd,dd,sl,es,ep,g1,g2,g3⟩:=oH ok pr;obtain ⟨ty,_,EJ⟩:=j6 F (.inr ⟨ps, .inr ⟨o,Y⟩⟩);rw [Z] at g1
 cases g1
 have EK:cd = .type "dict" := by
  obtain ⟨o,h1,h2⟩:=ty;rw [Z] at h1;cases h1;exact h2
 subst EK;have lz:kvs.length=es.size:=by have:=aW g3;simpa using this
 refine Dk.it_dict EJ Z ?_;refine ⟨s1.heap.objs.size,[s1.heap.objs.size],_,_,H1,rfl,F.kept (t':=s1.toks) fun b o e=>q7 _ e,vC (G:=fun H=>H a=some (.frz { cls := .type "dict",dict:=dd,data := .dict es ep,slots:=sl } (.dT ps))/\HZ (fun (p:D×D) (q:List Key×V)=>RKeys p.1 q.1/\RD X.K H p.2 q.2) kvs ps) (yl:=fun i x H => ∃ kv,kvs[i]? = some kv/\RD X.K H kv.1 x) a _ (fun H h=>⟨_,h.1⟩) (fun i H h hok ⟨ha,pr'⟩ e he => ?_),⟨J1 _,GY _ rfl⟩,fun b hb => ?_,O _ ?_⟩
 ·obtain ⟨z0,ok'⟩:=hok a _ ha;obtain ⟨cd,dd,sl',es',ep',z1,_,z3⟩:=oH ok' pr';rw [z0] at z1
  cases z1
  obtain ⟨kv,v,y1,y2,y3⟩:=qN z3 i e (by simpa using he)
  exact ⟨v,y3,kv,y1,y2⟩
 ·have e:b=s1.heap.objs.size:=by simpa using hb
  subst e;exact F.fpOk (Hc _) (F.hok.fresh (Hc _))
 ·intro M' H' st rm' _ i;have L:=st.frz _ _ _ Y;have pr':HZ (fun (p:D×D) (q:List Key×V)=>RKeys p.1 q.1/\RD X.K H' p.2 q.2) kvs ps:=Rp pr fun _ _ z=>⟨z.1,z.2.mono st⟩;rw [D2,lz];refine ⟨fun hi=>⟨hi,L,pr'⟩,fun hi=>⟨⟨hi,L,pr'⟩,fun x H'' y => ?_⟩⟩;obtain ⟨e,kv,y1,y2⟩:=y;subst e;exact ⟨.inl rfl,kv.1,by rw [HB,y1];rfl,y2⟩
end
end Mi
end
section
section
variable {prog:Hu} {w:HW} {K:Type} [DecidableEq K] {knd:HeapKind prog w K} {A:Ib} {E:h7->D0->Prop} {s:D0}
noncomputable def dh (ev:h7->h7->Bool) (xb:List (K×Addr×h7)) (x:K×Addr×h7):Bool:=match OA xb x.1 with
 | some p=>ev x.2.2 p.2
 | none=>false
theorem CF {nm:String} {a b:Addr} {xa xb:List (K×Addr×h7)} {ev:h7->h7->Bool} {Q:Bool->D0->Prop} (hu:knd.room A) (ha:(a==Iu)=false) (hb:(b==Iu)=false)
 (da:s.heap.DictOfH knd a xa) (db:s.heap.DictOfH knd b xb) (EO:∀ x∈xa, ∀ y∈xb,SeqAt.EqAt A s x.2.2 y.2.2 (ev x.2.2 y.2.2)) (h:Q (xa.length==xb.length&&xa.all (dh ev xb)) s) :
 Hd (model prog w) A (Oe nm a b) Q E s:=by
 obtain ⟨oa,es,ep,F,_,G,EL,EQ,EW⟩:=da;obtain ⟨ob,es',ep',L,_,O,U,ER,EM⟩:=db;have Y:xa.length=es.size:=(size_of_entries EL).symm;have ES:xb.length=es'.size:=(size_of_entries U).symm;rw [Y,ES] at h;unfold Oe Builtin.Dict.showsAll;rw [if_neg (show ¬ (a==Iu)=true by rw [ha];exact H0),if_neg (show ¬ (b==Iu)=true by rw [hb];exact H0)]
 refine gV (tv (gV (tv ?_)));refine gV (LL F G ?_);dsimp only;refine gV (LL L O ?_)
 by_cases hsz:es.size=es'.size
 case neg =>
  rw [if_pos (by simpa using hsz)]
  have ET:(es.size==es'.size)=false:=by simpa using hsz
  rw [ET,MR] at h;exact gV (IG (tv h))
 case pos =>
  have h':Q (xa.all (dh ev xb)) s:=by simpa [hsz] using h
  rw [if_neg (by rw [hsz];simp)]
  refine gV (wpAny_dictEpoch F G ?_);refine gV ?_;rw [Std.Legacy.Range.forIn_eq_forIn_range'];simp only [Std.Legacy.Range.size,Nat.sub_zero,Pt,Nat.div_one];refine wpAny_forIn_list _
   (fun rest q s'=>s'=s/\q=(none,()) /\ ∃ i,rest=List.range' i (es.size - i)/\i<=es.size/\xa.all (dh ev xb)=(xa.drop i).all (dh ev xb))
   _ ?_ ?_ _ _ ⟨rfl,rfl,0,by simp,J1 _,by simp⟩
  ·rintro x rest q s' ⟨rfl,rfl,i,Z,hi,z⟩;have EN:i < es.size:=by
    rcases Nat.lt_or_ge i es.size with h | h
    ·exact h
    ·rw [Nat.sub_eq_zero_of_le h] at Z;simp at Z
   obtain ⟨rfl,EJ⟩:x=i/\rest=List.range' (i+1) (es.size - (i+1)):=by
    have e:es.size - i=(es.size - (i+1))+1:=by lia
    rw [e,Qk] at Z
    injection Z with h1 h2
    exact ⟨h1,h2⟩
   have B:x < xa.length:=by rw [Y];exact EN
   refine gV (LL F G ?_);rw [entry_at EL x,D1 B];have EK:xa.drop x=xa[x]::xa.drop (x+1):=Iw B;have J:xa[x]∈xa:=Md B;rw [EK,K6] at z;show Hd _ _ (holding [_,_] _ >>= _) _ _ _;refine gV (Ii (gV (wpAny_dictFind_heap (k:=xa[x].1) (a:=xa[x].2.1) hu (EQ _ J) L O U ER EM (fun EU => ?_) (fun j p hj => ?_))))
   ·have hn:dh ev xb xa[x]=false:=by unfold dh;rw [atKey_none_of_get EU]
    rw [z,hn,MR] at h';refine tv ?_;show Hd _ _ (if (!false)=true then _ else _) _ _ _
    rw [if_pos (by decide)]
    exact tv (tv h')
   ·have hn:dh ev xb xa[x]=ev xa[x].2.2 p.2:=by unfold dh;rw [atKey_of_get EM hj]
    refine gV (LL L O ?_);rw [entry_at U j,hj];refine Ii (EO _ J _ (Hy hj) prog w _ _ ?_);show Hd _ _ (if (!(ev xa[x].2.2 p.2))=true then _ else _) _ _ _
    rw [hn] at z
    cases e:ev xa[x].2.2 p.2 with
    | false =>
      rw [e,MR] at z;rw [z] at h';rw [if_pos (by decide)]
      exact tv (tv h')
    | true =>
      rw [e,Bool.true_and] at z;rw [if_neg (by decide)]
      refine gV (wpAny_dictEpoch F G ?_);rw [if_neg (by simp)]
      exact tv ⟨rfl,rfl,x+1,EJ,EN,z⟩
  ·rintro q s' ⟨rfl,rfl,i,Z,hi,z⟩;have EV:i=es.size:=by
    rcases Nat.lt_or_ge i es.size with h | h
    ·have e:es.size - i=(es.size - (i+1))+1:=by lia
     rw [e,Qk] at Z;exact nomatch Z
    ·exact Nat.le_antisymm hi h
   refine tv ?_;rw [EV, <- Y,NM] at z;rw [z] at h';exact h'
theorem DT {a b:Addr} {xa xb:List (K×Addr×h7)} {ev:h7->h7->Bool} {Q:h7->D0->Prop} (q:A.units < JH) (z:knd.room A.in1) (B:(a==Iu)=false) (G:(b==Iu)=false)
 (da:s.heap.DictOfH knd a xa) (db:s.heap.DictOfH knd b xb) (j:∀ x∈xa, ∀ y∈xb,SeqAt.EqAt A.in1 s x.2.2 y.2.2 (ev x.2.2 y.2.2)) (h:Q (.bool (!(xa.length==xb.length&&xa.all (dh ev xb)))) s) :
 Hd (model prog w) A (Il .NotEq (.ref a) (.ref b)) Q E s:=by
 refine MK (op := .NotEq) da.typeIs db.typeIs OL (HX OL da.typeIs PySem.F.entry_dict_ne ?_ (PySem.F.args_dict_ne_2 _ _)) q;show Hd _ _ (Nh "__ne__" ⟨[.ref a, .ref b],[]⟩ >>= _) _ _ s;refine gV ?_;unfold Nh;refine gV (wpAny_notOrdered_dict da.typeIs ?_);show Hd _ _ (pure (I9 a,I9 b)) _ _ s;refine tv ?_;refine gV (Jh (T := "dict") db.typeIs PySem.F.sub_dict_dict ?_);simp only [Bool.not_true,IY,if_false];refine gV (tv (gV (tv ?_)));refine gV (CF z B G da db j ?_);refine tv ⟨_,rfl, ?_, ?_⟩
 ·exact fun x=>nomatch x
 ·simpa using h
end
namespace Mi
section
variable {X:Cx}
def dI (M:Mem) (a:Addr) (kvs:List (D×D)):Prop:=(M a=some (.dct true kvs)∨M a=some (.fdc kvs)) /\ ∀ kv∈kvs, ∃ i,kv.2 = .int i
noncomputable def eqD (ps qs:List (D×D)):Bool:=ps.length==qs.length&&ps.all fun kv=>decide (dget qs kv.1=some kv.2)
noncomputable def sX:R2d:=fun x y M Q => ∃ a b ps qs,x = .ref a/\y = .ref b/\dI M a ps/\dI M b qs/\Q (.bl (!eqD ps qs)) M
theorem yc:ar sX:=fun _ _ _ _ _ h ⟨a,b,ps,qs,e1,e2,j,z,q⟩=>⟨a,b,ps,qs,e1,e2,j,z,h _ _ q⟩
noncomputable def evI:h7->h7->Bool
 | .int i _, .int j _=>i==j
 | _,_=>false
theorem dI.at {K:Frag} {M:Mem} {H:Hp} {a:Addr} {kvs:List (D×D)} (rm:RM K M H) (h:dI M a kvs):∃ ps,Rd H a (.dT ps)/\HZ (fun (p:D×D) (q:List Key×V)=>RKeys p.1 q.1/\RD K H p.2 q.2) kvs ps:=by
 rcases h.1 with e | e
 ·obtain ⟨ps,j,pr⟩:=rm a _ e;exact ⟨ps, .inl j,pr⟩
 ·obtain ⟨o,ps,j,pr⟩:=rm a _ e;exact ⟨ps, .inr ⟨o,j⟩,pr⟩
theorem oQ {K:Frag} {H:Hp} {kvs:List (D×D)} {ps:List (List Key×V)} {xs:List (List Key×Addr×h7)} (pr:HZ (fun (p:D×D) (q:List Key×V)=>RKeys p.1 q.1/\RD K H p.2 q.2) kvs ps) (kt:KT H ps xs) (hi:∀ kv∈kvs, ∃ i,kv.2 = .int i):∀ x∈xs, ∃ i t,x.2.2 = .int i t:=by
 induction pr generalizing xs with
 | nil=>cases kt;intro x hx;exact nomatch hx
 | @cons p q ps qs h t ih =>
  cases kt with
  | cons g gt =>
    intro x hx
    rcases Ha.mp hx with e | hx
    ·subst e;obtain ⟨i,ei⟩:=hi p (by simp)
     have:=h.2;rw [ei] at this;have z:=g.2.2;rw [Rj.mp this] at z;obtain ⟨t,B⟩:=z;exact ⟨i,t,B⟩
    ·exact ih gt (fun kv j=>hi kv (by simp [j])) x hx
theorem CG {K:Frag} {H:Hp} {kvs:List (D×D)} {ps:List (List Key×V)} {xs:List (List Key×Addr×h7)} (pr:HZ (fun (p:D×D) (q:List Key×V)=>RKeys p.1 q.1/\RD K H p.2 q.2) kvs ps) (kt:KT H ps xs) (hi:∀ kv∈kvs, ∃ i,kv.2 = .int i)
 {k:D} {q:List Key} (G:RKeys k q) (i:Int) (t:Tok) (b:Addr):dh evI xs (q,b, .int i t)=decide (dget kvs k=some (.int i)):=by
 obtain ⟨g1,g2⟩:=fA (RK:=RKeys) RKeys.inj RKeys.fun G pr;have B:=KT.val kt q;unfold dh;dsimp only
 cases e:dget kvs k with
 | none =>
   rw [g2 e] at B
   cases z:OA xs q with
   | none=>simp
   | some p=>rw [z] at B;exact B.elim
 | some d =>
   obtain ⟨v,e1,e2⟩:=g1 d e;rw [e1] at B
   cases z:OA xs q with
   | none=>rw [z] at B;exact B.elim
   | some p =>
     rw [z] at B;obtain ⟨j,ej⟩:∃ j,d = .int j:=by
      unfold dget at e;obtain ⟨kv,h1,h2⟩:=Kh.mp e;obtain ⟨j,J⟩:=hi kv (List.mem_of_find?_eq_some h1);exact ⟨j,by rw [<- h2];exact J⟩
     subst ej
     cases Rj.mp e2
     obtain ⟨t',L⟩:∃ t',p.2 = .int j t':=B;dsimp only;rw [L];show (i==j)=decide (some (D.int j)=some (D.int i))
     by_cases hij:i=j
     ·subst hij;simp
     ·have F : ¬ j=i:=fun z=>hij z.symm;simp [hij,F]
theorem CH {K:Frag} {H:Hp} {kvs ls:List (D×D)} {ps us:List (List Key×V)} {xs ys:List (List Key×Addr×h7)} (pr:HZ (fun (p:D×D) (q:List Key×V)=>RKeys p.1 q.1/\RD K H p.2 q.2) kvs ps) (kt:KT H ps xs) (hi:∀ kv∈kvs, ∃ i,kv.2 = .int i)
 (pr':HZ (fun (p:D×D) (q:List Key×V)=>RKeys p.1 q.1/\RD K H p.2 q.2) ls us) (kt':KT H us ys) (j:∀ kv∈ls, ∃ i,kv.2 = .int i) :
 (xs.length==ys.length&&xs.all (dh evI ys))=eqD kvs ls:=by
 have l1:xs.length=kvs.length:=by rw [aW pr,aW kt]
 have l2:ys.length=ls.length:=by rw [aW pr',aW kt']
 unfold eqD;rw [l1,l2];congr 1;clear l1 l2
 induction pr generalizing xs with
 | nil=>cases kt;rfl
 | @cons p q ps qs h t ih =>
  cases kt with
  | @cons _ x _ xs g gt =>
   rw [K6,K6,ih gt (fun kv B=>hi kv (by simp [B]))]
   congr 1;obtain ⟨i,ei⟩:=hi p (by simp)
   have:=h.2;rw [ei] at this;have z:=g.2.2;rw [Rj.mp this] at z;obtain ⟨t,F⟩:∃ t',x.2.2 = .int i t':=z;obtain ⟨J,G,L⟩:=x;dsimp only at F g;subst F;rw [ei, <- g.1];exact CG pr' kt' j h.1 i t G
theorem yd {pins:List (Addr×Obj)} {σ:St} {H:Hp} {s:D0} {M:Mem} {A:Ib} {E:h7->D0->Prop} {Q:h7->D0->Prop} {ps qs:List (D×D)} {a b:Addr} (J:A.units+2 < JH) (I:Inv X pins σ H s) (rm:RM X.K M H) (h1:dI M a ps) (h2:dI M b qs) (h:Q (.bool (!eqD ps qs)) s):Hd (model X.prog X.w) A (Il .NotEq (.ref a) (.ref b)) Q E s:=by
 obtain ⟨us,z,pr⟩:=h1.at rm;obtain ⟨vs,q,pr'⟩:=h2.at rm;obtain ⟨_,sm,xs,kt,dd⟩:=gJ I.hok z;obtain ⟨_,sm',ys,kt',dd'⟩:=gJ I.hok q;have B:=oQ pr kt h1.2;have F:=oQ pr' kt' h2.2;refine DT (ev:=evI) (by lia) (Ki (by lia)) sm sm' dd dd' (fun x hx y G => ?_) (by rw [CH pr kt h1.2 pr' kt' h2.2];exact h)
 obtain ⟨i,t,e⟩:=B x hx;obtain ⟨j,u,e'⟩:=F y G;rw [e,e'];exact SeqAt.EqAt.int_int i t j u
theorem ye (j:X.A.units+2 < JH):OpR X (Il .NotEq) (l2 X.K sX):=by
 intro pins s σ H x y v u Q I rx ry h;obtain ⟨x',y',M,rm,rdx,rdy,a,b,ps,qs,rfl,rfl,h1,h2,q⟩:=h
 cases Rk.mp rdx
 cases Rk.mp rdy
 cases rx
 cases ry
 exact yd j I rm h1 h2 ⟨.bl (!eqD ps qs),H,I,rfl,q _ H Ext.refl rm (Rm.mpr rfl)⟩
end
end Mi
end
section
section
variable {X:Cx}
noncomputable def qO:V->List V->Hp->VK->Prop:=fun x vs H Q => ∃ (l:Addr) (xs:List V) (i:Int) (y:V),x = .ref l/\vs=[.int i,y]/\H l=some (.lst xs)/\0<=i/\i.toNat<=xs.length/\xs.length < GX/\Q .non (upd H l (.lst (xs.take i.toNat++y::xs.drop i.toNat)))
theorem RE:∀ {xs:List V} {us:List h7} (n:Nat),Vals xs us->Vals (xs.take n) (us.take n)
 | _,_,0,_=>by simp only [List.take_zero];exact .nil
 | _,_,_+1, .nil => .nil
 | _,_,n+1, .cons r t => .cons r (RE n t)
theorem RF:∀ {xs:List V} {us:List h7} (n:Nat),Vals xs us->Vals (xs.drop n) (us.drop n)
 | _,_,0,r=>r
 | _,_,_+1, .nil => .nil
 | _,_,n+1, .cons _ t=>RF n t
theorem vE:MtM X "list.insert" qO:=by
 intro pins s σ H x vs v us Q I rx rv h;obtain ⟨l,xs,i,y,rfl,rfl,G,h0,L,J,q⟩:=h
 cases rx
 obtain ⟨u,j,rfl,ru,B⟩:=mH rv;obtain ⟨t,rfl⟩:=ru;obtain ⟨z,its,n,r,O,e⟩:=I.lstM G;have hf : ¬(!Builtin.List.listFitsIndex i)=true:=by
  have:N8 i=true:=by
   unfold N8;rw [GU] at J;rw [z4];exact ⟨decide_eq_true (by lia),decide_eq_true (by lia)⟩
  rw [this];decide
 have hs:its.toArray.size<=GX:=by rw [H9];lia
 have mt:=PySem.AutoSeq1.list_insert_list_int_val_1 l its.toArray n i t j hf hs;refine KL NA ⟨_,e,rfl⟩ PySem.F.entry_list_insert (PySem.F.args_list_insert_3 _ _ _) mt ⟨e, ?_⟩;refine ⟨.non,_,I.lset (its':=its.take i.toNat++j::its.drop i.toNat) G e ?_ ((RE i.toNat r).append (.cons B (RF i.toNat r))) ?_,rfl,q⟩
 ·have hm:(if i < 0 then (i+(its.toArray.size:Int)).toNat else min i.toNat its.toArray.size)=i.toNat:=by
   rw [if_neg (by lia),H9];lia
  show (its.toArray.extract 0 (if i < 0 then (i+(its.toArray.size:Int)).toNat else min i.toNat its.toArray.size)).push j++its.toArray.extract (if i < 0 then (i+(its.toArray.size:Int)).toNat else min i.toNat its.toArray.size)=_
  rw [hm];apply Array.ext';simp only [List.extract_toArray,List.push_toArray,List.append_toArray];simp [Kj]
 ·rw [GR,HR,Hq,J0];lia
end
namespace Mi
noncomputable def kD:D->List D->Mem->QD->Prop:=fun x ds M Q => ∃ (a:Addr) (xs:List D) (i:Int) (y:D),x = .ref a/\ds=[.int i,y]/\M a=some (.lst xs)/\0<=i/\i.toNat<=xs.length/\xs.length < GX/\Q .non (ag M a (.lst (xs.take i.toNat++y::xs.drop i.toNat)))
theorem iu:du kD:=fun _ _ _ _ _ h ⟨a,xs,k,y,e1,e2,j,B,z,F,q⟩=>⟨a,xs,k,y,e1,e2,j,B,z,F,h _ _ q⟩
theorem yf {K:Frag} (v:V) (vs:List V) (H:Hp) (Q:VK) (h:lMt K kD v vs H Q):qO v vs H Q:=by
 obtain ⟨x,ds,M,rm,rx,rs,a,xs,i,y,rfl,rfl,e,j,z,B,q⟩:=h
 cases Rk.mp rx
 obtain ⟨J,w,rfl,F,rw'⟩:=rs.two
 cases Rj.mp F
 obtain ⟨us,G,ru⟩:=rm _ _ e;exact ⟨a,us,i,w,rfl,rfl,G,j,by rw [ru.length];exact z,by rw [ru.length];exact B,eU rm e ((ru.take i.toNat).append (RDs.cons rw' (ru.drop i.toNat))) (Rr.mpr rfl) q⟩
end Mi
end
end L2
namespace L2
namespace Mi
open PySem PySem.Spec PyProof.Rows
end Mi
end L2
namespace L2
namespace It
open PySem PySem.Spec PyProof.Rows
end It
open PySem PySem.Spec PyProof.Rows
namespace Mi
end Mi
end L2
namespace L2
open PySem PySem.Spec PyProof.Rows
section
section
variable {X:Cx}
noncomputable def DU:R2:=fun x y H Q => ∃ l b xs zs,x = .ref l/\y = .ref b/\H l=some (.lst xs)/\H b=some (.lst zs)/\xs.length+zs.length<=GX/\Q (.ref l) (upd H l (.lst (xs++zs)))
theorem DV {M:LO} {A:Ib} {E:h7->D0->Prop} {s:D0} {a b:h7} {Q:h7->D0->Prop} (z:s.TypeIs a "list") (J:s.TypeIs b "list")
 (L:Hd M A (call (.builtin "list.__iadd__") [a,b]) Q E s):Hd M A (JK .Add a b) Q E s:=by
 unfold JK;refine Ii ?_;have B:Pn (.type "list") (dunderI "add")=pure (some (.builtin "list.__iadd__")):=PySem.F.slot_list_iadd.lookup;have G:isSeqSlot (some (.builtin "list.__iadd__"))=true:=by decide +kernel
 have j:Ql (.type "list") "add" (Operator.Add == .Add)=pure false:=by
  unfold Ql;show (Pn (.type "list") (dunderI "add") >>= fun fi=>pure (fi.isSome && !isSeqSlot fi))=pure false;rw [B,pure_bind,G];rfl
 have q:seqSlot? (.type "list") (dunderI "add")=pure (some (.builtin "list.__iadd__")):=PySem.seqSlot_of B G;refine gV (JF z (gV (JI j ?_)));show Hd M A (if false=true then _ else _) Q E s
 rw [if_neg H0];refine gV (PySem.wpAny_binaryOp1_none (nm := "add") z J PySem.noFill_list_add ?_);refine gV (JI q ?_);exact gV (IG L)
theorem AO:OpR X (JK .Add) DU:=by
 intro pins s σ H x y v u Q I rx ry h;obtain ⟨l,b,xs,zs,rfl,rfl,G,J,Y,q⟩:=h
 cases rx
 cases ry
 obtain ⟨z,its,n,r,Z,e⟩:=I.lstM G;obtain ⟨z2,j,L,O,U,e2⟩:=I.lstM J;have hsz:its.toArray.size+j.toArray.size<=GX:=by rw [H9,H9];lia
 have B : ¬ (!its.toArray.isEmpty&&K2 (its.toArray.size+j.toArray.size))=true:=by
  rw [n6 hsz,Bool.and_false];exact H0
 refine DV ⟨_,e,rfl⟩ ⟨_,e2,rfl⟩ (KL PySem.F.slot_list_iadd ⟨_,e,rfl⟩ PySem.F.entry_list_iadd (PySem.F.args_list_iadd_2 _ _)
  (AutoSeq1.list___iadd___list_list_0 l its.toArray n b j.toArray L B (by rw [H9];lia) (by lia)) ⟨e,e2, ?_⟩)
 refine ⟨.ref l,_,I.lset (its':=its++j) G e (by simp) (r.append O) ?_,rfl,q⟩
 rw [GR];lia
end
namespace Mi
section
variable {X:Cx}
noncomputable def sY:R2d:=fun x y M Q => ∃ a b xs ys,x = .ref a/\y = .ref b/\M a=some (.lst xs)/\M b=some (.lst ys)/\xs.length+ys.length<=GX/\Q (.ref a) (ag M a (.lst (xs++ys)))
theorem lW:ar sY:=fun _ _ _ _ _ h ⟨a,b,xs,y,e1,e2,j,B,z,q⟩=>⟨a,b,xs,y,e1,e2,j,B,z,h _ _ q⟩
theorem vF:OpR X (JK .Add) (l2 X.K sY):=by
 refine OpR.of AO fun v u H Q h => ?_;obtain ⟨x,y,M,rm,rx,ry,a,b,xs,ys,rfl,rfl,e1,e2,z,q⟩:=h
 cases Rk.mp rx
 cases Rk.mp ry
 obtain ⟨us,j,ru⟩:=rm _ _ e1;obtain ⟨ws,B,rw'⟩:=rm _ _ e2;exact ⟨a,b,us,ws,rfl,rfl,j,B,by rw [ru.length,rw'.length];exact z,eU rm e1 (ru.append rw') (Rk.mpr rfl) q⟩
end
end Mi
end
end L2
namespace L2
open PySem PySem.Spec PyProof.Rows
namespace Mi
open L2.Srt
end Mi
end L2
namespace L2
open PySem PySem.Spec PyProof.Rows
end L2
namespace L2
namespace Mi
open PySem PySem.Spec PyProof.Rows
end Mi
end L2
namespace L2
open PySem PySem.Spec PyProof.Rows
namespace Mi
end Mi
end L2
namespace L2
namespace Mi
open PySem PySem.Spec PyProof.Rows
section
mutual
noncomputable def GV (K:Frag):D->h7->Prop
 | .int i,v => ∃ t,v = .int i t
 | .str x,v => ∃ t,v = .str x t
 | .tup ds,v => ∃ a o its n,v = .ref a/\K.lookup a=some o/\o.cls = .type "tuple" /\ o.data = .seq its n/\its.size<=GX/\fk ds=false/\GVs K ds its.toList
 | _,_=>False
noncomputable def GVs (K:Frag):List D->List h7->Prop
 | [],us=>us=[]
 | d::ds,us => ∃ u r,us=u::r/\GV K d u/\GVs K ds r
end
theorem GV.ints {K:Frag} {i:Int} {t}:GV K (.int i) (.int i t):=by unfold GV;exact ⟨t,rfl⟩
theorem GV.tups {K:Frag} {ds:List D} {a:Addr} {od sl} {its:Array h7} {n:Nat} (h:K.lookup a=some ⟨.type "tuple",od, .seq its n,sl⟩) (j:its.size<=1000) (f:fk ds=false) (r:GVs K ds its.toList):GV K (.tup ds) (.ref a):=by
 unfold GV;exact ⟨a,_,its,n,rfl,h,rfl,rfl,by rw [GU];lia,f,r⟩
theorem GVs.nil {K:Frag}:GVs K [] []:=by unfold GVs;rfl
theorem GVs.cons {K:Frag} {d:D} {ds:List D} {u:h7} {us:List h7} (h:GV K d u) (r:GVs K ds us):GVs K (d::ds) (u::us):=by unfold GVs;exact ⟨u,us,rfl,h,r⟩
mutual
theorem zn {K:Frag}:∀ {d:D} {u:h7},GV K d u -> ∃ v,RelV v u /\ ∀ H,RD K H d v
 | .int i,u,h=>by unfold GV at h;obtain ⟨t,rfl⟩:=h;exact ⟨.int i,⟨t,rfl⟩,fun H=>Rj.mpr rfl⟩
 | .str i,u,h=>by unfold GV at h;obtain ⟨t,rfl⟩:=h;exact ⟨.str i,⟨t,rfl⟩,fun H=>Rt.mpr rfl⟩
 | .tup ds,u,h=>by
  unfold GV at h;obtain ⟨a,o,its,n,rfl,h1,h2,j,q,z,B⟩:=h;obtain ⟨vs,g1,g2⟩:=gvs_rd B;exact ⟨.ref a,rfl,fun H=>Rx.mpr ⟨a,vs,rfl, .inr ⟨z, .inr ⟨o,its,n,h1,h2,j,q,g1⟩⟩,g2 H⟩⟩
 | .non,u,h=>by unfold GV at h;exact h.elim
 | .bl _,u,h=>by unfold GV at h;exact h.elim
 | .con _,u,h=>by unfold GV at h;exact h.elim
 | .ref _,u,h=>by unfold GV at h;exact h.elim
theorem gvs_rd {K:Frag}:∀ {ds:List D} {us:List h7},GVs K ds us -> ∃ vs,Vals vs us /\ ∀ H,RDs K H ds vs
 | [],us,h=>by unfold GVs at h;subst h;exact ⟨[], .nil,fun H=>RDs.nil⟩
 | d::ds,us,h=>by
   unfold GVs at h;obtain ⟨u,r,rfl,h1,h2⟩:=h;obtain ⟨v,g1,g2⟩:=zn h1;obtain ⟨vs,g3,j⟩:=gvs_rd h2;exact ⟨v::vs, .cons g1 g3,fun H=>RDs.cons (g2 H) (j H)⟩
end
end
section
inductive BOp where | add | sub | mul | fdiv | mod | pow | ext
inductive COp where | eq | ne | lt | le | gt | ge | neD
inductive BF where | len | abs | min2 | int | list | tuple | all | dict | sortk
inductive MF where | append
inductive MF0 where | clear | reverse
mutual
inductive MG where
 | name (i:Nat)
 | tup (gs:MGs)
inductive MGs where
 | nil
 | cons (g:MG) (r:MGs)
end
mutual
inductive ME where
 | var (i:Nat)
 | int (i:Int)
 | bl (b:Bool)
 | non
 | bin (op:BOp) (a b:ME)
 | neg (a:ME)
 | cmp (op:COp) (a b:ME)
 | and (es:MEs)
 | or (es:MEs)
 | not (a:ME)
 | ite (c:MT) (a b:ME)
 | tup (es:MEs)
 | lst (es:MEs)
 | ix (a b:ME)
 | sl (a:ME) (lo hi:MO)
 | call (f:Nat) (es:MEs)
 | blt (f:BF) (es:MEs)
 | isin (a:ME) (T:String)
 | isin2 (a:ME) (T U:String)
 | chain (op op':COp) (a b c:ME)
 | glob (x:Str) (d:D)
 | dnew (t:Bool)
 | dget (o k x:ME)
 | meth (m:MF) (o a:ME)
 | meth0 (m:MF0) (o:ME)
 | ins (o i a:ME)
 | comp (fr:List (Option Nat)) (N:List Str) (c:MC)
inductive MEs where
 | nil
 | cons (e:ME) (r:MEs)
inductive MO where
 | none
 | some (e:ME)
inductive MT where
 | tru (e:ME)
 | cmp (op:COp) (a b:ME)
 | chain (op op':COp) (a b c:ME)
 | and (ts:MTs)
 | or (ts:MTs)
 | not (t:MT)
inductive MTs where
 | nil
 | cons (t:MT) (r:MTs)
inductive MI where
 | seq (e:ME)
 | rng1 (a:ME)
 | zip (a b:ME)
 | zip3 (a b c:ME)
 | enum (a:ME)
 | keys (a:ME)
inductive MC where
 | last (src:MI) (g:MG) (ifs:MTs) (elt:ME)
 | more (src:MI) (g:MG) (ifs:MTs) (rest:MC)
end
mutual
inductive MS where
 | asg (g:MG) (e:ME)
 | par (i j:Nat) (a b:ME)
 | put (o i e:ME)
 | aug (i:Nat) (op:BOp) (e:ME)
 | augI (o i:ME) (op:BOp) (e:ME)
 | drop (e:ME)
 | ret (e:ME)
 | ite (c:MT) (a b:MSs)
 | for (g:MG) (src:MI) (b:MSs)
 | while (c:MT) (b:MSs)
 | frz (i:Nat) (s:MS)
 | pass | brk | cnt
inductive MSs where
 | nil
 | cons (s:MS) (r:MSs)
end
noncomputable def opB:BOp->R2d
 | .add=>fY | .sub=>kn | .mul=>ko | .fdiv=>mL | .mod=>sj | .pow=>sk | .ext=>fY
noncomputable def opC:COp->R2d
 | .eq=>wEq | .ne=>wNe | .lt=>wLt | .le=>wLe | .gt=>wGt | .ge=>wGe| .neD=>sX
noncomputable def opF:BF->RAd
 | .len=>fB | .abs=>nE| .min2=>mM | .int=>nF | .list=>sx | .tuple=>nI| .all=>sH| .dict=>sR | .sortk=>oO
noncomputable def opM:MF->D->List D->Mem->QD->Prop
 | .append=>kx
noncomputable def sZ:MF0->D->List D->Mem->QD->Prop
 | .clear=>nP | .reverse=>iE
noncomputable def opI:BOp->R2d
 | .add=>mN | .sub=>mP | .mul=>mQ | .ext=>sY | _=>fun _ _ _ _=>False
theorem oR:∀ o,ar (opB o)
 | .add=>nA | .sub=>xt | .mul=>xu | .fdiv=>uG | .mod=>xv | .pow=>xw | .ext=>nA
theorem ba:∀ o,ar (opC o)
 | .eq=>A5 | .ne=>A6 | .lt=>A9 | .le=>Aa | .gt=>Ab | .ge=>Ac| .neD=>yc
theorem yg:∀ o,aX (opF o)
 | .len=>nD | .abs=>nG| .min2=>lj | .int=>nH | .list=>ll | .tuple=>je| .all=>oi| .dict=>lU | .sortk=>jH
theorem yh:∀ o,du (opM o)
 | .append=>io
theorem vG:∀ o,du (sZ o)
 | .clear=>jm | .reverse=>fZ
theorem oS:∀ o,ar (opI o)
 | .add=>gh | .sub=>gi | .mul=>gj | .ext=>lW
 | .fdiv=>fun _ _ _ _ _ _ q=>q.elim | .mod=>fun _ _ _ _ _ _ q=>q.elim | .pow=>fun _ _ _ _ _ _ q=>q.elim
noncomputable abbrev Phi:=Nat->RAd
mutual
noncomputable def bG:MG->BT
 | .name i=>bw i
 | .tup gs=>ky (bGs gs)
noncomputable def bGs:MGs->BTs
 | .nil=>fD
 | .cons g r=>bE (bG g) (bGs r)
end
mutual
noncomputable def wE (Φ:Phi):ME->TEd
 | .var i=>cy i
 | .int i=>wC (.int i)
 | .bl b=>wC (.bl b)
 | .non=>wC .non
 | .bin op a b=>wOp (opB op) (wE Φ a) (wE Φ b)
 | .neg a=>wUn sn (wE Φ a)
 | .cmp op a b=>wOp (opC op) (wE Φ a) (wE Φ b)
 | .and es=>wAnds Φ es
 | .or es=>wOrs Φ es
 | .not a=>ji (wE Φ a)
 | .ite c a b=>wIf (wT Φ c) (wE Φ a) (wE Φ b)
 | .tup es=>wAr nr (wA Φ es)
 | .lst es=>wAr nv (wA Φ es)
 | .ix a b=>wOp wIx (wE Φ a) (wE Φ b)
 | .sl a lo hi=>wSl (wE Φ a) (wO Φ lo) (wO Φ hi)
 | .call f es=>wAr (Φ f) (wA Φ es)
 | .blt f es=>wAr (opF f) (wA Φ es)
 | .isin a T=>jk T (wE Φ a)
 | .isin2 a T U=>gn T U (wE Φ a)
 | .chain op op' a b c=>cU (opC op) (opC op') (wE Φ a) (wE Φ b) (wE Φ c)
 | .glob _ d=>wC d
 | .dnew t=>jy t
 | .dget o k x=>jD (wE Φ o) (wE Φ k) (wE Φ x)
 | .meth m o a=>wBM (opM m) (wE Φ o) (aD (wE Φ a) bq)
 | .meth0 m o=>wBM (sZ m) (wE Φ o) bq
 | .ins o i a=>wBM kD (wE Φ o) (aD (wE Φ i) (aD (wE Φ a) bq))
 | .comp fr _ c=>wCmp Φ fr c
noncomputable def wA (Φ:Phi):MEs->TAd
 | .nil=>bq
 | .cons e r=>aD (wE Φ e) (wA Φ r)
noncomputable def wAnds (Φ:Phi):MEs->TEd
 | .nil=>fun _ _ _=>False
 | .cons e .nil=>wE Φ e
 | .cons e (.cons f r)=>jh (wE Φ e) (wAnds Φ (.cons f r))
noncomputable def wOrs (Φ:Phi):MEs->TEd
 | .nil=>fun _ _ _=>False
 | .cons e .nil=>wE Φ e
 | .cons e (.cons f r)=>nM (wE Φ e) (wOrs Φ (.cons f r))
noncomputable def wO (Φ:Phi):MO->TOd
 | .none=>eT
 | .some e=>jj (wE Φ e)
noncomputable def wT (Φ:Phi):MT->TTd
 | .tru e=>nK (wE Φ e)
 | .cmp op a b=>fx (wOp (opC op) (wE Φ a) (wE Φ b))
 | .chain op op' a b c=>fx (cU (opC op) (opC op') (wE Φ a) (wE Φ b) (wE Φ c))
 | .and ts=>wAndTs Φ ts
 | .or ts=>wOrTs Φ ts
 | .not t=>jf (wT Φ t)
noncomputable def wAndTs (Φ:Phi):MTs->TTd
 | .nil=>fun _ _ _=>False
 | .cons e .nil=>wT Φ e
 | .cons e (.cons f r)=>jg (wT Φ e) (wAndTs Φ (.cons f r))
noncomputable def wOrTs (Φ:Phi):MTs->TTd
 | .nil=>fun _ _ _=>False
 | .cons e .nil=>wT Φ e
 | .cons e (.cons f r)=>nL (wT Φ e) (wOrTs Φ (.cons f r))
noncomputable def wTl (Φ:Phi):MTs->List TTd
 | .nil => []
 | .cons t r=>wT Φ t::wTl Φ r
noncomputable def wI (Φ:Phi):MI->TId
 | .seq e=>nQ (wE Φ e)
 | .rng1 a=>jn (aD (wE Φ a) bq)
 | .zip a b=>nR (wE Φ a) (wE Φ b)
 | .zip3 a b c=>jo (wE Φ a) (wE Φ b) (wE Φ c)
 | .enum a=>jq (wE Φ a)
 | .keys a=>jI (wE Φ a)
noncomputable def wCl (Φ:Phi):MC->TCd
 | .last src g ifs elt=>dD (wI Φ src) (bG g) (br (wTl Φ ifs) (cz (wE Φ elt)))
 | .more src g ifs rest=>dD (wI Φ src) (bG g) (br (wTl Φ ifs) (wCl Φ rest))
noncomputable def wCmp (Φ:Phi) (fr:List (Option Nat)):MC->TEd
 | .last src g ifs elt=>gP fr (wI Φ src) (bG g) (br (wTl Φ ifs) (cz (wE Φ elt)))
 | .more src g ifs rest=>gP fr (wI Φ src) (bG g) (br (wTl Φ ifs) (wCl Φ rest))
end
mutual
noncomputable def wS (Φ:Phi):MS->TSd
 | .asg g e=>fH (wE Φ e) (bG g)
 | .par i j a b=>nV (aD (wE Φ a) (aD (wE Φ b) bq)) (bE (bw i) (bE (bw j) fD))
 | .put o i e=>nX (wE Φ e) (wE Φ o) (wE Φ i)
 | .aug i op e=>og i (opI op) (wE Φ e)
 | .augI o i op e=>jw (wE Φ o) (wE Φ i) (wE Φ e) (opI op)
 | .drop e=>ju (wE Φ e)
 | .ret e=>nU (wE Φ e)
 | .ite c a b=>sIf (wT Φ c) (wSs Φ a) (wSs Φ b)
 | .for g src b=>nW (wI Φ src) (bG g) (wSs Φ b)
 | .while c b=>gd (wT Φ c) (wSs Φ b)
 | .frz i s=>sW i (wS Φ s)
 | .pass=>gQ
 | .brk=>gc
 | .cnt=>jt
noncomputable def wSs (Φ:Phi):MSs->TSd
 | .nil=>gQ
 | .cons s r=>nT (wS Φ s) (wSs Φ r)
end
section
variable {Φ:Phi} (hΦ:∀ f,aX (Φ f))
include hΦ
mutual
theorem mE:∀ m,ab (wE Φ m)
 | .var _=>xr
 | .int _=>jc
 | .bl _=>jc
 | .non=>jc
 | .bin op a b=>eS (oR op) (mE a) (mE b)
 | .neg a=>A2 nC (mE a)
 | .cmp op a b=>eS (ba op) (mE a) (mE b)
 | .and es=>mAnds es
 | .or es=>mOrs es
 | .not a=>uN (mE a)
 | .ite c a b=>Aj (mT c) (mE a) (mE b)
 | .tup es=>gL uD (mA es)
 | .lst es=>gL uE (mA es)
 | .ix a b=>eS qw (mE a) (mE b)
 | .sl a lo hi=>Am (mE a) (mO lo) (mO hi)
 | .call f es=>gL (hΦ f) (mA es)
 | .blt f es=>gL (yg f) (mA es)
 | .isin a T=>uQ (mE a)
 | .isin2 a T U=>sV (mE a)
 | .chain op op' a b c=>fI (ba op) (ba op') (mE a) (mE b) (mE c)
 | .glob _ _=>jc
 | .dnew _=>vd
 | .dget o k x=>vz (mE o) (mE k) (mE x)
 | .meth m o a=>kw (yh m) (mE o) (al (mE a) ao)
 | .meth0 m o=>kw (vG m) (mE o) ao
 | .ins o i a=>kw iu (mE o) (al (mE i) (al (mE a) ao))
 | .comp fr _ c=>mCmp fr c
theorem mA:∀ m,bp (wA Φ m)
 | .nil=>ao
 | .cons e r=>al (mE e) (mA r)
theorem mAnds:∀ m,ab (wAnds Φ m)
 | .nil=>fun _ _ _ _ _ q=>q.elim
 | .cons e .nil=>mE e
 | .cons e (.cons f r)=>uM (mE e) (mAnds (.cons f r))
theorem mOrs:∀ m,ab (wOrs Φ m)
 | .nil=>fun _ _ _ _ _ q=>q.elim
 | .cons e .nil=>mE e
 | .cons e (.cons f r)=>xH (mE e) (mOrs (.cons f r))
theorem mO:∀ m,fC (wO Φ m)
 | .none=>qf
 | .some e=>uP (mE e)
theorem mT:∀ m,aG (wT Φ m)
 | .tru e=>xF (mE e)
 | .cmp op a b=>nk (eS (ba op) (mE a) (mE b))
 | .chain op op' a b c=>nk (fI (ba op) (ba op') (mE a) (mE b) (mE c))
 | .and ts=>mAndTs ts
 | .or ts=>mOrTs ts
 | .not t=>uK (mT t)
theorem mAndTs:∀ m,aG (wAndTs Φ m)
 | .nil=>fun _ _ _ _ _ q=>q.elim
 | .cons e .nil=>mT e
 | .cons e (.cons f r)=>uL (mT e) (mAndTs (.cons f r))
theorem mOrTs:∀ m,aG (wOrTs Φ m)
 | .nil=>fun _ _ _ _ _ q=>q.elim
 | .cons e .nil=>mT e
 | .cons e (.cons f r)=>xG (mT e) (mOrTs (.cons f r))
theorem mTl:∀ m, ∀ t∈wTl Φ m,aG t
 | .nil=>by rw [wTl];intro t j;simp at j
 | .cons t r=>by
  rw [wTl];intro t' j
  rcases Ha.mp j with e | e
  ·rw [e];exact mT t
  ·exact mTl r t' e
theorem mI:∀ m,bW (wI Φ m)
 | .seq e=>xK (mE e)
 | .rng1 a=>uU (al (mE a) ao)
 | .zip a b=>xL (mE a) (mE b)
 | .zip3 a b c=>uV (mE a) (mE b) (mE c)
 | .enum a=>uW (mE a)
 | .keys a=>vD (mE a)
theorem mCl:∀ m,bX (wCl Φ m)
 | .last src g ifs elt=>iq (mI src) (aO (bB (mE elt)) (mTl ifs))
 | .more src g ifs rest=>iq (mI src) (aO (mCl rest) (mTl ifs))
theorem mCmp (fr:List (Option Nat)):∀ m,ab (wCmp Φ fr m)
 | .last src g ifs elt=>lm (mI src) (aO (bB (mE elt)) (mTl ifs))
 | .more src g ifs rest=>lm (mI src) (aO (mCl rest) (mTl ifs))
end
mutual
theorem mS:∀ m,aF (wS Φ m)
 | .asg g e=>xO (mE hΦ e)
 | .par i j a b=>xP (al (mE hΦ a) (al (mE hΦ b) ao))
 | .put o i e=>xV (mE hΦ e) (mE hΦ o) (mE hΦ i)
 | .aug i op e=>xW (oS op) (mE hΦ e)
 | .augI o i op e=>vc (mE hΦ o) (mE hΦ i) (mE hΦ e) (oS op)
 | .drop e=>uZ (mE hΦ e)
 | .ret e=>xM (mE hΦ e)
 | .ite c a b=>xN (mT hΦ c) (mSs a) (mSs b)
 | .for g src b=>xQ (mI hΦ src) (mSs b)
 | .while c b=>sC (mT hΦ c) (mSs b)
 | .frz i s=>yb (mS s)
 | .pass=>lp
 | .brk=>sB
 | .cnt=>uX
theorem mSs:∀ m,aF (wSs Φ m)
 | .nil=>lp
 | .cons s r=>uY (mS s) (mSs r)
end
end
end
section
structure Ctx where
 Γ:List Str
 N:List Str
 sc:Scope
 fn:List Str
 cs:List (Str×D)
noncomputable def glB (sc:Scope) (x:Str):Bool:=sc.names.lookup x==some .globalImplicit
noncomputable def yi (sc:Scope) (x:Str):Bool:=sc.names.lookup x==some .local || sc.names.lookup x==some .cell || sc.names.lookup x==some .free
noncomputable def t5 (sc:Scope) (x:Str):Bool:=sc.names.lookup x==some .local || sc.names.lookup x==some .cell
noncomputable def aH:Expr->Bool
 | .Starred .. => false
 | _=>true
noncomputable def oT:Expr->Bool
 | .Name .. | .Call .. | .Subscript .. | .Constant .. | .BinOp .. | .Attribute .. => true
 | _=>false
noncomputable def cL:Expr->Bool
 | .Slice .. => false
 | _=>true
noncomputable def gp:Expr->Bool
 | .ListComp .. | .SetComp .. | .DictComp .. => false
 | _=>true
noncomputable def jJ:Expr->Bool
 | .Set .. => false
 | _=>true
noncomputable def dF:Expr->Bool
 | .Call .. => false
 | _=>true
noncomputable def opO:BOp->KG
 | .add => .Add | .sub => .Sub | .mul => .Mult | .fdiv => .FloorDiv | .mod => .Mod | .pow => .Pow | .ext => .Add
noncomputable def iL:COp->P5
 | .eq => .Eq | .ne => .NotEq | .lt => .Lt | .le => .LtE | .gt => .Gt | .ge => .GtE| .neD => .NotEq
noncomputable def oU:BF->Str
 | .len => "len" | .abs => "abs"| .min2 => "min" | .int => "int" | .list => "list" | .tuple => "tuple"| .all => "all"| .dict => "dict" | .sortk => "sorted"
noncomputable def CI:MF->Str
 | .append => "append"
noncomputable def AQ:MF0->Str
 | .clear => "clear" | .reverse => "reverse"
noncomputable def bltNames:List Str := ["len", "abs", "max", "min", "int", "list", "tuple", "sum", "isinstance", "range", "bool", "str", "dict", "zip", "enumerate", "reversed", "sorted", "all", "any", "set"]
noncomputable def iM (sc osc:Scope):Scope :=
 { sc with names:=sc.names.map fun (n,k)=>if (k == .free&&osc.kind == .function&&osc.names.lookup n==some .cell) then (n, .cell) else (n,k) }
theorem qm (sc:Scope) (env:Env):relabel sc env=iM sc env.scope:=rfl
noncomputable def yj (sc osc:Scope) (oN N':List Str) (fr:List (Option Nat)):Bool :=
 decide (sc.kind = .function)&&decide ((sc.names.map (·.1)).Nodup)&&decide (N'.Nodup)
  && sc.names.all (fun x => !(x.2 == .free) || osc.names.lookup x.1==some .cell || osc.names.lookup x.1==some .free)
  && decide (fr.length=N'.length)
  && (Hi N'.length).all fun i=>match fr[i]?,N'[i]? with
   | some (some j),some x=>decide (oN[j]? = some x)&&sc.names.any (fun y=>decide (y=(x,HP)))
   | _,_=>true
theorem pk {p:Prop} [d:Decidable p] {t:p->Bool} (h:dite p t (fun _=>false)=true):∃ c,t c=true:=by
 cases d with
 | isTrue c=>exact ⟨c,h⟩
 | isFalse c=>cases h
noncomputable def cB (e:Expr) (f:Str->Pos->Bool):Bool:=if h:e.ctorIdx=23 then @Ra.elim (fun _=>Bool) e h f else false
@[elab_as_elim]
theorem cQ {P:Expr->Prop} (e:Expr) {f:Str->Pos->Bool} (h:cB e f=true) (k:∀ a b,f a b=true->P (.Name a b)):P e :=
 (pk h).elim fun c => @Ra.elim (fun e => ∀ c, @Ra.elim (fun _=>Bool) e c f=true->P e) e c (fun a b _ h=>k a b h) c
noncomputable def eG (e:Expr) (f:Const->Nat->Pos->Bool):Bool:=if h:e.ctorIdx=19 then @Pb.elim (fun _=>Bool) e h f else false
@[elab_as_elim]
theorem gu {P:Expr->Prop} (e:Expr) {f:Const->Nat->Pos->Bool} (h:eG e f=true) (k:∀ a b c,f a b c=true->P (.Constant a b c)):P e :=
 (pk h).elim fun c => @Pb.elim (fun e => ∀ c, @Pb.elim (fun _=>Bool) e c f=true->P e) e c (fun a b c _ h=>k a b c h) c
noncomputable def vH (e:Expr) (f:Expr->KG->Expr->Pos->Bool):Bool:=if h:e.ctorIdx=2 then @R3.elim (fun _=>Bool) e h f else false
@[elab_as_elim]
theorem CJ {P:Expr->Prop} (e:Expr) {f:Expr->KG->Expr->Pos->Bool} (h:vH e f=true) (k:∀ a b c d,f a b c d=true->P (.BinOp a b c d)):P e :=
 (pk h).elim fun c => @R3.elim (fun e => ∀ c, @R3.elim (fun _=>Bool) e c f=true->P e) e c (fun a b c d _ h=>k a b c d h) c
noncomputable def fL (e:Expr) (f:UnaryOp->Expr->Pos->Bool):Bool:=if h:e.ctorIdx=3 then @Q1.elim (fun _=>Bool) e h f else false
@[elab_as_elim]
theorem iN {P:Expr->Prop} (e:Expr) {f:UnaryOp->Expr->Pos->Bool} (h:fL e f=true) (k:∀ a b c,f a b c=true->P (.UnaryOp a b c)):P e :=
 (pk h).elim fun c => @Q1.elim (fun e => ∀ c, @Q1.elim (fun _=>Bool) e c f=true->P e) e c (fun a b c _ h=>k a b c h) c
noncomputable def dW (e:Expr) (f:Expr->List P5->List Expr->Pos->Bool):Bool:=if h:e.ctorIdx=15 then @Q2.elim (fun _=>Bool) e h f else false
@[elab_as_elim]
theorem fM {P:Expr->Prop} (e:Expr) {f:Expr->List P5->List Expr->Pos->Bool} (h:dW e f=true) (k:∀ a b c d,f a b c d=true->P (.Compare a b c d)):P e :=
 (pk h).elim fun c => @Q2.elim (fun e => ∀ c, @Q2.elim (fun _=>Bool) e c f=true->P e) e c (fun a b c d _ h=>k a b c d h) c
noncomputable def eW (e:Expr) (f:BoolOp->List Expr->Pos->Bool):Bool:=if h:e.ctorIdx=0 then @Qz.elim (fun _=>Bool) e h f else false
@[elab_as_elim]
theorem hJ {P:Expr->Prop} (e:Expr) {f:BoolOp->List Expr->Pos->Bool} (h:eW e f=true) (k:∀ a b c,f a b c=true->P (.BoolOp a b c)):P e :=
 (pk h).elim fun c => @Qz.elim (fun e => ∀ c, @Qz.elim (fun _=>Bool) e c f=true->P e) e c (fun a b c _ h=>k a b c h) c
noncomputable def vI (e:Expr) (f:Expr->Expr->Expr->Pos->Bool):Bool:=if h:e.ctorIdx=5 then @R4.elim (fun _=>Bool) e h f else false
@[elab_as_elim]
theorem CK {P:Expr->Prop} (e:Expr) {f:Expr->Expr->Expr->Pos->Bool} (h:vI e f=true) (k:∀ a b c d,f a b c d=true->P (.IfExp a b c d)):P e :=
 (pk h).elim fun c => @R4.elim (fun e => ∀ c, @R4.elim (fun _=>Bool) e c f=true->P e) e c (fun a b c d _ h=>k a b c d h) c
noncomputable def cC (e:Expr) (f:List Expr->Nat->Pos->Bool):Bool:=if h:e.ctorIdx=25 then @R5.elim (fun _=>Bool) e h f else false
@[elab_as_elim]
theorem cY {P:Expr->Prop} (e:Expr) {f:List Expr->Nat->Pos->Bool} (h:cC e f=true) (k:∀ a b c,f a b c=true->P (.Tuple a b c)):P e :=
 (pk h).elim fun c => @R5.elim (fun e => ∀ c, @R5.elim (fun _=>Bool) e c f=true->P e) e c (fun a b c _ h=>k a b c h) c
noncomputable def zo (e:Expr) (f:List Expr->Pos->Bool):Bool:=if h:e.ctorIdx=24 then @Rb.elim (fun _=>Bool) e h f else false
@[elab_as_elim]
theorem DW {P:Expr->Prop} (e:Expr) {f:List Expr->Pos->Bool} (h:zo e f=true) (k:∀ a b,f a b=true->P (.List a b)):P e :=
 (pk h).elim fun c => @Rb.elim (fun e => ∀ c, @Rb.elim (fun _=>Bool) e c f=true->P e) e c (fun a b _ h=>k a b h) c
noncomputable def cD (e:Expr) (f:Expr->Expr->Pos->Bool):Bool:=if h:e.ctorIdx=21 then @OM.elim (fun _=>Bool) e h f else false
@[elab_as_elim]
theorem dz {P:Expr->Prop} (e:Expr) {f:Expr->Expr->Pos->Bool} (h:cD e f=true) (k:∀ a b c,f a b c=true->P (.Subscript a b c)):P e :=
 (pk h).elim fun c => @OM.elim (fun e => ∀ c, @OM.elim (fun _=>Bool) e c f=true->P e) e c (fun a b c _ h=>k a b c h) c
noncomputable def t6 (e:Expr) (f:Expr->List Expr->List MA->Pos->Bool):Bool:=if h:e.ctorIdx=16 then @Rc.elim (fun _=>Bool) e h f else false
@[elab_as_elim]
theorem zp {P:Expr->Prop} (e:Expr) {f:Expr->List Expr->List MA->Pos->Bool} (h:t6 e f=true) (k:∀ a b c d,f a b c d=true->P (.Call a b c d)):P e :=
 (pk h).elim fun c => @Rc.elim (fun e => ∀ c, @Rc.elim (fun _=>Bool) e c f=true->P e) e c (fun a b c d _ h=>k a b c d h) c
noncomputable def jK (e:Expr) (f:Expr->Str->Pos->Bool):Bool:=if h:e.ctorIdx=20 then @ON.elim (fun _=>Bool) e h f else false
@[elab_as_elim]
theorem t7 {P:Expr->Prop} (e:Expr) {f:Expr->Str->Pos->Bool} (h:jK e f=true) (k:∀ a b c,f a b c=true->P (.Attribute a b c)):P e :=
 (pk h).elim fun c => @ON.elim (fun e => ∀ c, @ON.elim (fun _=>Bool) e c f=true->P e) e c (fun a b c _ h=>k a b c h) c
noncomputable def vJ (e:Expr) (f:Option Expr->Option Expr->Option Expr->Pos->Bool):Bool:=if h:e.ctorIdx=26 then @R6.elim (fun _=>Bool) e h f else false
@[elab_as_elim]
theorem CL {P:Expr->Prop} (e:Expr) {f:Option Expr->Option Expr->Option Expr->Pos->Bool} (h:vJ e f=true) (k:∀ a b c d,f a b c d=true->P (.Slice a b c d)):P e :=
 (pk h).elim fun c => @R6.elim (fun e => ∀ c, @R6.elim (fun _=>Bool) e c f=true->P e) e c (fun a b c d _ h=>k a b c d h) c
noncomputable def lZ (e:Expr) (f:Expr->List Ij->Scope->Pos->Bool):Bool:=if h:e.ctorIdx=8 then @Pc.elim (fun _=>Bool) e h f else false
@[elab_as_elim]
theorem vK {P:Expr->Prop} (e:Expr) {f:Expr->List Ij->Scope->Pos->Bool} (h:lZ e f=true) (k:∀ a b c d,f a b c d=true->P (.ListComp a b c d)):P e :=
 (pk h).elim fun c => @Pc.elim (fun e => ∀ c, @Pc.elim (fun _=>Bool) e c f=true->P e) e c (fun a b c d _ h=>k a b c d h) c
noncomputable def zq (e:Expr) (f:List (Option Expr)->List Expr->Pos->Bool):Bool:=if h:e.ctorIdx=6 then @Rf.elim (fun _=>Bool) e h f else false
@[elab_as_elim]
theorem DX {P:Expr->Prop} (e:Expr) {f:List (Option Expr)->List Expr->Pos->Bool} (h:zq e f=true) (k:∀ a b c,f a b c=true->P (.Dict a b c)):P e :=
 (pk h).elim fun c => @Rf.elim (fun e => ∀ c, @Rf.elim (fun _=>Bool) e c f=true->P e) e c (fun a b c _ h=>k a b c h) c
noncomputable def fN (e:Stmt) (f:List Expr->Expr->Pos->Bool):Bool:=if h:e.ctorIdx=5 then @QA.elim (fun _=>Bool) e h f else false
@[elab_as_elim]
theorem iO {P:Stmt->Prop} (e:Stmt) {f:List Expr->Expr->Pos->Bool} (h:fN e f=true) (k:∀ a b c,f a b c=true->P (.Assign a b c)):P e :=
 (pk h).elim fun c => @QA.elim (fun e => ∀ c, @QA.elim (fun _=>Bool) e c f=true->P e) e c (fun a b c _ h=>k a b c h) c
noncomputable def eN (e:Stmt) (f:Expr->KG->Expr->Pos->Bool):Bool:=if h:e.ctorIdx=7 then @OO.elim (fun _=>Bool) e h f else false
@[elab_as_elim]
theorem iw {P:Stmt->Prop} (e:Stmt) {f:Expr->KG->Expr->Pos->Bool} (h:eN e f=true) (k:∀ a b c d,f a b c d=true->P (.AugAssign a b c d)):P e :=
 (pk h).elim fun c => @OO.elim (fun e => ∀ c, @OO.elim (fun _=>Bool) e c f=true->P e) e c (fun a b c d _ h=>k a b c d h) c
noncomputable def vL (e:Stmt) (f:Expr->Pos->Bool):Bool:=if h:e.ctorIdx=24 then @Rg.elim (fun _=>Bool) e h f else false
@[elab_as_elim]
theorem CM {P:Stmt->Prop} (e:Stmt) {f:Expr->Pos->Bool} (h:vL e f=true) (k:∀ a b,f a b=true->P (.Expr a b)):P e :=
 (pk h).elim fun c => @Rg.elim (fun e => ∀ c, @Rg.elim (fun _=>Bool) e c f=true->P e) e c (fun a b _ h=>k a b h) c
noncomputable def oV (e:Stmt) (f:Option Expr->Pos->Bool):Bool:=if h:e.ctorIdx=3 then @QB.elim (fun _=>Bool) e h f else false
@[elab_as_elim]
theorem yk {P:Stmt->Prop} (e:Stmt) {f:Option Expr->Pos->Bool} (h:oV e f=true) (k:∀ a b,f a b=true->P (.Return a b)):P e :=
 (pk h).elim fun c => @QB.elim (fun e => ∀ c, @QB.elim (fun _=>Bool) e c f=true->P e) e c (fun a b _ h=>k a b h) c
noncomputable def CN (e:Stmt) (f:Expr->List Stmt->List Stmt->Pos->Bool):Bool:=if h:e.ctorIdx=12 then @Stmt.If.elim (fun _=>Bool) e h f else false
@[elab_as_elim]
theorem ED {P:Stmt->Prop} (e:Stmt) {f:Expr->List Stmt->List Stmt->Pos->Bool} (h:CN e f=true) (k:∀ a b c d,f a b c d=true->P (.If a b c d)):P e :=
 (pk h).elim fun c => @Stmt.If.elim (fun e => ∀ c, @Stmt.If.elim (fun _=>Bool) e c f=true->P e) e c (fun a b c d _ h=>k a b c d h) c
noncomputable def zr (e:Stmt) (f:Expr->Expr->List Stmt->List Stmt->Pos->Bool):Bool:=if h:e.ctorIdx=9 then @Stmt.For.elim (fun _=>Bool) e h f else false
@[elab_as_elim]
theorem DY {P:Stmt->Prop} (e:Stmt) {f:Expr->Expr->List Stmt->List Stmt->Pos->Bool} (h:zr e f=true) (k:∀ a b c d e,f a b c d e=true->P (.For a b c d e)):P e :=
 (pk h).elim fun c => @Stmt.For.elim (fun e => ∀ c, @Stmt.For.elim (fun _=>Bool) e c f=true->P e) e c (fun a b c d e _ h=>k a b c d e h) c
noncomputable def qP (e:Stmt) (f:Expr->List Stmt->List Stmt->Pos->Bool):Bool:=if h:e.ctorIdx=11 then @R7.elim (fun _=>Bool) e h f else false
@[elab_as_elim]
theorem AR {P:Stmt->Prop} (e:Stmt) {f:Expr->List Stmt->List Stmt->Pos->Bool} (h:qP e f=true) (k:∀ a b c d,f a b c d=true->P (.While a b c d)):P e :=
 (pk h).elim fun c => @R7.elim (fun e => ∀ c, @R7.elim (fun _=>Bool) e c f=true->P e) e c (fun a b c d _ h=>k a b c d h) c
noncomputable def vM (e:Stmt) (f:Pos->Bool):Bool:=if h:e.ctorIdx=25 then @Rh.elim (fun _=>Bool) e h f else false
@[elab_as_elim]
theorem CO {P:Stmt->Prop} (e:Stmt) {f:Pos->Bool} (h:vM e f=true) (k:∀ a,f a=true->P (.Pass a)):P e :=
 (pk h).elim fun c => @Rh.elim (fun e => ∀ c, @Rh.elim (fun _=>Bool) e c f=true->P e) e c (fun a _ h=>k a h) c
noncomputable def qQ (e:Stmt) (f:Pos->Bool):Bool:=if h:e.ctorIdx=26 then @R8.elim (fun _=>Bool) e h f else false
@[elab_as_elim]
theorem AS {P:Stmt->Prop} (e:Stmt) {f:Pos->Bool} (h:qQ e f=true) (k:∀ a,f a=true->P (.Break a)):P e :=
 (pk h).elim fun c => @R8.elim (fun e => ∀ c, @R8.elim (fun _=>Bool) e c f=true->P e) e c (fun a _ h=>k a h) c
noncomputable def jL (e:Stmt) (f:Pos->Bool):Bool:=if h:e.ctorIdx=27 then @Pe.elim (fun _=>Bool) e h f else false
@[elab_as_elim]
theorem t8 {P:Stmt->Prop} (e:Stmt) {f:Pos->Bool} (h:jL e f=true) (k:∀ a,f a=true->P (.Continue a)):P e :=
 (pk h).elim fun c => @Pe.elim (fun e => ∀ c, @Pe.elim (fun _=>Bool) e c f=true->P e) e c (fun a _ h=>k a h) c
noncomputable def lv0 {α:Type} (xs:List α) (b:Bool):Bool:=xs.isEmpty&&b
noncomputable def lvc {α:Type} (xs:List α) (f : α -> List α -> Bool):Bool:=match xs with
 | y::r=>f y r
 | [] => false
noncomputable def lv1 {α:Type} (xs:List α) (f : α -> Bool):Bool:=lvc xs fun y r=>lv0 r (f y)
noncomputable def lv2 {α:Type} (xs:List α) (f : α -> α -> Bool):Bool:=lvc xs fun y r=>lv1 r (f y)
noncomputable def lv3 {α:Type} (xs:List α) (f : α -> α -> α -> Bool):Bool:=lvc xs fun y r=>lv2 r (f y)
noncomputable def os {α:Type} (o:Option α) (f : α -> Bool):Bool:=match o with
 | some x=>f x
 | none=>false
noncomputable def on {α:Type} (o:Option α) (b:Bool):Bool:=o.isNone&&b
@[elab_as_elim]
theorem gv {α:Type} {P:List α -> Prop} (xs:List α) {b:Bool} (h:lv0 xs b=true) (k:b=true->P []):P xs:=by
 cases xs with
 | nil=>exact k h
 | cons _ _=>cases h
@[elab_as_elim]
theorem ym {α:Type} {P:List α -> Prop} (xs:List α) {f : α -> List α -> Bool} (h:lvc xs f=true) (k:∀ y r,f y r=true->P (y::r)):P xs:=by
 cases xs with
 | nil=>cases h
 | cons y r=>exact k y r h
@[elab_as_elim]
theorem dX {α:Type} {P:List α -> Prop} (xs:List α) {f : α -> Bool} (h:lv1 xs f=true) (k:∀ y,f y=true->P [y]):P xs :=
 ym xs h fun y r h=>gv r h fun h=>k y h
@[elab_as_elim]
theorem cM {α:Type} {P:List α -> Prop} (xs:List α) {f : α -> α -> Bool} (h:lv2 xs f=true) (k:∀ y z,f y z=true->P [y,z]):P xs :=
 ym xs h fun y r h=>dX r h fun z h=>k y z h
@[elab_as_elim]
theorem EE {α:Type} {P:List α -> Prop} (xs:List α) {f : α -> α -> α -> Bool} (h:lv3 xs f=true) (k:∀ y z u,f y z u=true->P [y,z,u]):P xs :=
 ym xs h fun y r h=>cM r h fun z u h=>k y z u h
@[elab_as_elim]
theorem jos {α:Type} {P:Option α -> Prop} (o:Option α) {f : α -> Bool} (h:os o f=true) (k:∀ x,f x=true->P (some x)):P o:=by
 cases o with
 | none=>cases h
 | some x=>exact k x h
@[elab_as_elim]
theorem jon {α:Type} {P:Option α -> Prop} (o:Option α) {b:Bool} (h:on o b=true) (k:b=true->P none):P o:=by
 cases o with
 | none=>exact k h
 | some x=>cases h
theorem bO {a b:Bool} (h:(a&&b)=true):a=true/\b=true:=by rwa [z4] at h
noncomputable def cE (e:Expr) (g:Str->List Expr->Bool):Bool:=t6 e fun f xs ks _=>lv0 ks (cB f fun x _=>g x xs)
@[elab_as_elim]
theorem cZ {P:Expr->Prop} (e:Expr) {g:Str->List Expr->Bool} (h:cE e g=true) (k:∀ x xs p pos,g x xs=true->P (.Call (.Name x p) xs [] pos)):P e :=
 zp e h fun f xs ks pos h=>gv ks h fun h=>cQ f h fun x p h=>k x xs p pos h
noncomputable def jM (e:Expr) (g:Expr->Str->List Expr->Pos->Pos->Bool):Bool:=t6 e fun f xs ks p=>lv0 ks (jK f fun o n q=>g o n xs q p)
@[elab_as_elim]
theorem mR {P:Expr->Prop} (e:Expr) {g:Expr->Str->List Expr->Pos->Pos->Bool} (h:jM e g=true) (k:∀ o n xs q p,g o n xs q p=true->P (.Call (.Attribute o n q) xs [] p)):P e :=
 zp e h fun f xs ks pos h=>gv ks h fun h=>t7 f h fun o n q h=>k o n xs q pos h
noncomputable def iSl (e:Expr) (g:Expr->Option Expr->Option Expr->Option Expr->Bool):Bool:=cD e fun x y _=>vJ y fun l u s _=>g x l u s
@[elab_as_elim]
theorem jSl {P:Expr->Prop} (e:Expr) {g:Expr->Option Expr->Option Expr->Option Expr->Bool} (h:iSl e g=true) (k:∀ x l u s p pos,g x l u s=true->P (.Subscript x (.Slice l u s p) pos)):P e :=
 dz e h fun x y pos h=>CL y h fun l u s p h=>k x l u s p pos h
mutual
noncomputable def okG:MG->Ctx->Expr->Bool
 | .name i,C,e=>cB e fun x _=>decide (C.N[i]? = some x)&&t5 C.sc x&&(C.sc.names.lookup x==some .local || C.fn.contains x)
 | .tup gs,C,e=>cC e fun es _ _=>okGs gs C es
noncomputable def okGs:MGs->Ctx->List Expr->Bool
 | .nil,_,es=>es.isEmpty
 | .cons g r,C,es=>match es with
  | e::es=>aH e&&okG g C e&&okGs r C es
  | [] => false
end
mutual
noncomputable def okE:ME->Ctx->Expr->Bool
 | .var i,C,e=>cB e fun x _=>decide (C.N[i]? = some x)&&yi C.sc x && !(x==("__debug__":Str)) && !(x==("__classdict__":Str))
 | .int i,_,e=>eG e fun c _ _=>decide (c = .int i)
 | .bl i,_,e=>eG e fun c _ _=>decide (c = .bool i)
 | .non,_,e=>eG e fun c _ _=>decide (c = .none)
 | .bin op a b,C,e=>vH e fun l o r _=>decide (o=opO op)&&okE a C l&&okE b C r
 | .neg a,C,e=>fL e fun o x _=>decide (o = .USub)&&okE a C x
 | .cmp op a b,C,e=>dW e fun l os rs _=>lv1 os fun o=>lv1 rs fun r=>decide (o=iL op)&&okE a C l&&okE b C r && !(L8 o r)
 | .and es,C,e=>eW e fun o xs _=>decide (o = .And) && !xs.isEmpty&&okEs es C xs
 | .or es,C,e=>eW e fun o xs _=>decide (o = .Or) && !xs.isEmpty&&okEs es C xs
 | .not a,C,e=>fL e fun o x _=>decide (o = .Not)&&okE a C x
 | .ite c a b,C,e=>vI e fun t x y _=>okT c C t&&okE a C x&&okE b C y
 | .tup es,C,e=>cC e fun xs _ _=>okEs es C xs
 | .lst es,C,e=>zo e fun xs _=>okEs es C xs
 | .ix a b,C,e=>cD e fun x y _=>cL y&&okE a C x&&okE b C y
 | .sl a lo hi,C,e=>iSl e fun x l u s=>on s (okE a C x&&okO lo C l&&okO hi C u)
 | .call f es,C,e=>cE e fun x xs=>decide (C.Γ[f]? = some x)&&glB C.sc x && !(x==("__debug__":Str))&&okEs es C xs
 | .blt f es,C,e=>cE e fun x xs=>decide (x=oU f)&&glB C.sc x && !xs.isEmpty&&okEs es C xs
 | .isin2 a T U,C,e=>cE e fun x xs=>lv2 xs fun y w=>cC w fun ws _ _=>lv2 ws fun z' v'=>cB z' fun z _=>cB v' fun v _=>decide (x = "isinstance")&&glB C.sc x&&glB C.sc z&&glB C.sc v&&decide (z=Ic T)&&decide (v=Ic U)&&decide (T∈["bool", "int", "str", "tuple", "list", "dict"])&&decide (U∈["bool", "int", "str", "tuple", "list", "dict"])&&aH y&&okE a C y
 | .isin a T,C,e=>cE e fun x xs=>lv2 xs fun y w=>cB w fun z _=>decide (x = "isinstance")&&glB C.sc x&&glB C.sc z&&decide (z=Ic T)&&decide (T∈["bool", "int", "str", "tuple", "list", "dict"])&&aH y&&okE a C y
 | .chain op op' a b c,C,e=>dW e fun l os rs _=>lv2 os fun o o'=>lv2 rs fun r q=>decide (o=iL op)&&decide (o'=iL op')&&okE a C l&&okE b C r&&okE c C q && !(ND [o,o'] [r,q])
 | .glob x k,C,e=>cB e fun y _=>decide (y=x)&&glB C.sc y&&decide ((x,k)∈C.cs) && !(x==("__debug__":Str))
 | .dnew _,_,e=>zq e fun ks vs _=>lv0 ks (lv0 vs true)
 | .dget o k x,C,e=>jM e fun y n xs ap cp=>lv2 xs fun e1 e2=>decide (n = "get")&&dF y&&(ap.endLine==cp.line)&&aH e1&&aH e2&&okE o C y&&okE k C e1&&okE x C e2
 | .meth m o a,C,e=>jM e fun x n xs ap cp=>lv1 xs fun y=>decide (n=CI m)&&dF x&&(ap.endLine==cp.line)&&aH y&&okE o C x&&okE a C y
 | .ins o i a,C,e=>jM e fun x n xs ap cp=>lv2 xs fun y z=>decide (n = "insert")&&dF x&&(ap.endLine==cp.line)&&aH y&&aH z&&okE o C x&&okE i C y&&okE a C z
 | .meth0 m o,C,e=>jM e fun x n xs ap cp=>lv0 xs (decide (n=AQ m)&&dF x&&(ap.endLine==cp.line)&&okE o C x)
 | .comp fr N' c,C,e=>lZ e fun elt gens sc _=>yj sc C.sc C.N N' fr&&okC c C ⟨C.Γ,N',iM sc C.sc,(sc.names.filter (·.2 == .cell)).map (·.1),C.cs⟩ gens elt
noncomputable def okEs:MEs->Ctx->List Expr->Bool
 | .nil,_,es=>es.isEmpty
 | .cons m r,C,es=>match es with
  | e::es=>aH e&&okE m C e&&okEs r C es
  | [] => false
noncomputable def okO:MO->Ctx->Option Expr->Bool
 | .none,_,e=>e.isNone
 | .some m,C,e=>match e with
  | some e=>okE m C e
  | none=>false
noncomputable def okT:MT->Ctx->Expr->Bool
 | .tru m,C,e=>oT e&&okE m C e
 | .cmp op a b,C,e=>dW e fun l os rs _=>lv1 os fun o=>lv1 rs fun r=>decide (o=iL op)&&okE a C l&&okE b C r && !(L8 o r)
 | .chain op op' a b c,C,e=>dW e fun l os rs _=>lv2 os fun o o'=>lv2 rs fun r q=>decide (o=iL op)&&decide (o'=iL op')&&okE a C l&&okE b C r&&okE c C q && !(ND [o,o'] [r,q])
 | .and ts,C,e=>eW e fun o xs _=>decide (o = .And) && !xs.isEmpty&&okTs ts C xs
 | .or ts,C,e=>eW e fun o xs _=>decide (o = .Or) && !xs.isEmpty&&okTs ts C xs
 | .not t,C,e=>fL e fun o x _=>decide (o = .Not)&&okT t C x
noncomputable def okTs:MTs->Ctx->List Expr->Bool
 | .nil,_,es=>es.isEmpty
 | .cons m r,C,es=>match es with
  | e::es=>okT m C e&&okTs r C es
  | [] => false
noncomputable def okI:MI->Ctx->Expr->Expr->Bool
 | .seq m,C,_,e=>jJ e&&okE m C e
 | .keys m,C,_,e=>jJ e&&okE m C e
 | .rng1 a,C,_,e=>cE e fun x xs=>lv1 xs fun y=>decide (x = "range")&&glB C.sc x&&aH y&&okE a C y
 | .enum a,C,t,e=>cE e fun x xs=>lv1 xs fun y=>cC t fun _ _ _=>decide (x = "enumerate")&&glB C.sc x&&aH y&&okE a C y
 | .zip3 a b c,C,t,e=>cE e fun x xs=>lv3 xs fun y z u=>cC t fun _ _ _=>decide (x = "zip")&&glB C.sc x&&aH y&&aH z&&aH u&&okE a C y&&okE b C z&&okE c C u
 | .zip a b,C,t,e=>cE e fun x xs=>lv2 xs fun y z=>cC t fun _ _ _=>decide (x = "zip")&&glB C.sc x&&aH y&&aH z&&okE a C y&&okE b C z
noncomputable def okC:MC->Ctx->Ctx->List Ij->Expr->Bool
 | .last src g ifs m,Cs,C,gens,elt=>match gens with
  | [⟨t,it,fs,a⟩] => decide (a=0)&&okI src Cs t it&&okG g C t&&okTs ifs C fs&&okE m C elt
  | _=>false
 | .more src g ifs rest,Cs,C,gens,elt=>match gens with
  | ⟨t,it,fs,a⟩::g2::gs=>decide (a=0)&&okI src Cs t it&&okG g C t&&okTs ifs C fs&&okC rest C C (g2::gs) elt
  | _=>false
end
noncomputable def aZ (sc:Scope) (ts:List Expr):List Str:=ts.filterMap fun
 | .Name id pos=>if sc.names.lookup id==some .local&&pos.line==(ts.head?.map (·.pos.line)).getD 0 then some id else none
 | _=>none
noncomputable def t9 (sc:Scope) (ts vs:List Expr):Bool := !(ts.length==2 || ts.length==3) || vs.length != ts.length || (aZ sc ts).length != ts.length || (aZ sc ts).eraseDups.length != (aZ sc ts).length || vs.all (Pf 8)
noncomputable def tf (C:Ctx) (i:Nat) (x:Str):Bool:=decide (C.N[i]? = some x)&&decide (C.sc.names.lookup x=some .local)
noncomputable def tj (sc:Scope) (ts vs:List Expr) (ns:List Str):Bool := !(!(ts.length==2 || ts.length==3) || vs.length != ts.length) && !(vs.any fun | .Starred .. => true | _=>false)&&decide (aZ sc ts=ns) && !((aZ sc ts).length != ts.length || (aZ sc ts).eraseDups.length != (aZ sc ts).length) && !(vs.all (Pf 8)) && !(vs.all (constantsAlone 8))
noncomputable def jN (sc:Scope) (tg e:Expr):Bool:=match tg,e with
 | .Tuple ts _ _, .Tuple vs _ _=>t9 sc ts vs
 | .Tuple ..,_=>true
 | .Name ..,_=>true
 | _,_=>false
noncomputable def CP (sc:Scope) (x:Str) (px:Pos) (e:Expr):Bool:=match e with
 | .DictComp _ _ _ s _ => !(sc.names.lookup x==some .local&&px.line==e.pos.line && !(s.names.any fun (n,k)=>n==x&&(k == .local || k == .cell)))
 | _=>true
noncomputable def tu (sc:Scope) (x:Str) (px:Pos) (e:Expr):Bool:=match e with
 | .ListComp _ _ s _=>sc.names.lookup x==some .local&&px.line==e.pos.line && !(s.names.any fun (n,k)=>n==x&&(k == .local || k == .cell))
 | _=>false
mutual
noncomputable def okS:MS->Ctx->Stmt->Bool
 | .asg g m,C,s=>fN s fun ts e _=>lv1 ts fun tg=>okG g C tg&&okE m C e&&jN C.sc tg e&&(match tg with | .Name x px=>CP C.sc x px e | _=>gp e)
 | .par i j a b,C,s=>fN s fun ts e _=>lv1 ts fun tg=>cC tg fun ts _ _=>cC e fun es _ _=>lv2 ts fun t u=>lv2 es fun e f=>cB t fun x px=>cB u fun y py=>tf C i x&&tf C j y&&decide (i≠j)&&aH e&&aH f&&okE a C e&&okE b C f&&tj C.sc [.Name x px, .Name y py] [e,f] [x,y]
 | .put o i m,C,s=>fN s fun ts e _=>lv1 ts fun tg=>cD tg fun x y _=>cL y&&gp e&&okE o C x&&okE i C y&&okE m C e
 | .aug i op m,C,s=>eN s fun t o e _=>cB t fun x _=>decide (o=opO op)&&(match op with | .add | .sub | .mul | .ext=>true | _=>false)&&decide (C.N[i]? = some x)&&t5 C.sc x&&(C.sc.names.lookup x==some .local || C.fn.contains x)&&okE m C e
 | .augI o i op m,C,s=>eN s fun t o' e _=>cD t fun x y _=>decide (o'=opO op)&&(match op with | .add | .sub | .mul=>true | _=>false)&&cL y&&okE o C x&&okE i C y&&okE m C e
 | .drop m,C,s=>vL s fun e _=>gp e&&okE m C e
 | .ret m,C,s=>oV s fun o _=>os o fun e=>okE m C e
 | .ite c a b,C,s=>CN s fun t x y _=>okT c C t&&okSs a C x&&okSs b C y
 | .for g src b,C,s=>zr s fun tg it body els _=>lv0 els (jJ it&&okG g C tg&&okI src C tg it&&okSs b C body)
 | .while c b,C,s=>qP s fun t body els _=>lv0 els (okT c C t&&okSs b C body)
 | .frz _ m,C,s=>okS m C s
 | .pass,_,s=>vM s fun _=>true
 | .brk,_,s=>qQ s fun _=>true
 | .cnt,_,s=>jL s fun _=>true
noncomputable def okSs:MSs->Ctx->List Stmt->Bool
 | .nil,_,ss=>ss.isEmpty
 | .cons m r,C,ss=>match ss with
  | s::ss=>okS m C s&&okSs r C ss
  | [] => false
end
theorem ah {e:Expr} {es:List Expr} {env:Env} (h:aH e=true):Hv (e::es) env=(false,eval e env)::Hv es env:=by
 cases e <;> first | rfl | (simp [aH] at h;done)
theorem m8 {e:Expr} {es:List Expr} {env:Env} (h:aH e=true):Jg (e::es) env=(false,assign e env)::Jg es env:=by
 cases e <;> first | rfl | (simp [aH] at h;done)
theorem tw {e:Expr} {env:Env} (h:oT e=true):∀ whole,isTrue e env whole=(do let v <- whole;Nm e.pos;holding [v] (truthy v)):=by
 intro w
 cases e <;> first | rfl | (simp [oT] at h;done)
theorem yn {e:Expr} (h:cL e=true):kc e:=by
 intro o i
 cases e <;> first | rfl | (simp [cL] at h;done)
theorem oW {e:Expr} {env:Env} (h:jJ e=true):∀ x,Js e env x=pure x:=by
 intro x
 cases e <;> first | rfl | (simp [jJ] at h;done)
theorem dY {e:Expr} {n:Str} {env:Env} (h:dF e=true):Nv e n env (eval e env)=eval e env:=by
 cases e <;> first | rfl | (simp [dF] at h;done)
theorem kE {e:Expr} {t:Option Expr} {l:Nat} {env:Env} (h:gp e=true):Lq e t l env=pure false:=by
 cases e <;> first | rfl | (simp [gp] at h;done)
end
section
noncomputable def lSp (K:Frag) (r:RAd):Sp:=fun vs H Q _=>lR K r vs H Q
structure Good (C:Ctx) (Φ:Phi) (k:Nat) (X:Cx):Prop where
 hx:∀ e s,X.xe e s->False
 calm:X.calm=true
 N:X.N=C.N
 sc:X.env.scope=C.sc
 nd:X.N.Nodup
 fn:∀ x∈C.fn,X.fn x=true
 room:Room k X.A
 mgB:∀ x∈bltNames,X.mg x=none
 fns:∀ (i:Nat) (x:Str),C.Γ[i]? = some x -> ∃ f fd ps,X.mg x=some (.ref f)/\KI X.K (.ref f)=true/\Binds X.K fd ps []/\dN X.prog X.w X.K X.mg X.base CX0 k f fd ps (lSp X.K (Φ i))
 mono:∀ f,aX (Φ f)
 cs:∀ x d,(x,d)∈C.cs -> ∃ u,X.mg x=some u/\GV X.K d u
section
variable {C:Ctx} {Φ:Phi} {k:Nat} {X:Cx}
theorem Good.units (G:Good C Φ k X):X.A.units+64 < JH:=G.room.units
theorem Good.gl (G:Good C Φ k X) {x:Str} (h:glB C.sc x=true):Gl X x:=by
 show X.env.scope.names.lookup x=_;rw [G.sc];simpa [glB] using h
theorem Good.vis (G:Good C Φ k X) {x:Str} (h:yi C.sc x=true):Vis X.env.scope x:=by
 unfold Vis;rw [G.sc];simp [yi] at h
 rcases h with (h | h) | h
 ·exact .inl h
 ·exact .inr (.inl h)
 ·exact .inr (.inr h)
theorem Good.loc (G:Good C Φ k X) {x:Str} (h:t5 C.sc x=true):Loc X.env.scope x:=by
 unfold Loc;rw [G.sc];simpa [t5] using h
theorem Good.own (G:Good C Φ k X) {x:Str} (h:(C.sc.names.lookup x==some .local || C.fn.contains x)=true):X.fn x=true∨X.env.scope.names.lookup x=some .local:=by
 rw [G.sc];simp at h
 rcases h with h | h
 ·exact .inr h
 ·exact .inl (G.fn x h)
theorem CQ (G:Good C Φ k X):∀ o:BOp,OpR X (IU (opO o)) (l2 X.K (opB o))
 | .add=>nB | .sub=>xx | .mul=>xz | .fdiv=>uH | .mod=>xB | .pow=>xC | .ext=>nB
theorem dG (G:Good C Φ k X):∀ o:COp,OpR X (Il (iL o)) (l2 X.K (opC o))
 | .eq=>A7 (by have:=G.units;lia) | .ne=>A8 (by have:=G.units;lia) | .lt=>Ad | .le=>Ae | .gt=>Af | .ge=>Ag| .neD=>ye (by have:=G.units;lia)
theorem CS (G:Good C Φ k X) {f:BF} {e:Expr} {es:List Expr} {t:TAd} {p pos:Pos} (mt:bp t) (q:Gl X (oU f)) (z:PA X (e::es) (lA X.K t))
 (he:Hv (e::es) X.env=(false,eval e X.env)::Hv es X.env) (j:(L3 pos (Hv es X.env)).any (·.1)=false):PE X (.Call (.Name (oU f) p) (e::es) [] pos) (lE X.K (wAr (opF f) t)):=by
 cases f with
 | len=>exact PE.imp (ci so q (G.mgB _ (by decide)) PySem.boot_len z (by decide) (by decide) he j) (bJ nD mt)
 | abs=>exact PE.imp (ci sr q (G.mgB _ (by decide)) (by decide +kernel) z (by decide) (by decide) he j) (bJ nG mt)
 | min2=>exact PE.imp (ci (qd G.calm) q (G.mgB _ (by decide)) (by decide +kernel) z (by decide) (by decide) he j) (bJ lj mt)
 | int=>exact PE.imp (eB su q (G.mgB _ (by decide)) (by decide +kernel) z (by decide) (by decide) he j) (bJ nH mt)
 | list=>exact PE.imp (eB qe q (G.mgB _ (by decide)) (by decide +kernel) z (by decide) (by decide) he j) (bJ ll mt)
 | tuple=>exact PE.imp (eB nJ q (G.mgB _ (by decide)) (by decide +kernel) z (by decide) (by decide) he j) (bJ je mt)
 | all=>exact PE.imp (ci (sJ G.calm) q (G.mgB _ (by decide)) (by decide +kernel) z (by decide) (by decide) he j) (bJ oi mt)
 | dict=>exact PE.imp (eB (ql (by have:=G.units;lia) G.calm) q (G.mgB _ (by decide)) (by decide +kernel) z (by decide) (by decide) he j) (bJ lU mt)
 | sortk=>exact PE.imp (ci (oP (by have:=G.units;lia) G.calm) q (G.mgB _ (by decide)) (by decide +kernel) z (by decide) (by decide) he j) (bJ jH mt)
theorem AT (G:Good C Φ k X) {f:Nat} {x:Str} {e:Expr} {es:List Expr} {t:TAd} {p pos:Pos} (mt:bp t) (hf:C.Γ[f]? = some x) (z:Gl X x) (j:(x==("__debug__":Str))=false) (B:PA X (e::es) (lA X.K t))
 (he:Hv (e::es) X.env=(false,eval e X.env)::Hv es X.env) (q:(L3 pos (Hv es X.env)).any (·.1)=false):PE X (.Call (.Name x p) (e::es) [] pos) (lE X.K (wAr (Φ f) t)):=by
 obtain ⟨a,fd,ps,hm,J,L,F⟩:=G.fns f x hf;refine PE.imp (zT F G.room z hm J L .nil yW B j he q) fun σ H Q h => ?_;have h2:=bJ (G.mono f) mt σ H Q h;have:(fun vs H1=>lSp X.K (Φ f) (vs++[]) H1 Q E0)=fun vs H1=>lR X.K (Φ f) vs H1 Q:=by
  funext vs H1;rw [Ja];rfl
 show (lA X.K t) σ H _;rw [this];exact h2
theorem yo (G:Good C Φ k X) {f:Nat} {x:Str} {p pos:Pos} (hf:C.Γ[f]? = some x) (z:Gl X x) (j:(x==("__debug__":Str))=false):PE X (.Call (.Name x p) [] [] pos) (lE X.K (wAr (Φ f) bq)):=by
 obtain ⟨a,fd,ps,hm,B,J,F⟩:=G.fns f x hf;refine PE.imp (wW F G.room z hm B J .nil yW j) fun σ H Q h => ?_;obtain ⟨ρ,M,rs,rm,q⟩:=h;exact ⟨[],M,rm,RDs.nil,q⟩
theorem iP {env:Env} {pos:Pos}:∀ {es:List Expr},es.all aH=true->(L3 pos (Hv es env)).any (·.1)=false
 | [],_=>rfl
 | e::es,h=>by
   simp only [K6,z4] at h;rw [ah h.1];show (false || (L3 pos (Hv es env)).any (·.1))=false
   rw [iP h.2];rfl
theorem gw:∀ {ms:MEs} {es:List Expr},okEs ms C es=true->es.all aH=true
 | .nil,[],_=>rfl
 | .nil,_::_,h=>by simp [okEs] at h
 | .cons m r,[],h=>by simp [okEs] at h
 | .cons m r,e::es,h=>by
  simp only [okEs,z4] at h;simp only [K6,z4];exact ⟨h.1.1,gw h.2⟩
theorem qR:∀ {gs:MGs} {es:List Expr},okGs gs C es=true -> ∀ ds ρ ρ',bGs gs ds ρ = some ρ'->ds.length=es.length
 | .nil,es,h,ds, ρ, ρ',e=>by
  simp [okGs] at h;subst h;rw [bGs] at e
  cases ds with
  | nil=>rfl
  | cons _ _=>cases e
 | .cons g r,[],h,_,_,_,_=>by simp [okGs] at h
 | .cons g r,x::es,h,ds, ρ, ρ',e=>by
  simp only [okGs,z4] at h;rw [bGs] at e
  cases ds with
  | nil=>cases e
  | cons d ds =>
    simp only [bE] at e
    cases e1:bG g d ρ with
    | none=>rw [e1] at e;cases e
    | some ρ1 =>
      rw [e1] at e;simp [qR h.2 ds ρ1 ρ' e]
theorem oZ {env:Env}:∀ {gs:MGs} {es:List Expr},okGs gs C es=true->(Jg es env).length=es.length/\(Jg es env).findIdx? (·.1)=none
 | .nil,es,h=>by simp [okGs] at h;subst h;exact ⟨rfl,rfl⟩
 | .cons g r,[],h=>by simp [okGs] at h
 | .cons g r,x::es,h=>by
  simp only [okGs,z4] at h;obtain ⟨a,b⟩:=oZ (env:=env) h.2;rw [m8 h.1.1];refine ⟨by simp [a], ?_⟩
  rw [List.findIdx?_cons];simp [b]
mutual
theorem sG (G:Good C Φ k X):∀ (m:MG) (e:Expr),okG m C e=true->PG X e (lG X.K (bG m))
 | .name i,e,h=>by
  refine cQ e h fun x _ h => ?_;simp only [z4] at h;exact Ap G.nd (by rw [G.N];exact of_decide_eq_true h.1.1) (G.loc h.1.2) (G.own h.2)
 | .tup gs,e,h=>by
  refine cY e h fun es _ _ h => ?_;rw [bG];obtain ⟨a,b⟩:=oZ (env:=X.env) h;exact Co G.calm (qR h) (sGs G gs _ h) a b
theorem sGs (G:Good C Φ k X):∀ (m:MGs) (es:List Expr),okGs m C es=true->PGs X es (lGs X.K (bGs m))
 | .nil,es,h=>by
  simp [okGs] at h;subst h;exact Aq
 | .cons g r,[],h=>by simp [okGs] at h
 | .cons g r,e::es,h=>by
  simp only [okGs,z4] at h;exact xJ (sG G g e h.1.2) (sGs G r es h.2) (by rw [m8 h.1.1];rfl)
end
theorem PB.imp {F:Sem Fin->Sem Fin} {t t':TC} (h:PB X F t) (i:∀ σ H N,t' σ H N->t σ H N):PB X F t':=fun pins s σ H N k Q E I q hk=>h pins s σ H N k Q E I (i _ _ _ q) hk
theorem jO {sc osc:Scope} {oN N':List Str} {fr:List (Option Nat)} (h:yj sc osc oN N' fr=true):b7 sc osc oN N' fr:=by
 simp only [yj,z4,decide_eq_true_eq] at h;obtain ⟨⟨⟨⟨⟨h1,h2⟩,F⟩,G⟩,J⟩,L⟩:=h;refine ⟨h1,h2,F,fun x hx e => ?_,J,fun i j x hi hf => ?_⟩
 ·have z:=KW.mp G x hx;rw [e] at z;simpa using z
 ·have B:i < N'.length:=(Ho.mp hi).1;have q:=KW.mp L i (HG.mpr B);rw [hf,hi] at q;simp only [z4,decide_eq_true_eq,JO] at q;obtain ⟨a,y,O,e⟩:=q;exact ⟨a,by rw [<- e];exact O⟩
theorem Good.blk (G:Good C Φ k X) {sc:Scope} {N':List Str} {fr:List (Option Nat)} (B:b7 sc C.sc C.N N' fr) (s:D0) (H:Hp) (fp:List Addr) :
 Good ⟨C.Γ,N',iM sc C.sc,(sc.names.filter (·.2 == .cell)).map (·.1),C.cs⟩ Φ k (aJ X sc N' s H fp):=by
 refine ⟨fun _ _ h=>h,G.calm,rfl, ?_,B.ndN,fun x hx => ?_,G.room,G.mgB,G.fns,G.mono,G.cs⟩
 ·show relabel sc X.env=_;rw [qm,G.sc]
 ·obtain ⟨y,q,e⟩:=Hr.mp hx;obtain ⟨h1,h2⟩:=Lc.mp q;obtain ⟨n,kd⟩:=y;have j:kd = .cell:=by simpa using h2
  subst j;have e':n=x:=e;subst e';show (sc.names.lookup n==some .cell)=true;rw [aR B.nd h1];rfl
end
end
section
section
variable {Φ:Phi} {k:Nat}
theorem dH {C:Ctx} {X:Cx} (G:Good C Φ k X) {F:Sem Fin->Sem Fin} {p:Addr} {tb:TCd} {ifs:List Expr} {ts:List TTd} (mb:bX tb) (mt:∀ t∈ts,aG t) (j:PB X F (lC X.K p tb)) (q:HZ (fun c t=>PT X c t) ifs (ts.map (lT X.K))) :
 PB X (fun k=>bn ifs X.env >>= fun ok=>if ok=true then F k else k) (lC X.K p (br ts tb)) :=
 PB.imp (xk G.hx j q) (jr mb mt)
theorem gx {m:MC} {Cs C:Ctx} {g2:Ij} {gs:List Ij} {elt:Expr} (h:okC m Cs C (g2::gs) elt=true):g2.is_async=0:=by
 obtain ⟨t,i,f,a⟩:=g2
 cases m with
 | last src g ifs m =>
   cases gs with
   | nil=>simp only [okC,z4,decide_eq_true_eq] at h;exact h.1.1.1.1
   | cons _ _=>simp [okC] at h
 | more src g ifs rest =>
   cases gs with
   | nil=>simp [okC] at h
   | cons _ _=>simp only [okC,z4,decide_eq_true_eq] at h;exact h.1.1.1.1
theorem iQ {C:Ctx} {X:Cx} (G:Good C Φ k X):∀ T∈["bool", "int", "str", "tuple", "list", "dict"],X.mg (Ic T)=none/\JE (Ic T)=some (.type T)/\Ic T ≠ "__name__" /\ (Ic T==("__debug__":Str))=false:=by
 intro T j;simp only [Ha,Ht,or_false] at j
 rcases j with rfl | rfl | rfl | rfl | rfl | rfl
 all_goals exact ⟨G.mgB _ (by decide),by decide +kernel,by decide,by decide⟩
mutual
theorem sE:∀ (m:ME) {C:Ctx} {X:Cx} (G:Good C Φ k X) (e:Expr),okE m C e=true->PE X e (lE X.K (wE Φ m))
 | .var i,C,X,G,e,h=>by
  refine cQ e h fun x _ h => ?_;simp only [z4,Iv,decide_eq_true_eq] at h;exact C9 (by rw [G.N];exact h.1.1.1) (G.vis h.1.1.2) h.1.2 h.2
 | .int i,C,X,G,e,h=>by
  refine gu e h fun c _ _ h => ?_;rw [of_decide_eq_true h];exact le_int
 | .bl i,C,X,G,e,h=>by
  refine gu e h fun c _ _ h => ?_;rw [of_decide_eq_true h];exact DG
 | .non,C,X,G,e,h=>by
  refine gu e h fun c _ _ h => ?_;rw [of_decide_eq_true h];exact Ca
 | .bin op a b,C,X,G,e,h=>by
  refine CJ e h fun l o r _ h => ?_;simp only [z4,decide_eq_true_eq] at h;rw [h.1.1];exact DH (CQ G op) (oR op) (mE G.mono a) (mE G.mono b) (sE a G _ h.1.2) (sE b G _ h.2)
 | .neg a,C,X,G,e,h=>by
  refine iN e h fun o x _ h => ?_;replace h:=bO h;obtain ⟨ho,h⟩:=h
  cases of_decide_eq_true ho
  exact DI xD nC (mE G.mono a) (sE a G _ h)
 | .cmp op a b,C,X,G,e,h=>by
  refine fM e h fun l os rs pos h => ?_;refine dX os h fun o h => ?_;refine dX rs h fun r h => ?_;simp only [z4,decide_eq_true_eq] at h;obtain ⟨⟨⟨ho,O⟩,hb⟩,hm⟩:=h;rw [Iv] at hm;subst ho;exact Cb (dG G op) (ba op) (mE G.mono a) (mE G.mono b) (sE a G _ O) (sE b G _ hb) hm
 | .and es,C,X,G,e,h=>by
  refine hJ e h fun o xs _ h => ?_;replace h:=bO h;obtain ⟨ho,h⟩:=h;obtain ⟨ho,J⟩:=bO ho
  cases of_decide_eq_true ho
  exact sAnds es G _ _ h (by intro z;rw [z] at J;cases J)
 | .or es,C,X,G,e,h=>by
  refine hJ e h fun o xs _ h => ?_;replace h:=bO h;obtain ⟨ho,h⟩:=h;obtain ⟨ho,J⟩:=bO ho
  cases of_decide_eq_true ho
  exact sOrs es G _ _ h (by intro z;rw [z] at J;cases J)
 | .not a,C,X,G,e,h=>by
  refine iN e h fun o x _ h => ?_;replace h:=bO h;obtain ⟨ho,h⟩:=h
  cases of_decide_eq_true ho
  exact Cl (mE G.mono a) (sE a G _ h)
 | .ite c a b,C,X,G,e,h=>by
  refine CK e h fun t x y _ h => ?_;simp only [z4] at h;exact DO (mT G.mono c) (mE G.mono a) (mE G.mono b) (sT c G _ h.1.1) (sE a G _ h.1.2) (sE b G _ h.2)
 | .tup es,C,X,G,e,h=>by
  refine cY e h fun xs _ _ h => ?_;exact Cd (mA G.mono es) (sA es G _ h)
 | .lst es,C,X,G,e,h=>by
  refine DW e h fun xs _ h => ?_;exact Ce (mA G.mono es) (sA es G _ h)
 | .ix a b,C,X,G,e,h=>by
  refine dz e h fun x y _ h => ?_;simp only [z4] at h;exact DJ (EA (by have:=G.units;lia)) qw (mE G.mono a) (mE G.mono b) (sE a G _ h.1.2) (sE b G _ h.2) (yn h.1.1)
 | .sl a lo hi,C,X,G,e,h=>by
  refine jSl e h fun x l u s p pos h => ?_;refine jon s h fun  h => ?_;simp only [z4] at h;exact DP (mE G.mono a) (mO G.mono lo) (mO G.mono hi) (sE a G _ h.1.1) (sO lo G _ h.1.2) (sO hi G _ h.2)
 | .call f es,C,X,G,e,h=>by
  refine cZ e h fun x xs p pos h => ?_;simp only [z4,decide_eq_true_eq,Iv] at h;have hA:=sA es G _ h.2;have L:=gw h.2
  cases xs with
  | nil =>
    cases es with
    | nil=>exact yo G h.1.1.1 (G.gl h.1.1.2) h.1.2
    | cons _ _=>simp [okEs] at h
  | cons y ys =>
    simp only [K6,z4] at L;exact AT G (mA G.mono es) h.1.1.1 (G.gl h.1.1.2) h.1.2 hA (ah L.1) (iP L.2)
 | .blt f es,C,X,G,e,h=>by
  refine cZ e h fun x xs p pos h => ?_;simp only [z4,decide_eq_true_eq,Iv] at h;have hA:=sA es G _ h.2;have L:=gw h.2;obtain ⟨⟨⟨rfl,Y⟩,J⟩,_⟩:=h
  cases xs with
  | nil=>simp at J
  | cons y ys =>
    simp only [K6,z4] at L;exact CS G (mA G.mono es) (G.gl Y) hA (ah L.1) (iP L.2)
 | .chain op op' a b c,C,X,G,e,h=>by
  refine fM e h fun l os rs pos h => ?_;refine cM os h fun o o' h => ?_;refine cM rs h fun r q h => ?_;simp only [z4,decide_eq_true_eq,Iv] at h;obtain ⟨⟨⟨⟨⟨rfl,rfl⟩,O⟩,hb⟩,hc⟩,hm⟩:=h;exact xY (dG G op) (dG G op') (ba op) (ba op') (mE G.mono a) (mE G.mono b) (mE G.mono c) (sE a G _ O) (sE b G _ hb) (sE c G _ hc) hm
 | .glob x k',C,X,G,e,h=>by
  refine cQ e h fun x _ h => ?_;simp only [z4,decide_eq_true_eq,Iv] at h;obtain ⟨⟨⟨rfl,Y⟩,hc⟩,hd⟩:=h;obtain ⟨u,ht,hv⟩:=G.cs _ _ hc;obtain ⟨v,rv,rd⟩:=zn hv;exact PE.imp (zH (v:=v) (G.gl Y) ht rv hd) fun σ H Q ⟨ρ,M,rs,rm,q⟩=>q _ H Ext.refl rm (rd H)
 | .dnew t,C,X,G,e,h=>by
  refine DX e h fun ks vs _ h => ?_;refine gv ks h fun  h => ?_;refine gv vs h fun  h => ?_;exact Ay
 | .dget o k' x,C,X,G,e,h=>by
  refine mR e h fun y n xs ap cp h => ?_;refine cM xs h fun e1 e2 h => ?_;simp only [z4,decide_eq_true_eq] at h;obtain ⟨⟨⟨⟨⟨⟨⟨rfl,j⟩,hl⟩,EK⟩,Z⟩,ho⟩,hk⟩,hx⟩:=h;have st:Hv [e1,e2] X.env=[(false,eval e1 X.env),(false,eval e2 X.env)]:=by
   rw [ah EK,ah Z];rfl
  refine AH (by have:=G.units;lia) (mE G.mono o) (mE G.mono k') (mE G.mono x) (sE o G _ ho) (sE k' G _ hk) (sE x G _ hx) ⟨dY j, ?_,hl, ?_⟩
  ·rw [st];rfl
  ·rw [st];rfl
 | .isin2 a T U,C,X,G,e,h=>by
  refine cZ e h fun x xs p pos h => ?_;refine cM xs h fun y w h => ?_;refine cY w h fun ws k1 p1 h => ?_;refine cM ws h fun z' v' h => ?_;refine cQ z' h fun z p2 h => ?_;refine cQ v' h fun v p3 h => ?_;simp only [z4,decide_eq_true_eq] at h;obtain ⟨⟨⟨⟨⟨⟨⟨⟨⟨rfl,Y⟩,EJ⟩,EL⟩,hz⟩,hy⟩,hT⟩,hU⟩,hs⟩,O⟩:=h;obtain ⟨n1,n2,n3,n4⟩:=iQ G T hT;obtain ⟨m1,m2,m3,m4⟩:=iQ G U hU;subst hz hy;exact ya hT hU (mE G.mono a) (sE a G _ O) (G.gl Y) (G.mgB _ (by decide)) (G.gl EJ) n1 n2 n3 n4 (G.gl EL) m1 m2 m3 m4 (ah hs)
 | .isin a T,C,X,G,e,h=>by
  refine cZ e h fun x xs p pos h => ?_;refine cM xs h fun y w h => ?_;refine cQ w h fun z p2 h => ?_;simp only [z4,decide_eq_true_eq] at h;obtain ⟨⟨⟨⟨⟨⟨rfl,Y⟩,EJ⟩,hz⟩,hT⟩,hs⟩,O⟩:=h;obtain ⟨n1,n2,n3,n4⟩:=iQ G T hT;subst hz;exact An hT (mE G.mono a) (sE a G _ O) (G.gl Y) (G.mgB _ (by decide)) (G.gl EJ) n1 n2 n3 n4 (ah hs) rfl
 | .meth m o a,C,X,G,e,h=>by
  refine mR e h fun x n xs ap cp h => ?_;refine dX xs h fun y h => ?_;simp only [z4,decide_eq_true_eq] at h;obtain ⟨⟨⟨⟨⟨hn,j⟩,hl⟩,hs⟩,ho⟩,O⟩:=h;subst hn;have pa:PA X [y] (lA X.K (aD (wE Φ a) bq)):=bh (mE G.mono a) ao (sE a G _ O) cR (ah hs);have few:((L3 cp (Hv [y] X.env)).all (fun x => !x.1)&&(QW cp (Oy [] X.env)).all (fun x=>x.1.isSome)&&decide (([y]:List Expr).length+([]:List MA).length+(if ([]:List MA).isEmpty then 0 else 1) < 30))=true:=by
   rw [ah hs];rfl
  cases m with
  | append=>exact PE.imp (yV Kc PySem.F.slot_list_append PySem.F.type_list_append kW (sE o G _ ho) pa (dY j) few hl (ah hs) rfl) (qC io (mE G.mono o) (al (mE G.mono a) ao) xI)
 | .ins o i a,C,X,G,e,h=>by
  refine mR e h fun x n xs ap cp h => ?_;refine cM xs h fun y z h => ?_;simp only [z4,decide_eq_true_eq] at h;obtain ⟨⟨⟨⟨⟨⟨⟨hn,j⟩,hl⟩,hs⟩,Z⟩,ho⟩,hi⟩,O⟩:=h;subst hn;have pa:PA X [y,z] (lA X.K (aD (wE Φ i) (aD (wE Φ a) bq))):=bh (mE G.mono i) (al (mE G.mono a) ao) (sE i G _ hi) (bh (mE G.mono a) ao (sE a G _ O) cR (ah Z)) (ah hs);have few:((L3 cp (Hv [y,z] X.env)).all (fun x => !x.1)&&(QW cp (Oy [] X.env)).all (fun x=>x.1.isSome)&&decide (([y,z]:List Expr).length+([]:List MA).length+(if ([]:List MA).isEmpty then 0 else 1) < 30))=true:=by
   rw [ah hs,ah Z];rfl
  exact PE.imp (yV Kc NA PySem.F.type_list_insert vE (sE o G _ ho) pa (dY j) few hl (ah hs) (by rw [ah Z];rfl)) (qC iu (mE G.mono o) (al (mE G.mono i) (al (mE G.mono a) ao)) yf)
 | .meth0 m o,C,X,G,e,h=>by
  refine mR e h fun x n xs ap cp h => ?_;refine gv xs h fun  h => ?_;simp only [z4,decide_eq_true_eq] at h;obtain ⟨⟨⟨hn,j⟩,hl⟩,ho⟩:=h;subst hn
  cases m with
  | clear=>exact PE.imp (uj Kc PySem.F.slot_list_clear PySem.F.type_list_clear wZ (sE o G _ ho) (dY j) hl) (nO jm (mE G.mono o) Ao)
  | reverse=>exact PE.imp (uj Kc PySem.F.slot_list_reverse PySem.F.type_list_reverse sd (sE o G _ ho) (dY j) hl) (nO fZ (mE G.mono o) uS)
 | .comp fr N' c,C,X,G,e,h=>by
  refine vK e h fun elt gens sc pos h => ?_;simp only [z4] at h;have B:b7 sc X.env.scope X.N N' fr:=by rw [G.sc,G.N];exact jO h.1
  have B':b7 sc C.sc C.N N' fr:=jO h.1
  cases c with
  | last src g ifs m =>
    have h2:=h.2;simp only [okC] at h2
    split at h2
    ·rename_i t it fs a;simp only [z4,decide_eq_true_eq] at h2;obtain ⟨⟨⟨⟨rfl,hi⟩,Y⟩,ht⟩,he⟩:=h2;refine PE.imp (im G.calm G.hx B (fun g' z=>by simp at z) (sI src G _ t hi).1 (fun s H fp=>sG (G.blk B' s H fp) g t Y) (tb:=fun p=>lC X.K p (br (wTl Φ ifs) (cz (wE Φ m)))) (fun s H fp p => ?_) (sI src G _ t hi).2) (eC (mI G.mono src) (aO (bB (mE G.mono m)) (mTl G.mono ifs)))
     have G':=G.blk B' s H fp;exact dH (p:=p) G' (bB (mE G.mono m)) (mTl G.mono ifs) (PB.imp (kf G'.hx (sE m G' elt he) rfl) (gb (mE G.mono m))) (sTl ifs G' fs ht)
    ·cases h2
  | more src g ifs rest =>
    have h2:=h.2;simp only [okC] at h2
    split at h2
    ·rename_i t it fs a g2 gs;simp only [z4,decide_eq_true_eq] at h2;obtain ⟨⟨⟨⟨rfl,hi⟩,Y⟩,ht⟩,he⟩:=h2;have EM:∀ g',(g2::gs)[0]? = some g'->g'.is_async=0:=fun g' z=>by
      have z':g2=g':=by simpa using z
      subst z';exact gx he
     refine PE.imp (im G.calm G.hx B EM (sI src G _ t hi).1 (fun s H fp=>sG (G.blk B' s H fp) g t Y) (tb:=fun p=>lC X.K p (br (wTl Φ ifs) (wCl Φ rest))) (fun s H fp p => ?_) (sI src G _ t hi).2) (eC (mI G.mono src) (aO (mCl G.mono rest) (mTl G.mono ifs)));have G':=G.blk B' s H fp;exact dH (p:=p) G' (mCl G.mono rest) (mTl G.mono ifs) (sCl rest G' elt (⟨t,it,fs,0⟩::g2::gs) sc pos 0 (.inl rfl) p he) (sTl ifs G' fs ht)
    ·cases h2
theorem sA:∀ (m:MEs) {C:Ctx} {X:Cx} (G:Good C Φ k X) (es:List Expr),okEs m C es=true->PA X es (lA X.K (wA Φ m))
 | .nil,C,X,G,es,h=>by
  simp [okEs] at h;subst h;exact cR
 | .cons m r,C,X,G,[],h=>by simp [okEs] at h
 | .cons m r,C,X,G,e::es,h=>by
  simp only [okEs,z4] at h;exact bh (mE G.mono m) (mA G.mono r) (sE m G e h.1.2) (sA r G es h.2) (ah h.1.1)
theorem sAnds:∀ (m:MEs) {C:Ctx} {X:Cx} (G:Good C Φ k X) (es:List Expr) (pos:Pos),okEs m C es=true->es≠[]->PE X (.BoolOp .And es pos) (lE X.K (wAnds Φ m))
 | .nil,C,X,G,es,pos,h,j=>by simp [okEs] at h;exact absurd h j
 | .cons m r,C,X,G,[],pos,h,j=>absurd rfl j
 | .cons m .nil,C,X,G,e::es,pos,h,_=>by
  simp only [okEs,z4] at h;obtain ⟨h1,h2⟩:=h;simp at h2;subst h2;exact uO (sE m G e h1.2)
 | .cons m (.cons m2 r),C,X,G,e::es,pos,h,_=>by
  simp only [okEs,z4] at h;obtain ⟨h1,h2⟩:=h
  cases es with
  | nil=>simp at h2
  | cons f fs =>
    exact Ck (mE G.mono m) (mAnds G.mono _) (sE m G e h1.2) (sAnds (.cons m2 r) G (f::fs) pos (by simpa only [okEs,z4] using h2) (by simp))
theorem sOrs:∀ (m:MEs) {C:Ctx} {X:Cx} (G:Good C Φ k X) (es:List Expr) (pos:Pos),okEs m C es=true->es≠[]->PE X (.BoolOp .Or es pos) (lE X.K (wOrs Φ m))
 | .nil,C,X,G,es,pos,h,j=>by simp [okEs] at h;exact absurd h j
 | .cons m r,C,X,G,[],pos,h,j=>absurd rfl j
 | .cons m .nil,C,X,G,e::es,pos,h,_=>by
  simp only [okEs,z4] at h;obtain ⟨h1,h2⟩:=h;simp at h2;subst h2;exact uO (sE m G e h1.2)
 | .cons m (.cons m2 r),C,X,G,e::es,pos,h,_=>by
  simp only [okEs,z4] at h;obtain ⟨h1,h2⟩:=h
  cases es with
  | nil=>simp at h2
  | cons f fs =>
    exact DN (mE G.mono m) (mOrs G.mono _) (sE m G e h1.2) (sOrs (.cons m2 r) G (f::fs) pos (by simpa only [okEs,z4] using h2) (by simp))
theorem sO:∀ (m:MO) {C:Ctx} {X:Cx} (G:Good C Φ k X) (e:Option Expr),okO m C e=true->PO X e (lO X.K (wO Φ m))
 | .none,C,X,G,e,h=>by
  simp [okO] at h;subst h;exact Ak
 | .some m,C,X,G,none,h=>by simp [okO] at h
 | .some m,C,X,G,some e,h=>by
  simp only [okO] at h;exact Al (mE G.mono m) (sE m G e h)
theorem sT:∀ (m:MT) {C:Ctx} {X:Cx} (G:Good C Φ k X) (e:Expr),okT m C e=true->PT X e (lT X.K (wT Φ m))
 | .tru m,C,X,G,e,h=>by
  simp only [okT,z4] at h;exact Cg (mE G.mono m) (sE m G e h.2) (tw h.1)
 | .cmp op a b,C,X,G,e,h=>by
  refine fM e h fun l os rs pos h => ?_;refine dX os h fun o h => ?_;refine dX rs h fun r h => ?_;simp only [z4,decide_eq_true_eq] at h;obtain ⟨⟨⟨ho,B⟩,F⟩,hm⟩:=h;rw [Iv] at hm;subst ho;exact Cc (dG G op) (ba op) (mE G.mono a) (mE G.mono b) (sE a G _ B) (sE b G _ F) hm
 | .chain op op' a b c,C,X,G,e,h=>by
  refine fM e h fun l os rs pos h => ?_;refine cM os h fun o o' h => ?_;refine cM rs h fun r q h => ?_;simp only [z4,decide_eq_true_eq,Iv] at h;obtain ⟨⟨⟨⟨⟨rfl,rfl⟩,B⟩,F⟩,J⟩,hm⟩:=h;exact xZ (dG G op) (dG G op') (ba op) (ba op') (mE G.mono a) (mE G.mono b) (mE G.mono c) (sE a G _ B) (sE b G _ F) (sE c G _ J) hm
 | .and ts,C,X,G,e,h=>by
  refine hJ e h fun o xs _ h => ?_;replace h:=bO h;obtain ⟨ho,h⟩:=h;obtain ⟨ho,j⟩:=bO ho
  cases of_decide_eq_true ho
  exact (sAndTs ts G _ _ h (by intro z;rw [z] at j;cases j)).pt
 | .or ts,C,X,G,e,h=>by
  refine hJ e h fun o xs _ h => ?_;replace h:=bO h;obtain ⟨ho,h⟩:=h;obtain ⟨ho,j⟩:=bO ho
  cases of_decide_eq_true ho
  exact (sOrTs ts G _ _ h (by intro z;rw [z] at j;cases j)).pt
 | .not t,C,X,G,e,h=>by
  refine iN e h fun o x _ h => ?_;replace h:=bO h;obtain ⟨ho,h⟩:=h
  cases of_decide_eq_true ho
  exact Ch (mT G.mono t) (sT t G _ h)
theorem sAndTs:∀ (m:MTs) {C:Ctx} {X:Cx} (G:Good C Φ k X) (es:List Expr) (pos:Pos),okTs m C es=true->es≠[]->PW X (.BoolOp .And es pos) (lT X.K (wAndTs Φ m))
 | .nil,C,X,G,es,pos,h,j=>by simp [okTs] at h;exact absurd h j
 | .cons m r,C,X,G,[],pos,h,j=>absurd rfl j
 | .cons m .nil,C,X,G,e::es,pos,h,_=>by
  simp only [okTs,z4] at h;obtain ⟨h1,h2⟩:=h;simp at h2;subst h2;exact Ai (sT m G e h1)
 | .cons m (.cons m2 r),C,X,G,e::es,pos,h,_=>by
  simp only [okTs,z4] at h;obtain ⟨h1,h2⟩:=h
  cases es with
  | nil=>simp at h2
  | cons f fs =>
    exact Cj (mT G.mono m) (mAndTs G.mono _) (sT m G e h1) (sAndTs (.cons m2 r) G (f::fs) pos (by simpa only [okTs,z4] using h2) (by simp))
theorem sOrTs:∀ (m:MTs) {C:Ctx} {X:Cx} (G:Good C Φ k X) (es:List Expr) (pos:Pos),okTs m C es=true->es≠[]->PW X (.BoolOp .Or es pos) (lT X.K (wOrTs Φ m))
 | .nil,C,X,G,es,pos,h,j=>by simp [okTs] at h;exact absurd h j
 | .cons m r,C,X,G,[],pos,h,j=>absurd rfl j
 | .cons m .nil,C,X,G,e::es,pos,h,_=>by
  simp only [okTs,z4] at h;obtain ⟨h1,h2⟩:=h;simp at h2;subst h2;exact Ci (sT m G e h1)
 | .cons m (.cons m2 r),C,X,G,e::es,pos,h,_=>by
  simp only [okTs,z4] at h;obtain ⟨h1,h2⟩:=h
  cases es with
  | nil=>simp at h2
  | cons f fs =>
    exact DM (mT G.mono m) (mOrTs G.mono _) (sT m G e h1) (sOrTs (.cons m2 r) G (f::fs) pos (by simpa only [okTs,z4] using h2) (by simp))
theorem sTl:∀ (m:MTs) {C:Ctx} {X:Cx} (G:Good C Φ k X) (es:List Expr),okTs m C es=true->HZ (fun c t=>PT X c t) es ((wTl Φ m).map (lT X.K))
 | .nil,C,X,G,es,h=>by
  simp [okTs] at h;subst h;exact .nil
 | .cons m r,C,X,G,[],h=>by simp [okTs] at h
 | .cons m r,C,X,G,e::es,h=>by
  simp only [okTs,z4] at h;exact .cons (sT m G e h.1) (sTl r G es h.2)
theorem sI:∀ (m:MI) {C:Ctx} {X:Cx} (G:Good C Φ k X) (e tg:Expr),okI m C tg e=true->PI X tg e (lI X.K (wI Φ m)) /\ ∀ x,Js e X.env x=pure x
 | .seq m,C,X,G,e,tg,h=>by
  simp only [okI,z4] at h;exact ⟨Cr (mE G.mono m) (sE m G e h.2),oW h.1⟩
 | .keys m,C,X,G,e,tg,h=>by
  simp only [okI,z4] at h;exact ⟨AN (mE G.mono m) (sE m G e h.2),oW h.1⟩
 | .rng1 a,C,X,G,e,tg,h=>by
  refine cZ e h fun x xs p pos h => ?_;refine dX xs h fun y h => ?_;simp only [z4,decide_eq_true_eq] at h;obtain ⟨⟨⟨rfl,q⟩,hs⟩,B⟩:=h;exact ⟨Ar (al (mE G.mono a) ao) (G.gl q) (G.mgB _ (by decide)) (bh (mE G.mono a) ao (sE a G _ B) cR (ah hs)) (ah hs),fun x=>rfl⟩
 | .enum a,C,X,G,e,tg,h=>by
  refine cZ e h fun x xs p pos h => ?_;refine dX xs h fun y h => ?_;refine cY tg h fun ts kt pt h => ?_;simp only [z4,decide_eq_true_eq] at h;obtain ⟨⟨⟨rfl,q⟩,hs⟩,B⟩:=h;exact ⟨Av (mE G.mono a) (G.gl q) (G.mgB _ (by decide)) (bh (mE G.mono a) ao (sE a G _ B) cR (ah hs)) (ah hs),fun x=>rfl⟩
 | .zip3 a b c,C,X,G,e,tg,h=>by
  refine cZ e h fun x xs p pos h => ?_;refine EE xs h fun y z u h => ?_;refine cY tg h fun ts kt pt h => ?_;simp only [z4,decide_eq_true_eq] at h;obtain ⟨⟨⟨⟨⟨⟨⟨rfl,q⟩,hs⟩,j⟩,F⟩,B⟩,J⟩,L⟩:=h;exact ⟨Au (mE G.mono a) (mE G.mono b) (mE G.mono c) (G.gl q) (G.mgB _ (by decide)) (bh (mE G.mono a) (al (mE G.mono b) (al (mE G.mono c) ao)) (sE a G _ B) (bh (mE G.mono b) (al (mE G.mono c) ao) (sE b G _ J) (bh (mE G.mono c) ao (sE c G _ L) cR (ah F)) (ah j)) (ah hs)) (by rw [ah hs,ah j,ah F];rfl) (by rw [ah j,ah F];rfl),fun x=>rfl⟩
 | .zip a b,C,X,G,e,tg,h=>by
  refine cZ e h fun x xs p pos h => ?_;refine cM xs h fun y z h => ?_;refine cY tg h fun ts kt pt h => ?_;simp only [z4,decide_eq_true_eq] at h;obtain ⟨⟨⟨⟨⟨rfl,q⟩,hs⟩,j⟩,B⟩,J⟩:=h;exact ⟨Cv (mE G.mono a) (mE G.mono b) (G.gl q) (G.mgB _ (by decide)) (bh (mE G.mono a) (al (mE G.mono b) ao) (sE a G _ B) (bh (mE G.mono b) ao (sE b G _ J) cR (ah j)) (ah hs)) (by rw [ah hs,ah j];rfl) (ah j),fun x=>rfl⟩
theorem sCl:∀ (m:MC) {C:Ctx} {X:Cx} (G:Good C Φ k X) (elt:Expr) (gens:List Ij) (sc:Scope) (pos:Pos) (d:Nat) (_:d=0∨d=d) (p:Addr),okC m C C (gens.drop (d+1)) elt=true ->
 PB X (b5 elt gens sc pos d (.ref p) X.env) (lC X.K p (wCl Φ m))
 | .last src g ifs m,C,X,G,elt,gens,sc,pos,d,_,p,h=>by
  simp only [okC] at h
  split at h
  ·rename_i t it fs a hd;simp only [z4,decide_eq_true_eq] at h;obtain ⟨⟨⟨⟨rfl,hi⟩,j⟩,q⟩,he⟩:=h;have e1:gens[d+1]? = some ⟨t,it,fs,0⟩:=by
    have z:(gens.drop (d+1))[0]? = some ⟨t,it,fs,0⟩:=by rw [hd];rfl
    rw [Ll] at z;simpa using z
   have e2:gens[d+1+1]? = none:=by
    have z:(gens.drop (d+1))[1]? = none:=by rw [hd];rfl
    rw [Ll] at z;simpa using z
   refine PB.imp (lf G.hx G.calm e1 (fun g' z=>by rw [e2] at z;cases z) (sI src G _ t hi).1 (sG G g t j) (dH (p:=p) G (bB (mE G.mono m)) (mTl G.mono ifs) (PB.imp (kf G.hx (sE m G elt he) e2) (gb (mE G.mono m))) (sTl ifs G fs q)) (sI src G _ t hi).2) (ir (mI G.mono src) (aO (bB (mE G.mono m)) (mTl G.mono ifs)))
  ·cases h
 | .more src g ifs rest,C,X,G,elt,gens,sc,pos,d,_,p,h=>by
  simp only [okC] at h
  split at h
  ·rename_i t it fs a g2 gs hd;simp only [z4,decide_eq_true_eq] at h;obtain ⟨⟨⟨⟨rfl,hi⟩,j⟩,q⟩,he⟩:=h;have e1:gens[d+1]? = some ⟨t,it,fs,0⟩:=by
    have z:(gens.drop (d+1))[0]? = some ⟨t,it,fs,0⟩:=by rw [hd];rfl
    rw [Ll] at z;simpa using z
   have e2:gens[d+1+1]? = some g2:=by
    have z:(gens.drop (d+1))[1]? = some g2:=by rw [hd];rfl
    rw [Ll] at z;simpa using z
   have F:gens.drop (d+1+1)=g2::gs:=by
    have z:(gens.drop (d+1)).drop 1=g2::gs:=by rw [hd];rfl
    rw [N5] at z;simpa using z
   have B:∀ g',gens[d+1+1]? = some g'->g'.is_async=0:=fun g' z=>by
    rw [e2] at z;cases z;exact gx he
   refine PB.imp (lf G.hx G.calm e1 B (sI src G _ t hi).1 (sG G g t j) (dH (p:=p) G (mCl G.mono rest) (mTl G.mono ifs) (sCl rest G elt gens sc pos (d+1) (.inr rfl) p (by rw [F];exact he)) (sTl ifs G fs q)) (sI src G _ t hi).2) (ir (mI G.mono src) (aO (mCl G.mono rest) (mTl G.mono ifs)))
  ·cases h
end
end
end
section
section
variable {Φ:Phi} {k:Nat} {C:Ctx} {X:Cx}
theorem yp {sc:Scope} {ts vs:List Expr} {kk j:Nat} {pp p2:Pos} {env:Env} (hs:env.scope=sc) (q:sc.kind = .function) (h:t9 sc ts vs=true):JY [.Tuple ts kk pp] (.Tuple vs j p2) env=pure none:=by
 have z:env.blockKind = .function:=by unfold NB;rw [hs,q];rfl
 have h':t9 sc ts vs=true:=h;unfold JY;dsimp only;rw [z]
 by_cases c1:(!(ts.length==2 || ts.length==3) || vs.length != ts.length)=true
 ·simp only [c1,Bool.true_or,if_true]
 ·simp only [LW] at c1;rw [c1];simp only [Nw,bne_self_eq_false,IY,if_false]
  split
  ·rfl
  ·
    generalize B:List.filterMap _ ts=L;obtain rfl:L=aZ sc ts:=by
     rw [<- B];unfold aZ;congr 1
     funext x
     cases x <;> first | rfl | (unfold Pw;rw [hs])
    unfold t9 at h';rw [c1] at h';simp only [Nw,Ol] at h'
    by_cases c3:((aZ sc ts).length != ts.length || (aZ sc ts).eraseDups.length != (aZ sc ts).length)=true
    ·rw [if_pos c3]
    ·rw [if_neg c3];have F:vs.all (Pf 8)=true:=by
      rcases h' with h' | h'
      ·exact absurd (Ol _ _ |>.mpr h') c3
      ·exact h'
     rw [if_pos F]
theorem AU {sc:Scope} {ts vs:List Expr} {ns:List Str} {kk j:Nat} {pp p2:Pos} {env:Env} (hs:env.scope=sc) (q:sc.kind = .function) (h:tj sc ts vs ns=true):JY [.Tuple ts kk pp] (.Tuple vs j p2) env=pure (some ns):=by
 have B:env.blockKind = .function:=by unfold NB;rw [hs,q];rfl
 simp only [tj,z4,Iv,decide_eq_true_eq] at h;obtain ⟨⟨⟨⟨⟨F,G⟩,J⟩,O⟩,U⟩,Y⟩:=h;unfold JY;dsimp only;rw [B,F];simp only [Nw,bne_self_eq_false,IY,if_false]
 split
 ·next z=>exact absurd z (by rw [LW];exact G)
 ·generalize Z:List.filterMap _ ts=L;obtain rfl:L=aZ sc ts:=by
   rw [<- Z];unfold aZ;congr 1
   funext x
   cases x <;> first | rfl | (unfold Pw;rw [hs])
  rw [O,U,Y,J];rfl
theorem qS {C:Ctx} {i:Nat} {x:Str} (h:tf C i x=true):C.N[i]? = some x/\C.sc.names.lookup x=some .local:=by
 simpa [tf] using h
theorem dJ {tg e:Expr} {l:Nat} {env:Env} {b:Bool} (h:Lq e (some tg) l env=pure b):L6 [tg] e l env=pure b:=by
 unfold L6;exact h
theorem AV {sc:Scope} {tg e:Expr} {env:Env} (hs:env.scope=sc) (j:sc.kind = .function) (h:jN sc tg e=true):JY [tg] e env=pure none:=by
 cases tg with
 | Tuple ts kk pp =>
   cases e with
   | Tuple vs q p2=>exact yp hs j h
   | _=>rfl
 | _=>first | rfl | (simp [jN] at h;done)
theorem p8 {elt:Expr} {gens:List Ij} {s sc:Scope} {pos px:Pos} {x:Str} {l:Nat} {env:Env} (hs:env.scope=sc) (j:sc.kind = .function) :
 Lq (.ListComp elt gens s pos) (some (.Name x px)) l env=pure (tu sc x px (.ListComp elt gens s pos)):=by
 have q:env.blockKind = .function:=by unfold NB;rw [hs,j];rfl
 unfold Lq;dsimp only;rw [q];unfold tu Pw;rw [hs];rfl
theorem vN {ek ev:Expr} {gens:List Ij} {s sc:Scope} {pos px:Pos} {x:Str} {l:Nat} {env:Env} (hs:env.scope=sc) (j:sc.kind = .function) :
 Lq (.DictComp ek ev gens s pos) (some (.Name x px)) l env=pure (sc.names.lookup x==some .local&&px.line==(Expr.DictComp ek ev gens s pos).pos.line && !(s.names.any fun (n,k)=>n==x&&(k == .local || k == .cell))):=by
 have q:env.blockKind = .function:=by unfold NB;rw [hs,j];rfl
 unfold Lq;dsimp only;rw [q];unfold Pw;rw [hs];rfl
mutual
theorem sS:∀ (m:MS) (G:Good C Φ k X) (q:C.sc.kind = .function) (s:Stmt),okS m C s=true->PS X s (lS X.K (wS Φ m))
 | .asg g m,G,q,s,h=>by
  refine iO s h fun ts e pos h1 => ?_;clear h;refine dX ts h1 fun tg h => ?_;clear h1;simp only [z4] at h;obtain ⟨⟨⟨F,he⟩,J⟩,Z⟩:=h;have hw:=AV G.sc q J;have pg:=sG G g tg F;have plain:L6 [tg] e pos.line X.env=pure false->PS X (.Assign [tg] e pos) (lS X.K (fH (wE Φ m) (bG g))):=fun hs =>
   PS.imp (u6 (sE m G e he) pg hs hw (by cases tg <;> first | rfl | (simp [jN] at J;done))) (xT (mE G.mono m))
  cases tg with
  | Tuple ts a b=>exact plain (dJ (kE Z))
  | Name x px =>
    cases e with
    | ListComp elt gens sc cpos =>
      by_cases sw:tu C.sc x px (.ListComp elt gens sc cpos)=true
      ·cases g with
       | tup gs=>exact absurd F H0
       | name i =>
         cases m with
         | comp fr N' c =>
           replace he:=bO he;have B:b7 sc X.env.scope X.N N' fr:=by rw [G.sc,G.N];exact jO he.1
           have B':b7 sc C.sc C.N N' fr:=jO he.1;have EJ:PG X (.Name x px) (iW i):=by
            have F:=bO F;have F:=LV (bO F.1) F.2;exact qp G.nd (by rw [G.N];exact of_decide_eq_true F.1.1) (G.loc F.1.2) (G.own F.2)
           have EK:∀ l,Lq (.ListComp elt gens sc cpos) (some (.Name x px)) l X.env=pure true:=fun l=>by rw [p8 G.sc q,sw]
           have mc:=mCmp G.mono fr c
           cases c with
           | last src g ifs m =>
             have h2:=he.2;simp only [okC] at h2
             split at h2
             ·rename_i t it fs a;simp only [z4,decide_eq_true_eq] at h2;obtain ⟨⟨⟨⟨rfl,hi⟩,O⟩,ht⟩,L⟩:=h2;refine PS.imp (jb (i:=i) (g:=lG X.K (bG g)) (wi:=lI X.K (wI Φ src)) G.calm G.hx B (fun g' z=>by simp at z) (sI src G _ t hi).1 (fun s H fp=>sG (G.blk B' s H fp) g t O) (tb:=fun p=>lC X.K p (br (wTl Φ ifs) (cz (wE Φ m)))) (fun s H fp p => ?_) (sI src G _ t hi).2 EJ (EK _)) fun D σ H h => ?_
              ·have G':=G.blk B' s H fp;exact dH (p:=p) G' (bB (mE G.mono m)) (mTl G.mono ifs) (PB.imp (kf G'.hx (sE m G' elt L) rfl) (gb (mE G.mono m))) (sTl ifs G' fs ht)
              ·exact eC (mI G.mono src) (aO (bB (mE G.mono m)) (mTl G.mono ifs)) σ H _ (lr mc D σ H h)
             ·cases h2
           | more src g ifs rest =>
             have h2:=he.2;simp only [okC] at h2
             split at h2
             ·rename_i t it fs a g2 gs;simp only [z4,decide_eq_true_eq] at h2;obtain ⟨⟨⟨⟨rfl,hi⟩,O⟩,ht⟩,L⟩:=h2;have EL:∀ g',(g2::gs)[0]? = some g'->g'.is_async=0:=fun g' z=>by
               have z':g2=g':=by simpa using z
               subst z';exact gx L
              refine PS.imp (jb (i:=i) (g:=lG X.K (bG g)) (wi:=lI X.K (wI Φ src)) G.calm G.hx B EL (sI src G _ t hi).1 (fun s H fp=>sG (G.blk B' s H fp) g t O) (tb:=fun p=>lC X.K p (br (wTl Φ ifs) (wCl Φ rest))) (fun s H fp p => ?_) (sI src G _ t hi).2 EJ (EK _)) fun D σ H h => ?_
              ·have G':=G.blk B' s H fp;exact dH (p:=p) G' (mCl G.mono rest) (mTl G.mono ifs) (sCl rest G' elt (⟨t,it,fs,0⟩::g2::gs) sc cpos 0 (.inl rfl) p L) (sTl ifs G' fs ht)
              ·exact eC (mI G.mono src) (aO (mCl G.mono rest) (mTl G.mono ifs)) σ H _ (lr mc D σ H h)
             ·cases h2
         | _=>exact absurd he H0
      ·refine plain ?_;simp only [LW] at sw;refine dJ ?_;rw [p8 G.sc q,sw]
    | SetComp _ _ _ _=>cases m <;> exact absurd he H0
    | DictComp _ _ _ _ _ =>
      refine plain (dJ ?_);rw [vN G.sc q];unfold CP at Z;simp only [Iv] at Z;rw [Z]
    | _=>exact plain (dJ rfl)
  | _=>simp [jN] at J
 | .par i j a b,G,q,s,h=>by
  refine iO s h fun ts e pos h => ?_;refine dX ts h fun tg h => ?_;refine cY tg h fun ts k p h => ?_;refine cY e h fun es k' p' h => ?_;refine cM ts h fun t u h => ?_;refine cM es h fun e f h => ?_;refine cQ t h fun x px h => ?_;refine cQ u h fun y py h => ?_;simp only [z4,decide_eq_true_eq] at h;obtain ⟨⟨⟨⟨⟨⟨⟨hi,hj⟩,EM⟩,n1⟩,n2⟩,J⟩,hb⟩,hw⟩:=h;obtain ⟨i1,i2⟩:=qS hi;obtain ⟨j1,j2⟩:=qS hj;exact PS.imp (BL G.calm G.nd (by rw [G.N];exact i1) (by rw [G.N];exact j1) EM (by rw [G.sc];exact i2) (by rw [G.sc];exact j2) (bh (mE G.mono a) (al (mE G.mono b) ao) (sE a G _ J) (bh (mE G.mono b) ao (sE b G _ hb) cR (ah n2)) (ah n1)) (AU G.sc q hw) (dJ rfl)) (v9 (al (mE G.mono a) (al (mE G.mono b) ao)))
 | .put o i m,G,q,s,h=>by
  refine iO s h fun ts e pos h => ?_;refine dX ts h fun tg h => ?_;refine dz tg h fun x y tp h => ?_;simp only [z4] at h;obtain ⟨⟨⟨⟨U,Z⟩,ho⟩,hi⟩,he⟩:=h;exact Cy (by have:=G.units;lia) (mE G.mono m) (mE G.mono o) (mE G.mono i) (sE m G e he) (sE o G x ho) (sE i G y hi) (dJ (kE Z)) rfl (fun v=>by cases y <;> first | rfl | (simp [cL] at U;done))
 | .aug i op m,G,q,s,h=>by
  refine iw s h fun t o e pos h => ?_;refine cQ t h fun x _ h => ?_;simp only [z4,decide_eq_true_eq] at h;obtain ⟨⟨⟨⟨⟨rfl,Y⟩,hi⟩,hl⟩,hf⟩,he⟩:=h
  cases op with
  | add=>exact jv G.nd (by rw [G.N];exact hi) (G.loc hl) (sE m G _ he) lB gh (mE G.mono m) (G.own hf)
  | sub=>exact jv G.nd (by rw [G.N];exact hi) (G.loc hl) (sE m G _ he) lD gi (mE G.mono m) (G.own hf)
  | ext=>exact jv G.nd (by rw [G.N];exact hi) (G.loc hl) (sE m G _ he) vF lW (mE G.mono m) (G.own hf)
  | mul=>exact jv G.nd (by rw [G.N];exact hi) (G.loc hl) (sE m G _ he) lF gj (mE G.mono m) (G.own hf)
  | _=>simp at Y
 | .augI o i op m,G,q,s,h=>by
  refine iw s h fun t o' e pos h => ?_;refine dz t h fun x y tp h => ?_;simp only [z4,decide_eq_true_eq] at h;obtain ⟨⟨⟨⟨⟨rfl,Y⟩,U⟩,ho⟩,hi⟩,he⟩:=h;have hu:X.A.units+1 < JH:=by have:=G.units;lia
  have J:∀ ov iv new,augStore y ov iv new=(do holding [new,ov,iv] (OT ov iv new);release [new,ov,iv] [];pure .next):=fun ov iv new=>by cases y <;> first | rfl | (simp [cL] at U;done)
  cases op with
  | add=>exact kz hu (mE G.mono o) (mE G.mono i) (mE G.mono m) gh (sE o G x ho) (sE i G y hi) (sE m G e he) lB J
  | sub=>exact kz hu (mE G.mono o) (mE G.mono i) (mE G.mono m) gi (sE o G x ho) (sE i G y hi) (sE m G e he) lD J
  | mul=>exact kz hu (mE G.mono o) (mE G.mono i) (mE G.mono m) gj (sE o G x ho) (sE i G y hi) (sE m G e he) lF J
  | _=>simp at Y
 | .drop m,G,q,s,h=>by
  refine CM s h fun e _ h => ?_;simp only [z4] at h;exact PS.imp (zL (sE m G _ h.2) (kE h.1)) (v7 (mE G.mono m))
 | .ret m,G,q,s,h=>by
  refine yk s h fun o _ h => ?_;refine jos o h fun e h => ?_;rw [wS];exact PS.imp (BG (sE m G _ h)) (xS (mE G.mono m))
 | .ite c a b,G,q,s,h=>by
  refine ED s h fun t x y _ h => ?_;simp only [z4] at h;exact PS.imp (Do (sT c G _ h.1.1) (sSs a G q _ h.1.2) (sSs b G q _ h.2)) (Aw (mT G.mono c))
 | .for g src b,G,q,s,h=>by
  refine DY s h fun tg it body els _ h => ?_;refine gv els h fun  h => ?_;simp only [z4] at h;obtain ⟨⟨⟨hs,F⟩,hi⟩,hb⟩:=h;exact PS.imp (BP (fun e s z=>(G.hx e s z).elim) G.calm (sI src G _ _ hi).1 (sG G g _ F) (sSs b G q _ hb) (oW hs)) (xU (mI G.mono src) (mSs G.mono b))
 | .while c b,G,q,s,h=>by
  refine AR s h fun t body els _ h => ?_;refine gv els h fun  h => ?_;simp only [z4] at h;exact PS.imp (wK (fun e s z=>(G.hx e s z).elim) (sT c G _ h.1) (sSs b G q _ h.2)) (sF (mT G.mono c) (mSs G.mono b))
 | .frz i m,G,q,s,h=>by
  simp only [okS] at h;exact CD (sS m G q s h)
 | .pass,G,q,s,h=>by
  refine CO s h fun _ h => ?_;exact PS.imp zK lq
 | .brk,G,q,s,h=>by
  refine AS s h fun _ h => ?_;exact PS.imp wH sD
 | .cnt,G,q,s,h=>by
  refine t8 s h fun _ h => ?_;exact PS.imp qc v6
theorem sSs:∀ (m:MSs) (G:Good C Φ k X) (j:C.sc.kind = .function) (s:List Stmt),okSs m C s=true->PSs X s (lS X.K (wSs Φ m))
 | .nil,G,j,s,h=>by
  simp [okSs] at h;subst h;exact PSs.imp zJ lq
 | .cons m r,G,j,[],h=>by simp [okSs] at h
 | .cons m r,G,j,s::ss,h=>by
  simp only [okSs,z4] at h;exact PSs.imp (wG (sS m G j s h.1) (sSs r G j ss h.2)) (xR (mS G.mono m) (mSs G.mono r))
end
end
end
section
structure FD where
 name:Str
 st:Stmt
 N:List Str
 np:Nat
 body:MSs
noncomputable def eX (N:List Str) (ds:List D):av:=ds.map some++Hm (N.length - ds.length) none
noncomputable def phi (T:List FD):Nat->Phi
 | 0=>fun _ _ _ _=>False
 | k+1=>fun f ds M Q => ∃ d,T[f]? = some d/\ds.length=d.np/\wSs (phi T k) d.body { nx:=fun _ M'=>Q .non M',rt:=Q } (eX d.N ds) M
theorem iR (T:List FD):∀ k f,aX (phi T k f)
 | 0,f=>fun _ _ _ _ _ q=>q.elim
 | k+1,f=>fun ds M Q Q' h ⟨d,e,l,q⟩=>⟨d,e,l,mSs (iR T k) d.body { nx:=fun _ M'=>Q .non M',rt:=Q } { nx:=fun _ M'=>Q' .non M',rt:=Q' } _ _ ⟨fun _ M' q'=>h _ _ q',h,fun _ _ z=>z,fun _ _ z=>z⟩ q⟩
noncomputable def tz (Γ:List Str) (cs:List (Str×D)) (d:FD):Bool :=
 decide ((az d.st).kind = .function) && !(az d.st).isCoroutine && !(az d.st).isGenerator&&decide (d.N.Nodup)&&decide (d.np<=d.N.length)
  && (d.N.take d.np).all (fun x=>(az d.st).names.lookup x==some .local || (az d.st).names.lookup x==some .cell)
  && (az d.st).names.all (fun y => !(y.2 == .free))&&okSs d.body ⟨Γ,d.N,az d.st,d.N,cs⟩ (bV d.st)
theorem yq {Γ:List Str} {cs:List (Str×D)} {d:FD} (h:tz Γ cs d=true):gI d.N (d.N.take d.np) (az d.st)/\(d.N.take d.np).length=d.np/\okSs d.body ⟨Γ,d.N,az d.st,d.N,cs⟩ (bV d.st)=true:=by
 simp only [tz,z4,decide_eq_true_eq,Iv] at h;obtain ⟨⟨⟨⟨⟨⟨⟨h1,h2⟩,q⟩,B⟩,O⟩,F⟩,G⟩,J⟩:=h;have j:(d.N.take d.np).length=d.np:=by rw [Hq];lia
 refine ⟨⟨h1,h2,q,B,by rw [j],fun x hx => ?_,fun y L e => ?_⟩,j,J⟩
 ·have z:=KW.mp F x hx;simpa using z
 ·have z:=KW.mp G y L;rw [e] at z;simp at z
section
variable {P:Hu} {w:HW} {K:Frag} {mg:Str->Option h7} {base:Heap}
structure zt (K:Frag) (mg:Str->Option h7) (T:List FD) (cs:List (Str×D)):Prop where
 blt:∀ x∈bltNames,mg x=none
 fns:∀ (i:Nat) (d:FD),T[i]? = some d -> ∃ f fd,Fun K d.name d.name d.st f fd/\mg d.name=some (.ref f)/\Binds K fd (d.N.take d.np) []
 ok:∀ d∈T,tz (T.map (·.name)) cs d=true
 cst:∀ x d,(x,d)∈cs -> ∃ u,mg x=some u/\GV K d u
theorem vO {T:List FD} {cs:List (Str×D)} (O:zt K mg T cs):∀ (k i:Nat) (d:FD) (f:Addr) (fd:KH),T[i]? = some d->Fun K d.name d.name d.st f fd->dN P w K mg base CX0 k f fd (d.N.take d.np) (lSp K (phi T k i))
 | 0,i,d,f,fd,e,F=>⟨fun vs H Q E h=>by obtain ⟨ds,M,_,_,q⟩:=h;exact q.elim,fun A outer s H args us vs Q E _ _ _ _ h=>by obtain ⟨ds,M,_,_,q⟩:=h;exact q.elim⟩
 | k+1,i,d,f,fd,e,F=>by
   obtain ⟨S,Z,hb⟩:=yq (O.ok d (Hy e));refine F.ok S (fun vs H Q E h => ?_) fun cdv A outer s H vs Q E hr h => ?_
   ·obtain ⟨ds,M,rm,rs,d',e',l,q⟩:=h;rw [e] at e';cases e';rw [rs.length,l,Z]
   ·obtain ⟨ds,M,rm,rs,d',e',l,q⟩:=h;rw [e] at e';cases e';have G:Good ⟨T.map (·.name),d.N,az d.st,d.N,cs⟩ (phi T k) k ((iA CX0 P w K mg base d.N d.name (az d.st) f cdv A outer s H E).nox):=by
     refine ⟨fun _ _ z=>z,rfl,rfl,rfl,S.nd,fun _ _=>rfl,hr,O.blt,fun j x hx => ?_,iR T k,O.cst⟩;have B:(T.map (·.name))[j]? = some x:=hx;rw [HB] at B
     cases e2:T[j]? with
     | none=>rw [e2] at B;cases B
     | some d2 =>
       rw [e2] at B;cases B;obtain ⟨f2,U,Y,m2,b2⟩:=O.fns j d2 e2;exact ⟨f2,U,_,m2,Y.kp,b2,vO O k j d2 f2 U e2 Y⟩
    refine ⟨_,sSs d.body G S.kind _ hb,eX d.N ds,M, { nx:=fun _ M'=>KE' K M H Q .non M',rt:=KE' K M H Q }, ?_,rm,⟨fun ρ M' σ H' x rs' rm' q' => ?_,fun d M' v H' x rm' rd' q'=>q' v H' x rm' rd',fun _ _ _ _ _ _ _ z=>z,fun _ _ _ _ _ _ _ z=>z⟩,q⟩
    ·refine ⟨by simp [cO,eX,rs.length],fun j dd J => ?_⟩
     unfold eX at J;unfold cO
     by_cases L:j < ds.length
     ·rw [Hg (by simpa using L),HB] at J
      cases e3:ds[j]? with
      | none=>rw [e3] at J;cases J
      | some z =>
        rw [e3] at J;cases J;obtain ⟨v,hv,rv⟩:=rs.get e3;refine ⟨v, ?_,rv⟩;rw [Hg (by rw [D2,rs.length];exact L),HB,hv];rfl
     ·rw [GS (by simpa using L),NF] at J
      split at J <;> cases J
    ·exact q' .non H' x rm' (Rr.mpr rfl)
theorem CT {T:List FD} {k i:Nat} {H:Hp} {a:Addr} {ns:List Int} (B:se H) (F:SqL K H a (ns.map V.int)) (h:phi T k i [.con (ns.map D.int)] (fun _=>none) fun d _=>d = .bl true) :
 lSp K (phi T k i) [.ref a] H (fun v _=>v = .bl true) fun _ _ _=>False:=by
 have j:RM K (fun _=>none) H:=fun _ _ z=>by cases z
 refine ⟨[.con (ns.map D.int)],fun _=>none,j,RDs.cons (Rq.mpr ⟨a,ns.map V.int,rfl, ?_,RDs.ints ns⟩) RDs.nil,iR T k i [.con (ns.map D.int)] (fun _=>none) (fun d _=>d = .bl true) (KE' K (fun _=>none) H fun v _=>v = .bl true) (fun d M' e=>fun v H' x rm rd => ?_) h⟩
 ·rcases F with (z | ⟨o,z⟩) | z
  ·rcases B a with q | ⟨o,xs,q⟩
   ·rw [z] at q;cases q
   ·rw [z] at q;cases q
  ·exact .inl ⟨o,z⟩
  ·exact .inr z
 ·subst e;exact Rm.mp rd
end
theorem DZ (us:List h7) (h:us.length=0):us=[]:=HU.mp h
theorem fO (us:List h7) (h:us.length=1):∃ a,us=[a]:=List.length_eq_one_iff.mp h
theorem dA (us:List h7) (h:us.length=2):∃ a b,us=[a,b]:=by
 cases us with
 | nil=>cases h
 | cons a us=>obtain ⟨b,rfl⟩:=fO us (R9.inj h);exact ⟨a,b,rfl⟩
theorem jP (us:List h7) (h:us.length=3):∃ a b c,us=[a,b,c]:=by
 cases us with
 | nil=>cases h
 | cons a us=>obtain ⟨b,c,rfl⟩:=dA us (R9.inj h);exact ⟨a,b,c,rfl⟩
theorem tD (us:List h7) (h:us.length=4):∃ a b c d,us=[a,b,c,d]:=by
 cases us with
 | nil=>cases h
 | cons a us=>obtain ⟨b,c,d,rfl⟩:=jP us (R9.inj h);exact ⟨a,b,c,d,rfl⟩
end
section
theorem CU {T:List FD} {k f:Nat} {d:FD} {ds:List D} {M:Mem} {Q:QD} (e:T[f]? = some d) (l:ds.length=d.np) {ρ:av} (r:eX d.N ds = ρ)
 (h:wSs (phi T k) d.body { nx:=fun _ M'=>Q .non M',rt:=Q } ρ M):phi T (k+1) f ds M Q:=⟨d,e,l,by rw [r];exact h⟩
theorem au {T:List FD} {n f:Nat} {d:FD} {ds:List D} {M:Mem} {Q:QD} (j : 1<=n) (e:T[f]? = some d) (l:ds.length=d.np) {ρ:av} (r:eX d.N ds = ρ)
 (h:wSs (phi T (n - 1)) d.body { nx:=fun _ M'=>Q .non M',rt:=Q } ρ M):phi T n f ds M Q:=by
 obtain ⟨k,rfl⟩:∃ k,n=k+1:=⟨n - 1,by lia⟩
 exact CU e l r h
theorem AW {Φ:Phi} {D:bv} {ρ:av} {M:Mem}:wSs Φ .nil D ρ M=D.nx ρ M:=by rw [wSs];rfl
theorem bT {Φ:Phi} {s:MS} {r:MSs} {D:bv} {ρ:av} {M:Mem}:wSs Φ (.cons s r) D ρ M=wS Φ s { D with nx:=wSs Φ r D } ρ M:=by rw [wSs];rfl
theorem qT {ds:List D} {y:D} {M:Mem} {Q:QD}:wIx (.tup ds) y M Q = ∃ i d,y = .int i/\atI ds i=some d/\Q d M:=rfl
theorem qU {ds:List D} {y:D} {M:Mem} {Q:QD}:wIx (.con ds) y M Q = ∃ i d,y = .int i/\atI ds i=some d/\Q d M:=rfl
theorem aT {a:Addr} {i:Int} {ds:List D} {d:D} {M:Mem} {Q:QD} (h:M a=some (.lst ds)) (e:atI ds i=some d) (q:Q d M):wIx (.ref a) (.int i) M Q := .inl ⟨ds,i,d,h,rfl,e,q⟩
theorem bU {a:Addr} {i:Int} {ds:List D} {v:D} {j:Nat} {M:Mem} {Q:Mem->Prop} (h:M a=some (.lst ds)) (e:ixN ds.length i=some j) (q:Q (ag M a (.lst (ds.set j v)))):eD (.ref a) (.int i) v M Q:=⟨a,rfl, .inl ⟨ds,i,j,rfl,h,e,q⟩⟩
theorem kF {a:Addr} {ds:List D} {M:Mem} {Q:QD} (h:M a=some (.lst ds)) (q:Q (.int ds.length) M):fB [.ref a] M Q:=⟨_,_,rfl,by simp only [iC,h],q⟩
theorem af {a:Addr} {ds:List D} {M:Mem} (h:M a=some (.lst ds)):aq M (.ref a)=some ds:=by simp only [aq,h]
theorem CV {i:Int} {M:Mem} {Q:QD}:nF [.int i] M Q=Q (.int i) M:=by
 apply propext;constructor
 ·rintro (⟨j,e,q⟩ | ⟨k,e,q⟩)
  ·cases e;exact q
  ·cases e
 ·exact fun q => .inl ⟨i,rfl,q⟩
theorem CW {b:Bool} {M:Mem} {Q:QD}:nF [.bl b] M Q=Q (.int (if b then 1 else 0)) M:=by
 apply propext;constructor
 ·rintro (⟨j,e,q⟩ | ⟨k,e,q⟩)
  ·cases e
  ·cases e;exact q
 ·exact fun q => .inr ⟨b,rfl,q⟩
theorem E1 {i j:Int} {M:Mem} {Q:QD}:wEq (.int i) (.int j) M Q=Q (.bl (i==j)) M:=by
 simp [wEq,rb,IA]
theorem E2 {i j:Int} {M:Mem} {Q:QD}:wNe (.int i) (.int j) M Q=Q (.bl (!(i==j))) M:=by
 simp [wNe,rb,IA]
theorem vP {i j:Int} {M:Mem} {Q:QD}:fY (.int i) (.int j) M Q=Q (.int (i+j)) M:=rfl
theorem vQ {a b:List D} {M:Mem} {Q:QD}:fY (.tup a) (.tup b) M Q=((a≠[]∨True)/\a.length+b.length<=GX/\Q (.tup (a++b)) M):=rfl
theorem vR {i j:Int} {M:Mem} {Q:QD}:kn (.int i) (.int j) M Q=Q (.int (i - j)) M:=rfl
theorem vS {i j:Int} {M:Mem} {Q:QD}:ko (.int i) (.int j) M Q=(MulOk i j/\Q (.int (i*j)) M):=rfl
theorem vT {ds:List D} {k:Int} {M:Mem} {Q:QD}:ko (.tup ds) (.int k) M Q=(-(2 ^ 63)<=k/\k < 2 ^ 63/\ds.length*k.toNat<=GX/\Q (.tup (Hm k.toNat ds).flatten) M):=rfl
theorem qV {i j:Int} {M:Mem} {Q:QD}:mL (.int i) (.int j) M Q=(0 < j/\j < 2 ^ 256/\Q (.int (i / j)) M):=rfl
theorem vU {i j:Int} {M:Mem} {Q:QD}:sj (.int i) (.int j) M Q=(0 < j/\Q (.int (i % j)) M):=rfl
theorem vW {i j:Int} {M:Mem} {Q:QD}:sk (.int i) (.int j) M Q=(0<=j/\j<=1000000/\i.natAbs < 2 ^ 64/\Q (.int (i ^ j.toNat)) M):=rfl
theorem zu {i j:Int} {M:Mem} {Q:QD}:wLt (.int i) (.int j) M Q=Q (.bl (decide (i < j))) M:=rfl
theorem zw {i j:Int} {M:Mem} {Q:QD}:wLe (.int i) (.int j) M Q=Q (.bl (decide (i<=j))) M:=rfl
theorem tE {i j:Int} {M:Mem} {Q:QD}:wGt (.int i) (.int j) M Q=Q (.bl (decide (j < i))) M:=rfl
theorem zx {i j:Int} {M:Mem} {Q:QD}:wGe (.int i) (.int j) M Q=Q (.bl (decide (j<=i))) M:=rfl
theorem qW {i j:Int} {M:Mem} {Q:QD}:mN (.int i) (.int j) M Q=Q (.int (i+j)) M:=rfl
theorem qX {i j:Int} {M:Mem} {Q:QD}:mP (.int i) (.int j) M Q=Q (.int (i - j)) M:=rfl
theorem qY {i j:Int} {M:Mem} {Q:QD}:mQ (.int i) (.int j) M Q=(MulOk i j/\Q (.int (i*j)) M):=rfl
theorem vX {i:Int} {M:Mem} {Q:QD}:sn (.int i) M Q=Q (.int (-i)) M:=rfl
theorem CY {i:Int} {M:Mem} {Q:QD}:nE [.int i] M Q=Q (.int (if i < 0 then -i else i)) M:=by simp [nE]
theorem AX {i j:Int} {M:Mem} {Q:QD}:mM [.int i, .int j] M Q=Q (.int (if j < i then j else i)) M:=by
 apply propext;constructor
 ·rintro ⟨a,b,e,q⟩;cases e;exact q
 ·exact fun q=>⟨i,j,rfl,q⟩
theorem CZ {ds:List D} {M:Mem} {Q:QD}:fB [.con ds] M Q=Q (.int ds.length) M:=by simp [fB,iC]
theorem D3 {ds:List D} {M:Mem} {Q:QD}:fB [.tup ds] M Q=Q (.int ds.length) M:=by simp [fB,iC]
theorem vY {ds:List D} {M:Mem}:aq M (.tup ds)=some ds:=rfl
theorem vZ {ds:List D} {M:Mem}:aq M (.con ds)=some ds:=rfl
theorem zy {α:Sort _} {a b : α}:(if true=true then a else b)=a:=rfl
theorem zz {α:Sort _} {a b : α}:(if false=true then a else b)=b:=rfl
theorem AY {ta tb:TEd} {ρ:av} {M:Mem} {R:List D->(Mem->Prop)->Mem->Prop}:nR ta tb ρ M R=ta ρ M fun x j=>tb ρ j fun y M2 => ∃ xs ys,aq M2 x=some xs/\aq M2 y=some ys/\R (JT fF xs ys) (fun M=>aq M x=some xs/\aq M y=some ys) M2:=by
 unfold nR aD;congr 1;funext x j;unfold bq;congr 1;funext y M2;apply propext;constructor
 ·rintro ⟨x',y',xs,ys,e,q⟩
  cases e;exact ⟨xs,ys,q⟩
 ·rintro ⟨xs,ys,q⟩;exact ⟨x,y,xs,ys,rfl,q⟩
theorem yr {ta tb tc:TEd} {ρ:av} {M:Mem} {R:List D->(Mem->Prop)->Mem->Prop}:jo ta tb tc ρ M R=ta ρ M fun x B=>tb ρ B fun y M2=>tc ρ M2 fun z j => ∃ xs ys zs,x = .tup xs/\z = .tup zs/\isT y=false/\aq j y=some ys/\R (z3D xs ys zs) (fun M=>aq M y=some ys) j:=by
 unfold jo aD;congr 1;funext x B;congr 1;funext y M2;congr 1;funext z j;apply propext;constructor
 ·rintro ⟨xs,y',ys,zs,e,q⟩
  cases e;exact ⟨xs,ys,zs,rfl,rfl,q⟩
 ·rintro ⟨xs,ys,zs,rfl,rfl,q⟩;exact ⟨xs,y,ys,zs,rfl,q⟩
theorem w5 {x y:Str} {M:Mem} {Q:QD}:fY (.str x) (.str y) M Q=(x.length+y.length<=GX/\Q (.str (x++y)) M):=rfl
local macro_rules | `(tactic| walk_at "wp") => `(tactic| ((try dsimp only [wS,wE,wA,wAnds,wOrs,wO,wT,wAndTs,wOrTs,wTl,wI,wCl,wCmp,bG,bGs,opB,opC,opF,opM,sZ,opI,cy,wC,wOp,wUn,bq,aD,wAr,fx,nr,nv,nK,jf,jg,nL,jh,nM,ji,wIf,eT,jj,wSl,jk,gn,cU,jy,jD,wBM,bw,fD,bE,ky,nQ,jq,jI,jn,cz,br,dD,gP,kj,gQ,nT,gc,jt,ju,nU,sIf,fH,nV,nW,gd,nX,og,jw,vP,vQ,w5,vR,vS,vT,qV,vU,vW,zu,zw,tE,zx,qW,qX,qY,vX,vY,vZ,qT,qU,zy,zz,NN,Kb,N9,Na,LZ,Kn,Qm,Qn,Qo,Hs,KQ,HR,Jd]);(try simp only [wS,wE,wA,wAnds,wOrs,wO,wT,wAndTs,wOrTs,wTl,wI,wCl,wCmp,bG,bGs,opB,opC,opF,opM,sZ,opI,cy,wC,wOp,wUn,bq,aD,wAr,fx,nr,nv,nK,jf,jg,nL,jh,nM,ji,wIf,eT,jj,wSl,jk,gn,cU,jy,jD,wBM,bw,fD,bE,ky,nQ,AY,yr,jq,jI,jn,cz,br,dD,gP,kj,gQ,nT,gc,jt,ju,nU,sIf,fH,nV,nW,gd,nX,og,jw,AW,
 vP,vQ,w5,vR,vS,vT,qV,vU,vW,zu,zw,tE,zx,qW,qX,qY,vX,CV,CW,E1,E2,CY,AX,CZ,D3,vY,vZ,qT,qU,zy,zz,IY,if_false,if_true,
 NN,Kb,N9,Na,PV,exists_eq_left',exists_eq_left,exists_eq_right,exists_and_left,exists_and_right,D.bl.injEq,D.int.injEq,D.ref.injEq,D.tup.injEq,LZ,Kn,Qm,Qn,Qo,Hs,KQ,decide_eq_true_eq,QH,and_true,true_and,HR,Jd])))
local macro_rules | `(tactic| walk_at "st") => `(tactic| ((first | rw [bT] | (dsimp only;rw [bT]));walk_at "wp"))
theorem D4 {a:Addr} {t:Bool} {kvs:List (D×D)} {k d:D} {M:Mem} {Q:QD} (h:M a=some (.dct t kvs)) (ok:gK t k=true) (e:dget kvs k=some d) (q:Q d M):wIx (.ref a) k M Q := .inr (.inl ⟨t,kvs,d,h,ok,e,q⟩)
theorem w6 {a:Addr} {kvs:List (D×D)} {k d:D} {M:Mem} {Q:QD} (h:M a=some (.fdc kvs)) (ok:bQ k=true) (e:dget kvs k=some d) (q:Q d M):wIx (.ref a) k M Q := .inr (.inr ⟨kvs,d,h,ok,e,q⟩)
theorem AZ {i:Nat} {t:TSd} {A:bv} {ρ:av} {M:Mem} {a:Addr} {kvs:List (D×D)} (e : ρ[i]? = some (some (.ref a))) (m:M a=some (.dct true kvs)) (h:t A ρ (ag M a (.fdc kvs))):sW i t A ρ M:=⟨a,kvs,e, .inl ⟨m,h⟩⟩
theorem ph {a:Addr} {t:Bool} {kvs:List (D×D)} {k v:D} {M:Mem} {Q:Mem->Prop} (h:M a=some (.dct t kvs)) (ok:gK t k=true) (j:kvs.length < GX) (q:Q (ag M a (.dct t (cj kvs k v)))):eD (.ref a) k v M Q:=⟨a,rfl, .inr ⟨t,kvs,h,ok,j,q⟩⟩
def Ge (M M':Mem):Prop := ∀ a o,M a=some o->M' a=some o
theorem Ge.refl {M:Mem}:Ge M M:=fun _ _ h=>h
theorem Ge.trans {M M' M'':Mem} (h:Ge M M') (g:Ge M' M''):Ge M M'':=fun _ _ e=>g _ _ (h _ _ e)
theorem Ge.new {M:Mem} {p:Addr} {o:O} (h:M p=none):Ge M (ag M p o):=fun a o' e=>by
 rw [aK (fun z=>by rw [z,h] at e;cases e)];exact e
def Box (b:Addr) (M:Mem):Prop := ∃ x y z:Int,M b=some (.lst [.int x, .int y, .int z])
structure Bx (b:Addr) (M M':Mem):Prop where
 box:Box b M'
 keep:∀ a o,a≠b->M a=some o->M' a=some o
theorem Bx.refl {b:Addr} {M:Mem} (h:Box b M):Bx b M M:=⟨h,fun _ _ _ e=>e⟩
theorem Bx.trans {b:Addr} {M M' M'':Mem} (h:Bx b M M') (g:Bx b M' M''):Bx b M M'':=⟨g.box,fun a o n e=>g.keep a o n (h.keep a o n e)⟩
theorem Bx.ge {b:Addr} {M M' M'':Mem} (h:Bx b M M') (g:Ge M' M''):Bx b M M'':=⟨by obtain ⟨x,y,z,e⟩:=h.box;exact ⟨x,y,z,g _ _ e⟩,fun a o n e=>g _ _ (h.keep a o n e)⟩
theorem Bx.put {b:Addr} {M:Mem} {x y z:Int}:Bx b M (ag M b (.lst [.int x, .int y, .int z])):=⟨⟨x,y,z,ad⟩,fun a o n e=>by rw [aK n];exact e⟩
theorem Bx.of {b:Addr} {M M':Mem} (h:Box b M) (g:Ge M M'):Bx b M M':=(Bx.refl h).ge g
section
variable {T:List FD}
noncomputable def jQ (s:Stmt):FD:=⟨"_law_cell_at",s,["_law_script", "_law_k"],2,
 (.cons (.ite (.cmp .lt (.var 1) (.blt .len (.cons (.var 0) .nil))) (.cons (.ret (.ix (.var 0) (.var 1)))
 .nil) .nil)
 (.cons (.ret (.int 0))
 .nil))⟩
theorem yt {α:Type} {xs:List α} {i:Int} (h0 : 0<=i) (h1:i < xs.length):∃ x,atI xs i=some x/\xs[i.toNat]? = some x:=by
 have:i.toNat < xs.length:=by lia
 refine ⟨xs[i.toNat], ?_,D1 this⟩;unfold atI ixN;simp [h0,h1,D1 this]
theorem B0 {f:Nat} {s:Stmt} (hf:T[f]? = some (jQ s)) {n:Nat} (j : 1<=n) {ns:List Int} {k:Int} {M:Mem} {Q:QD} (h0 : 0<=k) (q:∀ i,Q (.int i) M):phi T n f [.con (ns.map D.int), .int k] M Q:=by
 refine au j hf rfl (ρ := [some _,some _]) rfl ?_;unfold jQ;walk_at "st"
 split
 ·next h =>
  walk_at "st";obtain ⟨x,e,e2⟩:=yt (xs:=ns.map D.int) h0 h;rw [HB] at e2
  cases e3:ns[k.toNat]? with
  | none=>rw [e3] at e2;cases e2
  | some y=>rw [e3] at e2;cases e2;exact ⟨_,e,q y⟩
 ·walk_at "st";exact q 0
theorem cm {i j:Int} (h : -(2 ^ 64) < i/\i < 2 ^ 64):MulOk i j := .inl h
theorem kG {i j:Int} (h : -(2 ^ 64) < j/\j < 2 ^ 64):MulOk i j := .inr (.inl h)
noncomputable def qZ (s:Stmt):FD:=⟨"_law_mixed",s,["_law_number_here", "_law_k", "_law_once", "_law_twice"],2,
 (.cons (.asg (.name 2) (.bin .mod (.bin .mul (.bin .add (.bin .add (.bin .mod (.var 0) (.int 1000000007)) (.bin .mul (.int 7) (.var 1))) (.int 1)) (.int 48271)) (.int 2147483647)))
 (.cons (.asg (.name 3) (.bin .mod (.bin .mul (.var 2) (.bin .add (.bin .add (.bin .mod (.var 2) (.int 1009)) (.var 1)) (.int 3))) (.int 998244353)))
 (.cons (.ret (.bin .fdiv (.bin .mod (.bin .add (.bin .mul (.var 3) (.int 39373)) (.var 2)) (.int 2147483629)) (.int 64)))
 .nil)))⟩
noncomputable def tF (s:Stmt) (fc fm:Nat):FD:=⟨"_law_box",s,["_law_script", "_law_k", "_law_cell"],2,
 (.cons (.asg (.name 2) (.call fc (.cons (.var 0) (.cons (.var 1) .nil))))
 (.cons (.ret (.lst (.cons (.bin .mul (.blt .abs (.cons (.var 2) .nil)) (.blt .int (.cons (.cmp .ge (.blt .abs (.cons (.var 2) .nil)) (.bin .pow (.int 10) (.int 18))) .nil))) (.cons (.call fm (.cons (.var 2) (.cons (.bin .add (.int 900) (.var 1)) .nil))) (.cons (.int 0) .nil)))))
 .nil))⟩
theorem D5 {f fc fm:Nat} {s sc:Stmt} (hf:T[f]? = some (tF s fc fm)) (z:T[fc]? = some (jQ sc)) {n:Nat} (B:∀ {x k:Int} {M:Mem} {Q:QD},(∀ i,Q (.int i) M)->phi T (n - 1) fm [.int x, .int k] M Q) (G : 2<=n) {ns:List Int} {k:Int} {M:Mem} {Q:QD} (h0 : 0<=k)
 (q:∀ p x y,M p=none->Q (.ref p) (ag M p (.lst [.int x, .int y, .int 0]))):phi T n f [.con (ns.map D.int), .int k] M Q:=by
 refine au (by lia) hf rfl (ρ := [some _,some _,none]) rfl ?_
 unfold tF;walk_at "st";refine B0 z (by lia) h0 fun i => ?_
 walk_at "st";refine ⟨by decide,by decide,by decide,kG ?_, ?_⟩
 ·split <;> lia
 refine B fun j => ?_;exact ⟨by rw [GU];lia,fun p F=>q p _ _ F⟩
noncomputable def pj (s:Stmt) (fm:Nat):FD:=⟨"_law_take",s,["_law_box_here", "_law_many", "_law_found", "_law_reach"],2,
 (.cons (.ite (.cmp .gt (.ix (.var 0) (.int 0)) (.int 0)) (.cons (.asg (.name 2) (.bin .mod (.ix (.var 0) (.int 0)) (.var 1)))
 (.cons (.put (.var 0) (.int 0) (.bin .fdiv (.ix (.var 0) (.int 0)) (.var 1)))
 (.cons (.ret (.var 2))
 .nil))) .nil)
 (.cons (.asg (.tup (.cons (.name 2) (.cons (.name 3) .nil))) (.tup (.cons (.int 0) (.cons (.int 1) .nil))))
 (.cons (.while (.cmp .lt (.var 3) (.var 1)) (.cons (.put (.var 0) (.int 2) (.bin .add (.ix (.var 0) (.int 2)) (.int 1)))
 (.cons (.asg (.name 2) (.bin .add (.bin .mul (.var 2) (.int 33554432)) (.call fm (.cons (.ix (.var 0) (.int 1)) (.cons (.ix (.var 0) (.int 2)) .nil)))))
 (.cons (.asg (.name 3) (.bin .mul (.var 3) (.int 33554432)))
 .nil))))
 (.cons (.ret (.bin .mod (.var 2) (.var 1)))
 .nil))))⟩
def tG (T:List FD) (n fm:Nat):Prop := ∀ {x k:Int} {M:Mem} {Q:QD},(∀ i,Q (.int i) M)->phi T n fm [.int x, .int k] M Q
theorem B1 {f fm:Nat} {s:Stmt} (hf:T[f]? = some (pj s fm)) {n:Nat} (J:tG T (n - 1) fm) (O : 2<=n) {b:Addr} {m:Int} {M:Mem} {Q:QD} (L:Box b M) (h1 : 0 < m) (h2:m<=2 ^ 100)
 (q:∀ r M',0<=r->r < m->Bx b M M'->Q (.int r) M'):phi T n f [.ref b, .int m] M Q:=by
 refine au (by lia) hf rfl (ρ := [some _,some _,none,none]) rfl ?_
 unfold pj;obtain ⟨x,y,z,G⟩:=L;walk_at "st";refine aT G (d := .int x) rfl ?_;simp only [tE];walk_at "wp"
 split
 ·next hx =>
  walk_at "st";refine aT G (d := .int x) rfl ?_;walk_at "wp";refine ⟨h1, ?_⟩;walk_at "st";refine aT G (d := .int x) rfl ?_;walk_at "wp";refine ⟨h1,by lia, ?_⟩
  refine bU G (j := 0) rfl ?_;walk_at "st";exact q _ _ (Mw _ (by lia)) (Lm _ h1) Bx.put
 ·next hx =>
  walk_at "st";refine ⟨by rw [GU];lia, ?_⟩
  walk_at "st";refine ⟨5, ?_⟩;have go:∀ (f:Nat) (found reach z:Int) (M':Mem),m<=reach*33554432 ^ f->M' b=some (.lst [.int x, .int y, .int z])->Bx b M M' ->
   bg (fx (wOp wLt (cy 3) (cy 1))) (wSs (phi T (n - 1)) (MSs.cons (MS.put (ME.var 0) (ME.int 2) (ME.bin BOp.add ((ME.var 0).ix (ME.int 2)) (ME.int 1)))
    (MSs.cons (MS.asg (MG.name 2) (ME.bin BOp.add (ME.bin BOp.mul (ME.var 2) (ME.int 33554432)) (ME.call fm (MEs.cons ((ME.var 0).ix (ME.int 1)) (MEs.cons ((ME.var 0).ix (ME.int 2)) MEs.nil)))))
      (MSs.cons (MS.asg (MG.name 3) (ME.bin BOp.mul (ME.var 3) (ME.int 33554432))) MSs.nil))))
    { nx:=wSs (phi T (n - 1)) (MSs.cons (MS.ret (ME.bin BOp.mod (ME.var 2) (ME.var 1))) MSs.nil) { nx:=fun x M'=>Q D.non M',rt:=Q },rt:=Q } (f+1) [some (.ref b),some (.int m),some (.int found),some (.int reach)] M':=by
   intro f
   induction f with
   | zero =>
     intro found reach z M' hm F B;simp only [bg];walk_at "wp";rw [if_neg (by lia)]
     walk_at "st";exact ⟨h1,q _ _ (Mw _ (by lia)) (Lm _ h1) B⟩
   | succ f ih =>
     intro found reach z M' hm F B;rw [bg];walk_at "wp"
     split
     ·next U =>
      walk_at "st";refine aT F (d := .int z) rfl ?_;walk_at "wp";refine bU F (j := 2) rfl ?_;walk_at "st";refine ⟨kG (by decide), ?_⟩
      refine aT ad (d := .int y) rfl ?_;refine aT ad (d := .int (z+1)) rfl ?_;refine J fun i => ?_;walk_at "wp";walk_at "st";refine ⟨kG (by decide), ?_⟩
      exact ih _ _ (z+1) _ (by rw [Int.mul_assoc, <- Int.pow_succ'];exact hm) ad (B.trans Bx.put)
     ·walk_at "st";exact ⟨h1,q _ _ (Mw _ (by lia)) (Lm _ h1) B⟩
  exact go 4 0 1 z M (by lia) G (Bx.refl ⟨x,y,z,G⟩)
def jR (T:List FD) (n f:Nat):Prop := ∀ {b:Addr} {m:Int} {M:Mem} {Q:QD},Box b M->0 < m->m<=2 ^ 100->(∀ r M',0<=r->r < m->Bx b M M'->Q (.int r) M')->phi T n f [.ref b, .int m] M Q
end
section
variable {T:List FD}
theorem am {α:Type} {xs l r:List α} {x : α} (e:xs=l++x::r):l.length < xs.length:=by rw [e];simp
noncomputable abbrev Pr:=List Int×List Int×List Int
noncomputable def prD (p:Pr):D := .tup [.tup (p.1.map .int), .tup (p.2.1.map .int), .tup (p.2.2.map .int)]
noncomputable def cF (p:Pr):Iz := .tuple [.tuple (p.1.map .int), .tuple (p.2.1.map .int), .tuple (p.2.2.map .int)]
theorem r0 {k:Nat} {M:Mem}:∀ ns:List Int,aM (rb k M) (ns.map D.int)=some (ns.map PyData.int)
 | [] => rfl
 | x::r=>by
   have e:rb k M (.int x)=some (.int x):=by cases k <;> rfl
   simp [aM,e,r0 r]
theorem E3 {k:Nat} {M:Mem} (p:Pr):rb (k+2) M (prD p)=some (cF p):=by
 simp [rb,prD,cF,aM,r0]
theorem pv {k:Nat} {M:Mem}:∀ ps:List Pr,aM (rb (k+2) M) (ps.map prD)=some (ps.map cF)
 | [] => rfl
 | p::r=>by simp [aM,E3,pv r]
theorem pA {k:Nat} {M:Mem} {a:Addr} {ds:List D} (h:M a=some (.lst ds)):rb (k+1) M (.ref a)=(aM (rb k M) ds).map Qv:=by
 simp only [rb,h]
theorem cn {Φ:Phi} {s:MS} {r:MSs} {E:bv} {ρ:av} {M:Mem} (I:av->Mem->Prop) (h1:∀ R:av->Mem->Prop,(∀ ρ M,I ρ M->R ρ M)->wS Φ s { E with nx:=R } ρ M) (h2:∀ ρ M,I ρ M->wSs Φ r E ρ M):wSs Φ (.cons s r) E ρ M:=by
 rw [bT];exact h1 _ h2
theorem Bx.upd {b q:Addr} {M M':Mem} {o:O} (h:Bx b M M') (B:M q=none) (j:q≠b):Bx b M (ag M' q o) :=
 ⟨by obtain ⟨x,y,z,e⟩:=h.box;exact ⟨x,y,z,by rw [aK j.symm];exact e⟩,fun u o' nu eu=>by
   rw [aK (fun z=>by rw [z,B] at eu;cases eu)];exact h.keep u o' nu eu⟩
theorem Bx.none {b q:Addr} {M M':Mem} (h:Bx b M M') (z:M' q=none) (j:q≠b):M q=none:=by
 cases e:M q with
 | none=>rfl
 | some o=>rw [h.keep q o j e] at z;cases z
theorem EF {k:Nat}:(Hm k [D.int 0]).flatten=(Hm k (0:Int)).map D.int:=by
 induction k with
 | zero=>rfl
 | succ k ih=>rw [IC,Io,ih];rfl
end
section
theorem ay {α:Type} {f : α -> D} {b:BT} {tb:TCd} {chk:Mem->Prop} {N:NC} (I:List α -> av->Mem->List D->Prop) {ys:List α} {xs:List D} (hx:xs=ys.map f) {ρ:av} {M:Mem} {acc:List D}
 (h0:I [] ρ M acc)
 (q:∀ l ρ M acc,I l ρ M acc->chk M)
 (hs:∀ l x r ρ M acc,ys=l++x::r->I l ρ M acc -> ∃ ρ',b (f x) ρ = some ρ' /\ ∀ N':NC,(∀ ρ2 M2 j,I (l++[x]) ρ2 M2 j->N' ρ2 M2 j)->tb ρ' M acc N')
 (z:∀ ρ M acc,I ys ρ M acc->N ρ M acc):bY b tb chk N xs ρ M acc:=by
 subst hx;have g:∀ (r l:List α) (ρ:av) (M:Mem) (acc:List D),ys=l++r->I l ρ M acc->bY b tb chk N (r.map f) ρ M acc:=by
  intro r
  induction r with
  | nil=>intro l ρ M acc e i;rw [Ja] at e;subst e;exact ⟨q _ _ _ _ i,z _ _ _ i⟩
  | cons x r ih =>
    intro l ρ M acc e i;obtain ⟨ρ',e1,h⟩:=hs l x r ρ M acc e i;exact ⟨q _ _ _ _ i, ρ',e1,h _ fun ρ2 M2 j B=>ih (l++[x]) ρ2 M2 j (by rw [e];simp) B⟩
 exact g ys [] ρ M acc rfl h0
theorem aP {α:Type} {f : α -> D} {b:BT} {tb:TSd} {chk:Mem->Prop} {E:bv} (I:List α -> av->Mem->Prop) {ys:List α} {xs:List D} (hx:xs=ys.map f) {ρ:av} {M:Mem}
 (h0:I [] ρ M)
 (j:∀ l ρ M,I l ρ M->chk M)
 (hs:∀ l x r ρ M,ys=l++x::r->I l ρ M -> ∃ ρ',b (f x) ρ = some ρ' /\ ∀ F:av->Mem->Prop,(∀ ρ2 M2,I (l++[x]) ρ2 M2->F ρ2 M2)->tb { E with nx:=F,ct:=F,bk:=E.nx } ρ' M)
 (q:∀ ρ M,I ys ρ M->E.nx ρ M):bM b tb chk E xs ρ M:=by
 subst hx;have g:∀ (r l:List α) (ρ:av) (M:Mem),ys=l++r->I l ρ M->bM b tb chk E (r.map f) ρ M:=by
  intro r
  induction r with
  | nil=>intro l ρ M e i;rw [Ja] at e;subst e;exact ⟨j _ _ _ i,q _ _ i⟩
  | cons x r ih =>
    intro l ρ M e i;obtain ⟨ρ',e1,h⟩:=hs l x r ρ M e i;exact ⟨j _ _ _ i, ρ',e1,h _ fun ρ2 M2 z=>ih (l++[x]) ρ2 M2 (by rw [e];simp) z⟩
 exact g ys [] ρ M rfl h0
theorem cN {M M':Mem} {x:D} {ds:List D} (h:aq M x=some ds) (g:Ge M M'):aq M' x=some ds:=by
 cases x with
 | ref a =>
   simp only [aq] at h ⊢
   split at h
   ·next e=>rw [g _ _ e];exact h
   ·cases h
 | _=>exact h
theorem yu {M:Mem} {x:D} {ds:List D} (h:aq M x=some ds):iC M x=some ds.length:=by
 cases x with
 | ref a =>
   simp only [aq] at h
   split at h
   ·next e=>cases h;simp only [iC,e]
   ·cases h
 | tup es=>cases h;rfl
 | con es=>cases h;rfl
 | _=>cases h
theorem kH {M:Mem} {x:D} {ds:List D} {Q:QD} (h:aq M x=some ds) (q:Q (.int ds.length) M):fB [x] M Q:=⟨_,_,rfl,yu h,q⟩
theorem eY {α:Type} {xs:List α} {k:Nat} {x : α} (h:xs[k]? = some x):atI xs (k:Int)=some x:=by
 have j:k < xs.length:=(Ho.mp h).1;unfold atI ixN;rw [if_pos (by lia),if_pos (by lia)]
 exact h
theorem aE {n:Nat}:cS 0 n=(Hi n).map fun i=>D.int (i:Nat):=by simp [cS]
end
section
variable {T:List FD}
def Big (ns:List Int):Prop := ∀ x∈ns, -1000000000000<=x/\x<=1000000000000
end
section
variable {T:List FD}
noncomputable def pB (x:Str) (s:Stmt):FD:=⟨"_law_mixed",s,[x, "_law_k", "_law_once", "_law_twice"],2,(qZ s).body⟩
theorem w8 {f:Nat} {x:Str} {s:Stmt} (hf:T[f]? = some (pB x s)) {n:Nat} (j : 1<=n):tG T n f:=by
 intro x k M Q q;refine au j hf rfl (ρ := [some _,some _,none,none]) rfl ?_;unfold pB qZ;walk_at "st";refine ⟨by decide,cm (by decide),kG (by decide),by decide, ?_⟩
 walk_at "st";refine ⟨by decide,cm ?_,by decide, ?_⟩
 ·have h1:=Mw ((x % 1000000007+7*k+1)*48271) (b := 2147483647) (by decide)
  have h2:=Lm ((x % 1000000007+7*k+1)*48271) (b := 2147483647) (by decide)
  lia
 walk_at "st";refine ⟨kG (by decide),by decide,by decide,by decide, ?_⟩
 exact q _
end
section
open PySem PySem.Spec PyProof.Rows L2.Srt
variable {T:List FD}
noncomputable abbrev K3:=Int×Int×Int
noncomputable abbrev Tm:=K3×Int
noncomputable def k3D (k:K3):D := .tup [.int k.1, .int k.2.1, .int k.2.2]
noncomputable def kcD (t:Tm):D×D:=(k3D t.1, .int t.2)
noncomputable def k3K (k:K3):Ky := .tup [.int k.1, .int k.2.1, .int k.2.2]
def klt (a b:K3):Prop:=ltK (k3K a) (k3K b)=true
theorem hZ {a b:K3} (h:k3D a=k3D b):a=b:=by
 obtain ⟨a1,a2,j⟩:=a;obtain ⟨b1,b2,b3⟩:=b;simp [k3D] at h;simp [h]
theorem B2 {a b:K3} (h:k3K a=k3K b):a=b:=by
 obtain ⟨a1,a2,j⟩:=a;obtain ⟨b1,b2,b3⟩:=b;simp [k3K] at h;simp [h]
noncomputable def cf (ts:List Tm) (k:K3):Int:=((ts.filter fun t=>decide (t.1=k)).map (·.2)).sum
theorem eZ {k:K3}:cf [] k=0:=rfl
theorem aU {t:Tm} {ts:List Tm} {k:K3}:cf (t::ts) k=(if t.1=k then t.2 else 0)+cf ts k:=by
 unfold cf
 by_cases h:t.1=k
 ·rw [Ju (by simpa using h),if_pos h];simp
 ·rw [Jv (by simpa using h),if_neg h];simp
theorem de {a b:List Tm} {k:K3}:cf (a++b) k=cf a k+cf b k:=by
 induction a with
 | nil=>simp [eZ]
 | cons t a ih=>rw [Me,aU,aU,ih];lia
theorem r6 {a b:List Tm} (h:a.Perm b) {k:K3}:cf a k=cf b k:=by
 induction h with
 | nil=>rfl
 | cons x h ih=>rw [aU,aU,ih]
 | swap x y l=>simp only [aU];lia
 | trans _ _ j q=>rw [j,q]
theorem fb {ts:List Tm} {k:K3} (h:∀ t∈ts,t.1≠k):cf ts k=0:=by
 induction ts with
 | nil=>rfl
 | cons t ts ih=>rw [aU,if_neg (h t (by simp)),ih fun u j=>h u (by simp [j])];rfl
theorem fe {ts:List Tm} (j:(ts.map (·.1)).Nodup) {t:Tm} (q:t∈ts):cf ts t.1=t.2:=by
 induction ts with
 | nil=>simp at q
 | cons u ts ih =>
   simp only [Hs,Jb] at j;rw [aU]
   rcases Ha.mp q with z | z
   ·subst z;rw [if_pos rfl,fb fun v B e=>j.1 (by rw [<- e];exact HK B)]
    lia
   ·rw [if_neg fun e=>j.1 (by rw [e];exact HK z),ih j.2 z];lia
noncomputable def dZ (L:List Tm) (k:K3) (c:Int):List Tm:=if (L.any fun p=>decide (p.1=k))=true then L.map fun p=>if p.1=k then (p.1,p.2+c) else p else L++[(k,c)]
theorem r8 {L:List Tm} {k:K3}:dget (L.map kcD) (k3D k)=(L.find? fun p=>decide (p.1=k)).map fun p => .int p.2:=by
 unfold dget
 induction L with
 | nil=>rfl
 | cons t L ih =>
   by_cases h:t.1=k
   ·rw [Hs,LM (by simp [kcD,h]),LM (by simpa using h)];rfl
   ·rw [Hs,Kl (by simp only [decide_eq_true_eq];exact fun e=>h (hZ e)),Kl (by simpa using h),ih]
theorem w9 {L:List Tm} {k:K3}:((L.map kcD).any fun p=>decide (p.1=k3D k))=L.any fun p=>decide (p.1=k):=by
 induction L with
 | nil=>rfl
 | cons t L ih =>
   rw [Hs,Ks,Ks,ih];congr 1
   by_cases h:t.1=k
   ·simp [kcD,h]
   ·rw [decide_eq_false h];exact decide_eq_false (fun e=>h (hZ e))
theorem B3 {L:List Tm} (j:(L.map (·.1)).Nodup) {k:K3} {c:Int}:cj (L.map kcD) (k3D k) (.int ((((L.find? fun p=>decide (p.1=k)).map (·.2)).getD 0)+c))=(dZ L k c).map kcD:=by
 unfold cj dZ;rw [w9]
 split
 ·next h =>
  rw [IF,IF];apply HY;intro t q;simp only [K7]
  by_cases e:t.1=k
  ·rw [if_pos (by rw [<- e];rfl),if_pos e]
   have:L.find? (fun p=>decide (p.1=k))=some t:=by
    clear h
    induction L with
    | nil=>simp at q
    | cons u L ih =>
      simp only [Hs,Jb] at j
      rcases Ha.mp q with z | z
      ·subst z;rw [LM (by simpa using e)]
      ·rw [Kl (by simp;intro e2;exact j.1 (by rw [e2, <- e];exact HK z))]
       exact ih j.2 z
   rw [this];rfl
  ·rw [if_neg (c:=(kcD t).1=k3D k) (fun z=>e (hZ z)),if_neg e]
 ·next h =>
  have:L.find? (fun p=>decide (p.1=k))=none:=by
   rw [List.find?_eq_none];intro x hx;simp only [decide_eq_true_eq];intro e;exact h (JO.mpr ⟨x,hx,by simpa using e⟩)
  rw [this];simp [kcD]
theorem wa {L:List Tm} {k:K3} {c:Int}:(dZ L k c).map (·.1)=if (L.any fun p=>decide (p.1=k))=true then L.map (·.1) else L.map (·.1)++[k]:=by
 unfold dZ
 split
 ·rw [IF];apply HY;intro t _;simp only [K7]
  split <;> rfl
 ·simp
theorem tH {L:List Tm} (j:(L.map (·.1)).Nodup) {k:K3} {c:Int}:((dZ L k c).map (·.1)).Nodup:=by
 rw [wa]
 split
 ·exact j
 ·next h =>
  refine Nt.mpr ⟨j,by simp,fun a z b q e => ?_⟩
  simp at q;subst q;subst e;obtain ⟨t,B,e⟩:=Hr.mp z;exact h (JO.mpr ⟨t,B,by simpa using e⟩)
theorem yv {L:List Tm} {k:K3} {c:Int}:(dZ L k c).length<=L.length+1:=by
 unfold dZ;split <;> simp
theorem B4 {L:List Tm} (j:(L.map (·.1)).Nodup) {k a:K3} {c:Int}:cf (dZ L k c) a=cf L a+if k=a then c else 0:=by
 unfold dZ
 split
 ·next h =>
  obtain ⟨t,q,e⟩:=JO.mp h;have e:t.1=k:=by simpa using e
  clear h
  induction L with
  | nil=>simp at q
  | cons u L ih =>
    simp only [Hs,Jb] at j;rw [Hs,aU,aU]
    by_cases eu:u.1=k
    ·have rest:(L.map fun p=>if p.1=k then (p.1,p.2+c) else p)=L:=by
      conv=>rhs;rw [<- List.map_id L]
      apply HY;intro p B;rw [if_neg fun z=>j.1 (by rw [eu, <- z];exact HK B)];rfl
     rw [rest,if_pos eu];dsimp only
     by_cases ea:u.1=a
     ·rw [if_pos ea,if_pos ea,if_pos (by rw [<- eu];exact ea)];lia
     ·rw [if_neg ea,if_neg ea,if_neg (by rw [<- eu];exact ea)];lia
    ·rcases Ha.mp q with z | z
     ·exact absurd (by rw [<- z];exact e) eu
     ·rw [ih j.2 z,if_neg eu];lia
 ·rw [de,aU,eZ];simp
noncomputable def tset (ts:List Tm):List Tm:=ts.foldl (fun L t=>dZ L t.1 t.2) []
theorem eI {ts:List Tm} {t:Tm}:tset (ts++[t])=dZ (tset ts) t.1 t.2:=by simp [tset]
theorem fP {α:Type} {P:List α -> Prop} (h0:P []) (h1:∀ l x,P l->P (l++[x])) (l:List α):P l:=by
 have:∀ r:List α,P r.reverse:=by
  intro r
  induction r with
  | nil=>exact h0
  | cons x r ih=>rw [Kz];exact h1 _ _ ih
 have:=this l.reverse;rw [OG] at this;exact this
theorem fQ (ts:List Tm):((tset ts).map (·.1)).Nodup:=fP (P:=fun ts=>((tset ts).map (·.1)).Nodup) (by simp [tset]) (fun l x ih=>by rw [eI];exact tH ih) ts
theorem B5 (ts:List Tm) (k:K3):cf (tset ts) k=cf ts k:=fP (P:=fun ts=>cf (tset ts) k=cf ts k) rfl (fun l x ih=>by
 rw [eI,B4 (fQ l),ih,de,aU,eZ];lia) ts
theorem pC (ts:List Tm):(tset ts).length<=ts.length:=fP (P:=fun ts=>(tset ts).length<=ts.length) (by simp [tset]) (fun l x ih=>by
 rw [eI];have:=yv (L:=tset l) (k:=x.1) (c:=x.2);simp;lia) ts
theorem E4 {ts:List Tm} {k:K3}:Mi.cf (ts.filter fun t => !(t.2==0)) k=Mi.cf ts k:=by
 induction ts with
 | nil=>rfl
 | cons t ts ih =>
   rw [aU]
   by_cases h:t.2=0
   ·rw [Jv (by simp [h]),ih,h];split <;> lia
   ·rw [Ju (by simp [h]),aU,ih]
theorem Ge.upd {M j:Mem} {d:Addr} {o:O} (g:Ge M j) (hd:M d=none):Ge M (ag j d o):=fun a o' e=>by
 rw [aK (fun z=>by rw [z,hd] at e;cases e)];exact g _ _ e
end
section
open PySem PySem.Spec PyProof.Rows L2.Srt
variable {T:List FD}
theorem gy {M:Mem} {x d:D} {ds:List D} {i:Int} {Q:QD} (h:aq M x=some ds) (e:atI ds i=some d) (q:Q d M):wIx x (.int i) M Q:=by
 cases x with
 | ref a =>
   simp only [aq] at h
   split at h
   ·next e0=>cases h;exact aT e0 e q
   ·cases h
 | tup es=>cases h;exact ⟨i,d,rfl,e,q⟩
 | con es=>cases h;exact ⟨i,d,rfl,e,q⟩
 | _=>cases h
end
section
open PySem PySem.Spec PyProof.Rows L2.Srt
variable {T:List FD}
theorem yw {l:List Nat} {m:Nat} {g:Nat->Nat->Tm}:(l.flatMap fun i=>(Hi m).map (g i)).length=l.length*m:=by
 induction l with
 | nil=>simp
 | cons i l ih=>rw [Jw,GR,ih,HR,J3];simp;lia
end
section
open PySem PySem.Spec PyProof.Rows L2.Srt
variable {T:List FD}
noncomputable def bN (m p a b c:Nat):Tm:=(((a*p+c:Nat),((a*m+b:Nat):Int),((b*p+c:Nat):Int)),1)
noncomputable def eO (m p a:Nat):List Tm:=(Hi m).flatMap fun b=>(Hi p).map (bN m p a b)
noncomputable def be (n m p:Nat):List Tm:=(Hi n).flatMap (eO m p)
theorem yz {m p a:Nat}:(eO m p a).length=m*p:=by unfold eO;rw [yw,HC]
theorem B6 {m p:Nat} {l:List Nat}:(l.flatMap (eO m p)).length=l.length*(m*p):=by
 induction l with
 | nil=>simp
 | cons i l ih=>rw [Jw,GR,ih,HR,yz,J3];lia
theorem ff {n m p:Nat} {t:Tm} (h:t∈be n m p):∃ a b c,a < n/\b < m/\c < p/\t=bN m p a b c:=by
 obtain ⟨a,j,h⟩:=Jj.mp h;obtain ⟨b,q,h⟩:=Jj.mp h;obtain ⟨c,z,rfl⟩:=Hr.mp h;exact ⟨a,b,c,HG.mp j,HG.mp q,HG.mp z,rfl⟩
theorem et {a b n m:Nat} (j:a < n) (q:b < m):a*m+b < n*m:=by
 have:(a+1)*m<=n*m:=Mo m j;rw [J3] at this;lia
end
section
open PySem PySem.Spec PyProof.Rows L2.Srt
variable {T:List FD}
noncomputable def di (L:List Tm) (k:K3) (c:Int):List Tm:=if (L.any fun p=>decide (p.1=k))=true then L.map (fun p=>if p.1=k then (p.1,c) else p) else L++[(k,c)]
theorem pE {L:List Tm} {k:K3} {c:Int}:cj (L.map kcD) (k3D k) (.int c)=(di L k c).map kcD:=by
 unfold cj di;rw [w9]
 split
 ·rw [IF,IF];refine HY fun p _ => ?_;simp only [K7]
  by_cases h:p.1=k
  ·rw [if_pos h,if_pos (show (kcD p).1=k3D k by show k3D p.1=k3D k;rw [h])];rfl
  ·rw [if_neg h,if_neg (show ¬ (kcD p).1=k3D k from fun z=>h (hZ z))]
 ·rw [IB];rfl
theorem tI {L:List Tm} (j:(L.map (·.1)).Nodup) {k:K3} {c:Int}:((di L k c).map (·.1)).Nodup:=by
 unfold di
 split
 ·rw [IF];have e:L.map ((fun x:Tm=>x.1) ∘ fun p=>if p.1=k then (p.1,c) else p)=L.map (·.1):=HY fun p _=>by
   simp only [K7];split <;> rfl
  rw [e];exact j
 ·next h =>
  rw [IB,Nt];refine ⟨j,by simp,fun a z b q e => ?_⟩
  simp at q;subst e q;obtain ⟨p,B,rfl⟩:=Hr.mp z;exact h (JO.mpr ⟨p,B,by simp⟩)
theorem yA {L:List Tm} {k:K3} {c:Int} {t:Tm} (h:t∈di L k c):t∈L∨t=(k,c):=by
 unfold di at h
 split at h
 ·obtain ⟨p,j,rfl⟩:=Hr.mp h
  by_cases e:p.1=k
  ·rw [if_pos e];exact .inr (by rw [e])
  ·rw [if_neg e];exact .inl j
 ·rcases Hj.mp h with h | h
  ·exact .inl h
  ·exact .inr (by simpa using h)
theorem yB {L:List Tm} {k:K3} {c:Int}:(di L k c).length<=L.length+1:=by
 unfold di;split <;> simp
theorem qo {L:List Tm} (z:(L.map (·.1)).Nodup) {ys:List D} (q:ys.Perm ((L.map kcD).map (·.1))) (hs:kB ys):∃ rs:List Tm,rs.Perm L/\ys=rs.map (fun t=>k3D t.1)/\rs.Pairwise fun a b=>klt a.1 b.1:=by
 have e0:(L.map kcD).map (·.1)=L.map fun t=>k3D t.1:=by rw [IF];rfl
 rw [e0] at q;obtain ⟨rs,p1,p2⟩:=lP (fun t:Tm=>k3D t.1) q rfl;refine ⟨rs,p1,p2.symm, ?_⟩;have j:(rs.map (·.1)).Nodup:=(p1.map (·.1)).nodup_iff.mpr z;unfold kB at hs;rw [<- p2,J8] at hs;rw [IH,J8] at j;refine (hs.and j).imp ?_;rintro a b ⟨h1,h2⟩;unfold klt
 cases e1:ltK (k3K a.1) (k3K b.1) with
 | true=>rfl
 | false=>exact absurd (B2 (lK _ _ e1 h1)) h2
theorem fR {L:List Tm} (j:(L.map (·.1)).Nodup) {t:Tm} (q:t∈L):dget (L.map kcD) (k3D t.1)=some (.int t.2):=by
 rw [r8];have:L.find? (fun p=>decide (p.1=t.1))=some t:=by
  induction L with
  | nil=>simp at q
  | cons x L ih =>
    simp only [Hs,Jb] at j
    rcases Ha.mp q with z | z
    ·subst z;simp
    ·have:x.1≠t.1:=fun e=>j.1 (by rw [e];exact HK z)
     rw [Kl (by simpa using this)]
     exact ih j.2 z
 rw [this];rfl
theorem yC {L:List Tm} (j:(L.map (·.1)).Nodup):sQ (L.map kcD)=L.map kcD:=by
 have g:∀ (r l:List Tm),(((l++r).map (·.1)).Nodup)->(r.map kcD).foldl (fun a kv=>cj a kv.1 kv.2) (l.map kcD)=(l++r).map kcD:=by
  intro r
  induction r with
  | nil=>intro l _;simp
  | cons t r ih =>
    intro l h;rw [Hs,Ld];have e:cj (l.map kcD) (kcD t).1 (kcD t).2=(l++[t]).map kcD:=by
     show cj (l.map kcD) (k3D t.1) (.int t.2)=_;rw [pE];unfold di;rw [if_neg];intro z;obtain ⟨p,q,e⟩:=JO.mp z;rw [IB,Nt] at h;exact h.2.2 _ (HK q) _ (HK (Ir ..)) (of_decide_eq_true e)
    rw [e,ih (l++[t]) (by rw [He];exact h)]
    rw [He];rfl
 have:=g L [] (by simpa using j)
 simpa [sQ] using this
theorem jS (k:K3):bQ (k3D k)=true:=rfl
end
section
open PySem PySem.Spec PyProof.Rows L2.Srt
variable {T:List FD}
noncomputable def idx (l:List Int):List (Int×Int):=l.mapIdx fun i x=>((i:Nat),x)
noncomputable def nz (l:List Int):List (Int×Int):=(idx l).filter fun q => !(q.2==0)
noncomputable def pD (q:Int×Int):D := .tup [.int q.1, .int q.2]
theorem r9 {l:List Int}:(idx l).length=l.length:=by simp [idx]
theorem pF {l:List Int}:(nz l).length<=l.length:=by
 unfold nz;exact IV (Kw _ _) (by rw [r9];exact Hc _)
theorem yD {l:List Int}:fG (l.map .int)=(idx l).map pD:=by
 unfold fG idx;apply KD;intro j;simp only [OF,HB]
 cases l[j]? <;> rfl
noncomputable def gA (xp xn:Str) (s:Stmt):FD:=⟨"_law_nonzero",s,[xp],1,
 (.cons (.ret (.comp [none,none] ["_law_place",xn] (.last (.enum (.var 0)) (.tup (.cons (.name 0) (.cons (.name 1) .nil))) (.cons (.cmp .ne (.var 1) (.int 0)) .nil) (.tup (.cons (.var 0) (.cons (.var 1) .nil))))))
 .nil)⟩
theorem tJ {f:Nat} {xp xn:Str} {s:Stmt} (hf:T[f]? = some (gA xp xn s)) {n:Nat} (G : 1<=n) {l:List Int} (J:l.length<=10000000) {M:Mem} {Q:QD} (q:∀ p,M p=none->Q (.ref p) (ag M p (.lst ((nz l).map pD)))):phi T n f [.tup (l.map .int)] M Q:=by
 refine au (by lia) hf rfl (ρ := [some _]) rfl ?_
 unfold gA;walk_at "st";rw [yD];refine ay (f:=pD) (ys:=idx l) (I:=fun r ρ M' acc=>(∃ o0 z, ρ = [o0,z])/\M'=M/\acc=(r.filter fun q => !(q.2==0)).map pD) rfl ⟨⟨_,_,rfl⟩,rfl,rfl⟩ (fun _ _ _ _ _=>by first | rfl | trivial) ?_ ?_
 ·rintro l' x r ρ M1 acc e ⟨⟨o0,z,rfl⟩,rfl,rfl⟩;refine ⟨_,rfl,fun N' j => ?_⟩;have B:=am e;rw [r9] at B;have F:(l'.filter fun q => !(q.2==0)).length<=l'.length:=Kw _ _;walk_at "wp"
  by_cases hz:x.2=0
  ·rw [if_neg (by simp [hz])]
   refine j _ _ _ ⟨⟨_,_,rfl⟩,rfl, ?_⟩;rw [Lo,Jv (by simp [hz])];simp
  ·rw [if_pos (by simp [hz])]
   refine ⟨by rw [GU];lia,by rw [D2,GU];lia,j _ _ _ ⟨⟨_,_,rfl⟩,rfl, ?_⟩⟩
   rw [Lo,Ju (by simp [hz])];simp [pD]
 ·rintro ρ M1 acc ⟨⟨o0,z,rfl⟩,rfl,rfl⟩ p hp;exact q p hp
noncomputable def bH (i a j b:Int) (zs:List (Int×Int)):List Tm:=zs.map fun z=>((z.1,i,j),a*b*z.2)
noncomputable def cb (i a:Int) (ys zs:List (Int×Int)):List Tm:=ys.flatMap fun y=>bH i a y.1 y.2 zs
noncomputable def cG (xs ys zs:List (Int×Int)):List Tm:=xs.flatMap fun x=>cb x.1 x.2 ys zs
noncomputable def eP (p:Pr):List Tm:=cG (nz p.1) (nz p.2.1) (nz p.2.2)
noncomputable def aY (ps:List Pr):List Tm:=ps.flatMap eP
theorem pG {i a j b:Int} {zs:List (Int×Int)}:(bH i a j b zs).length=zs.length:=by simp [bH]
theorem pH {i a:Int} {ys zs:List (Int×Int)}:(cb i a ys zs).length=ys.length*zs.length:=by
 unfold cb
 induction ys with
 | nil=>simp
 | cons y ys ih=>rw [Jw,GR,ih,pG,HR,J3];lia
theorem iS {xs ys zs:List (Int×Int)}:(cG xs ys zs).length=xs.length*(ys.length*zs.length):=by
 unfold cG
 induction xs with
 | nil=>simp
 | cons y ys ih=>rw [Jw,GR,ih,pH,HR,J3];lia
noncomputable def pI (xs:Str) (s:Stmt) (fz:Nat):FD:=⟨"_law_sums",s,[xs, "_law_found", "_law_l", "_law_r", "_law_o", "_law_rights", "_law_outs", "_law_i", "_law_a", "_law_j", "_law_b", "_law_k", "_law_c"],1,
 (.cons (.asg (.name 1) (.dnew true))
 (.cons (.for (.tup (.cons (.name 2) (.cons (.name 3) (.cons (.name 4) .nil)))) (.seq (.ix (.var 0) (.int 3))) (.cons (.asg (.name 5) (.call fz (.cons (.var 3) .nil)))
 (.cons (.asg (.name 6) (.call fz (.cons (.var 4) .nil)))
 (.cons (.for (.tup (.cons (.name 7) (.cons (.name 8) .nil))) (.seq (.call fz (.cons (.var 2) .nil))) (.cons (.for (.tup (.cons (.name 9) (.cons (.name 10) .nil))) (.seq (.var 5)) (.cons (.for (.tup (.cons (.name 11) (.cons (.name 12) .nil))) (.seq (.var 6)) (.cons (.put (.var 1) (.tup (.cons (.var 11) (.cons (.var 7) (.cons (.var 9) .nil)))) (.bin .add (.dget (.var 1) (.tup (.cons (.var 11) (.cons (.var 7) (.cons (.var 9) .nil)))) (.int 0)) (.bin .mul (.bin .mul (.var 8) (.var 10)) (.var 12))))
 .nil))
 .nil))
 .nil))
 .nil))))
 (.cons (.frz 1 (.ret (.blt .dict (.cons (.comp [none,(some 1)] ["_law_place", "_law_found"] (.last (.keys (.var 1)) (.name 0) (.cons (.cmp .ne (.ix (.var 1) (.var 0)) (.int 0)) .nil) (.tup (.cons (.var 0) (.cons (.ix (.var 1) (.var 0)) .nil))))) .nil))))
 .nil)))⟩
def D6 (T:List FD) (n f:Nat):Prop := ∀ {l:List Int} {M:Mem} {Q:QD},l.length<=10000000->(∀ p,M p=none->Q (.ref p) (ag M p (.lst ((nz l).map pD))))->phi T n f [.tup (l.map .int)] M Q
structure D7 (p:Pr):Prop where
 b1:Big p.1
 b2:Big p.2.1
 b3:Big p.2.2
 l1:p.1.length<=100
 l2:p.2.1.length<=100
 l3:p.2.2.length<=100
structure zA (ps:List Pr) (L:List Tm):Prop where
 nd:(L.map (·.1)).Nodup
 nz:∀ t∈L,t.2≠0
 cf:∀ k,cf L k=cf (aY ps) k
def Od (d:Addr) (M M':Mem):Prop := ∀ a,a≠d->M' a=M a
theorem Od.refl {d:Addr} {M:Mem}:Od d M M:=fun _ _=>rfl
theorem Od.trans {d:Addr} {M M' M'':Mem} (h:Od d M M') (g:Od d M' M''):Od d M M'':=fun a n=>(g a n).trans (h a n)
theorem Od.upd {d:Addr} {M M':Mem} {o:O} (h:Od d M M'):Od d M (ag M' d o):=fun a n=>(aK n).trans (h a n)
noncomputable def zB:MSs := .cons (.put (.var 1) (.tup (.cons (.var 11) (.cons (.var 7) (.cons (.var 9) .nil)))) (.bin .add (.dget (.var 1) (.tup (.cons (.var 11) (.cons (.var 7) (.cons (.var 9) .nil)))) (.int 0)) (.bin .mul (.bin .mul (.var 8) (.var 10)) (.var 12)))) .nil
noncomputable def tK:MSs := .cons (.for (.tup (.cons (.name 11) (.cons (.name 12) .nil))) (.seq (.var 6)) zB) .nil
noncomputable def tL:MSs := .cons (.for (.tup (.cons (.name 9) (.cons (.name 10) .nil))) (.seq (.var 5)) tK) .nil
noncomputable abbrev bd (x:Int):Prop := -1000000000000<=x/\x<=1000000000000
theorem E5 {Φ:Phi} {v0 v2 O v4 U B G:Option D} {d po:Addr} {i a j b:Int} {zs:List (Int×Int)} {pre:List Tm} {M:Mem} {E:bv} (J:M po=some (.lst (zs.map pD))) (Y:po≠d) (hd:M d=some (.dct true ((tset pre).map kcD))) (hl:pre.length+zs.length<=10000000) (ha:bd a) (hb:bd b)  (hc:∀ z∈zs,bd z.2)
 (q:∀ M' B G,Od d M M'->M' d=some (.dct true ((tset (pre++bH i a j b zs)).map kcD))->E.nx [v0,some (.ref d),v2,O,v4,U,some (.ref po),some (.int i),some (.int a),some (.int j),some (.int b),B,G] M') :
 wSs Φ tK E [v0,some (.ref d),v2,O,v4,U,some (.ref po),some (.int i),some (.int a),some (.int j),some (.int b),B,G] M:=by
 unfold tK;walk_at "st";refine ⟨_,af J, ?_⟩;refine aP (f:=pD) (ys:=zs) (I:=fun l ρ M' => ∃ B G, ρ = [v0,some (.ref d),v2,O,v4,U,some (.ref po),some (.int i),some (.int a),some (.int j),some (.int b),B,G]/\Od d M M'/\M' d=some (.dct true ((tset (pre++bH i a j b l)).map kcD))) rfl ⟨_,_,rfl,Od.refl,by simpa [bH] using hd⟩ (fun l ρ M' ⟨_,_,_,g,_⟩=>af ((g po Y).trans J)) ?_ ?_
 ·rintro l z r ρ M1 e ⟨B,G,rfl,g1,L⟩;refine ⟨_,rfl,fun F hF => ?_⟩;have EJ:=am e;have hz:=hc z (by rw [e];simp)
  have Z:=pC (pre++bH i a j b l);rw [GR,pG] at Z;unfold zB;rw [bT];walk_at "wp";refine ⟨⟨_,_,L⟩,by rw [GU];lia,_,_,L,rfl,cm (by lia),kG (by lia), ?_⟩
  have ek:D.tup [D.int z.1,D.int i,D.int j]=k3D (z.1,i,j):=rfl;rw [ek,r8];have eg:((Option.map (fun p:Tm=>D.int p.2) ((tset (pre++bH i a j b l)).find? fun p=>decide (p.1=(z.1,i,j)))).getD (.int 0)) = .int (((((tset (pre++bH i a j b l)).find? fun p=>decide (p.1=(z.1,i,j))).map (·.2)).getD 0)):=by
   cases (tset (pre++bH i a j b l)).find? fun p=>decide (p.1=(z.1,i,j)) <;> rfl
  rw [eg];walk_at "wp";refine ⟨by rw [GU];lia,ph L rfl (by rw [D2,GU];lia) ?_⟩
  rw [B3 (fQ _)];refine hF _ _ ⟨_,_,rfl,g1.upd, ?_⟩;rw [ad,show bH i a j b (l++[z])=bH i a j b l++[((z.1,i,j),a*b*z.2)] by simp [bH], <- He,eI]
 ·rintro ρ M1 ⟨B,G,rfl,g1,L⟩;dsimp only;walk_at "wp";exact q _ _ _ g1 L
theorem E6 {Φ:Phi} {v0 v2 U v4 J G j B:Option D} {d pr po:Addr} {i a:Int} {ys zs:List (Int×Int)} {pre:List Tm} {M:Mem} {E:bv} (L:M pr=some (.lst (ys.map pD))) (Y:pr≠d) (Z:M po=some (.lst (zs.map pD))) (O:po≠d) (hd:M d=some (.dct true ((tset pre).map kcD))) (hl:pre.length+ys.length*zs.length<=10000000) (ha:bd a) (hb:∀ z∈ys,bd z.2) (hc:∀ z∈zs,bd z.2)
 (q:∀ M' J G j B,Od d M M'->M' d=some (.dct true ((tset (pre++cb i a ys zs)).map kcD))->E.nx [v0,some (.ref d),v2,U,v4,some (.ref pr),some (.ref po),some (.int i),some (.int a),J,G,j,B] M') :
 wSs Φ tL E [v0,some (.ref d),v2,U,v4,some (.ref pr),some (.ref po),some (.int i),some (.int a),J,G,j,B] M:=by
 unfold tL;walk_at "st";refine ⟨_,af L, ?_⟩;refine aP (f:=pD) (ys:=ys) (I:=fun l ρ M' => ∃ J G j B, ρ = [v0,some (.ref d),v2,U,v4,some (.ref pr),some (.ref po),some (.int i),some (.int a),J,G,j,B]/\Od d M M'/\M' d=some (.dct true ((tset (pre++cb i a l zs)).map kcD))) rfl ⟨_,_,_,_,rfl,Od.refl,by simpa [cb] using hd⟩ (fun l ρ M' ⟨_,_,_,_,_,g,_⟩=>af ((g pr Y).trans L)) ?_ ?_
 ·rintro l y r ρ M1 e ⟨J,G,j,B,rfl,g1,hM⟩;refine ⟨_,rfl,fun F hF => ?_⟩;have EJ:=am e;have hy:=hb y (by rw [e];simp)
  have hm:(l.length+1)*zs.length<=ys.length*zs.length:=Mo _ EJ;rw [J3] at hm;refine E5 ((g1 po O).trans Z) O hM (by rw [GR,pH];lia) ha hy hc fun M2 j B g2 h2=>hF _ _ ⟨_,_,_,_,rfl,g1.trans g2, ?_⟩
  rw [h2,show cb i a (l++[y]) zs=cb i a l zs++bH i a y.1 y.2 zs by simp [cb],He]
 ·rintro ρ M1 ⟨J,G,j,B,rfl,g1,hM⟩;dsimp only;walk_at "wp";exact q _ _ _ _ _ g1 hM
theorem E7 {Φ:Phi} {v0 v2 Z v4:Option D} {d pr po pl:Addr} {xs ys zs:List (Int×Int)} {pre:List Tm} {M:Mem} {E:bv} {L O J j B G:Option D} (EJ:M pl=some (.lst (xs.map pD))) (EK:pl≠d) (EL:M pr=some (.lst (ys.map pD))) (U:pr≠d) (EM:M po=some (.lst (zs.map pD))) (Y:po≠d) (hd:M d=some (.dct true ((tset pre).map kcD))) (hl:pre.length+xs.length*(ys.length*zs.length)<=10000000) (ha:∀ z∈xs,bd z.2) (hb:∀ z∈ys,bd z.2) (hc:∀ z∈zs,bd z.2)
 (q:∀ M' L O J j B G,Od d M M'->M' d=some (.dct true ((tset (pre++cG xs ys zs)).map kcD))->E.nx [v0,some (.ref d),v2,Z,v4,some (.ref pr),some (.ref po),L,O,J,j,B,G] M') :
 bM (ky (bE (bw 7) (bE (bw 8) fD))) (wSs Φ tL) (fun M=>aq M (.ref pl)=some (xs.map pD)) E (xs.map pD) [v0,some (.ref d),v2,Z,v4,some (.ref pr),some (.ref po),L,O,J,j,B,G] M:=by
 refine aP (f:=pD) (ys:=xs) (I:=fun l ρ M' => ∃ L O J j B G, ρ = [v0,some (.ref d),v2,Z,v4,some (.ref pr),some (.ref po),L,O,J,j,B,G]/\Od d M M'/\M' d=some (.dct true ((tset (pre++cG l ys zs)).map kcD))) rfl ⟨_,_,_,_,_,_,rfl,Od.refl,by simpa [cG] using hd⟩ (fun l ρ M' ⟨_,_,_,_,_,_,_,g,_⟩=>af ((g pl EK).trans EJ)) ?_ ?_
 ·rintro l x r ρ M1 e ⟨L,O,J,j,B,G,rfl,g1,hM⟩;refine ⟨_,rfl,fun F hF => ?_⟩;have EN:=am e;have hx:=ha x (by rw [e];simp)
  have hm:(l.length+1)*(ys.length*zs.length)<=xs.length*(ys.length*zs.length):=Mo _ EN;rw [J3] at hm;refine E6 ((g1 pr U).trans EL) U ((g1 po Y).trans EM) Y hM (by rw [GR,iS];lia) hx hb hc fun M2 J j B G g2 h2=>hF _ _ ⟨_,_,_,_,_,_,rfl,g1.trans g2, ?_⟩
  rw [h2,show cG (l++[x]) ys zs=cG l ys zs++cb x.1 x.2 ys zs by simp [cG],He]
 ·rintro ρ M1 ⟨L,O,J,j,B,G,rfl,g1,hM⟩;exact q _ _ _ _ _ _ _ g1 hM
theorem pJ {l:List Int} (h:Big l):∀ z∈nz l,bd z.2:=fun z j=>by
 unfold nz at j;have j:=(Lc.mp j).1;unfold idx at j;obtain ⟨i,hi,e⟩:=List.mem_mapIdx.mp j;rw [<- e];exact h _ (Md hi)
theorem wb {ps:List Pr} {p:Pr}:aY (ps++[p])=aY ps++eP p:=by simp [aY]
theorem B7 {f fz:Nat} {xs:Str} {s:Stmt} (hf:T[f]? = some (pI xs s fz)) {n:Nat} (EJ:D6 T (n - 1) fz) (hn : 1<=n) {x0 x1 x2:D} {p:Addr} {ps:List Pr} {M:Mem} {Q:QD} (hp:M p=some (.lst (ps.map prD))) (hl:(aY ps).length<=10000000) (hF:∀ p∈ps,D7 p)
 (q:∀ (L:List Tm) d M',zA ps L->L.length<=10000000->Ge M M'->M d=none->M' d=some (.dct true (L.map kcD))->Q (.ref d) M'):phi T n f [.tup [x0,x1,x2, .ref p]] M Q:=by
 refine au (by lia) hf rfl (ρ := [some _,none,none,none,none,none,none,none,none,none,none,none,none]) rfl ?_
 unfold pI;walk_at "st";intro d hd;have g0:=Ge.new (o := .dct true []) hd;have d0:=ad (M:=M) (a:=d) (o := .dct true []);generalize ag M d (.dct true [])=M0 at g0 d0 ⊢;walk_at "st";refine ⟨_,rfl,_,af (g0 _ _ hp), ?_⟩;have EX:p≠d:=fun z=>by rw [z,hd] at hp;cases hp
 refine aP (f:=prD) (ys:=ps) (I:=fun l ρ M' => ∃ o2 o3 o4 o5 o6 o7 o8 o9 B G J, ρ = [some (.tup [x0,x1,x2, .ref p]),some (.ref d),o2,o3,o4,o5,o6,o7,o8,o9,B,G,J]/\Ge M M'/\M' d=some (.dct true ((tset (aY l)).map kcD))) rfl ⟨_,_,_,_,_,_,_,_,_,_,_,rfl,g0,d0⟩ (fun l ρ M' ⟨_,_,_,_,_,_,_,_,_,_,_,_,g,_⟩=>af (g _ _ hp)) ?_ ?_
 ·rintro l x r ρ M1 e ⟨o2,o3,o4,o5,o6,o7,o8,o9,B,G,J,rfl,g1,j⟩;refine ⟨_,rfl,fun F EO => ?_⟩;have hx:=hF x (by rw [e];simp)
  have EQ:(aY l).length+(eP x).length<=10000000:=by
   have:aY ps=aY l++eP x++aY r:=by rw [e];simp [aY]
   rw [this,GR,GR] at hl;lia
  walk_at "st";refine EJ (by have:=hx.l2;lia) fun pr O => ?_
  have ER:pr≠d:=fun z=>by rw [z,j] at O;cases O
  have gr:=Ge.new (o := .lst ((nz x.2.1).map pD)) O;have er:=ad (M:=M1) (a:=pr) (o := .lst ((nz x.2.1).map pD));have j:=gr _ _ j;have g2:=g1.trans gr;generalize ag M1 pr (.lst ((nz x.2.1).map pD))=M2 at er j g2 ⊢;clear g1 gr O;walk_at "st";refine EJ (by have:=hx.l3;lia) fun po U => ?_
  have ES:po≠d:=fun z=>by rw [z,j] at U;cases U
  have go:=Ge.new (o := .lst ((nz x.2.2).map pD)) U;have eo:=ad (M:=M2) (a:=po) (o := .lst ((nz x.2.2).map pD));have j:=go _ _ j;have er:=go _ _ er;have g3:=g2.trans go;generalize ag M2 po (.lst ((nz x.2.2).map pD))=M3 at er eo j g3 ⊢;clear g2 go U;walk_at "st";refine EJ (by have:=hx.l1;lia) fun pl Y => ?_
  have ET:pl≠d:=fun z=>by rw [z,j] at Y;cases Y
  have gl:=Ge.new (o := .lst ((nz x.1).map pD)) Y;have el:=ad (M:=M3) (a:=pl) (o := .lst ((nz x.1).map pD));have j:=gl _ _ j;have er:=gl _ _ er;have eo:=gl _ _ eo;have g4:=g3.trans gl;generalize ag M3 pl (.lst ((nz x.1).map pD))=M4 at er eo el j g4 ⊢;clear g3 gl Y;refine ⟨_,af el, ?_⟩;refine E7 el ET er ER eo ES j (by have:=iS (xs:=nz x.1) (ys:=nz x.2.1) (zs:=nz x.2.2);unfold eP at EQ;lia) (pJ hx.b1) (pJ hx.b2) (pJ hx.b3) fun M5 o7 o8 o9 B G J g5 h5 => ?_
  walk_at "wp";refine EO _ _ ⟨_,_,_,_,_,_,_,_,_,_,_,rfl,fun a o ea => ?_,by rw [h5,wb];rfl⟩
  by_cases had:a=d
  ·subst had;rw [hd] at ea;cases ea
  ·rw [g5 a had];exact g4 _ _ ea
 ·rintro ρ M1 ⟨o2,o3,o4,o5,o6,o7,o8,o9,B,G,J,rfl,g1,j⟩;dsimp only;walk_at "st";refine AZ rfl j ?_;have fd:=ad (M:=M1) (a:=d) (o := .fdc ((tset (aY ps)).map kcD));have g2:Ge M (ag M1 d (.fdc ((tset (aY ps)).map kcD))):=g1.upd hd;have EU:=IV (pC (aY ps)) hl;have Z:=fQ (aY ps);have EL:=B5 (aY ps);generalize ag M1 d (.fdc ((tset (aY ps)).map kcD))=M2 at fd g2 ⊢;generalize tset (aY ps)=L at fd EU Z EL;walk_at "wp";refine ⟨_,fd, ?_⟩;refine ay (f:=fun t:Tm=>k3D t.1) (ys:=L) (I:=fun l ρ M' acc=>(∃ o0, ρ = [o0,some (.ref d)])/\M'=M2/\acc=(l.filter fun t => !(t.2==0)).map fun t => .tup [k3D t.1, .int t.2]) (by rw [IF];rfl) ⟨⟨_,rfl⟩,rfl,rfl⟩ (fun _ _ _ _ _=>trivial) ?_ ?_
  ·rintro l t r ρ M3 acc e ⟨⟨o0,rfl⟩,rfl,rfl⟩;refine ⟨_,rfl,fun N' EM => ?_⟩;have EY:=am e;have ht:t∈L:=by rw [e];simp
   have EV:(l.filter fun t => !(t.2==0)).length<=l.length:=Kw _ _;walk_at "wp";refine w6 fd (jS _) (fR Z ht) ?_;walk_at "wp"
   by_cases hz:t.2=0
   ·rw [if_neg (by simp [hz])]
    refine EM _ _ _ ⟨⟨_,rfl⟩,rfl, ?_⟩;rw [Lo,Jv (by simp [hz])];simp
   ·rw [if_pos (by simp [hz])]
    refine w6 fd (jS _) (fR Z ht) ?_;refine ⟨by rw [GU];lia,by rw [D2,GU];lia,EM _ _ _ ⟨⟨_,rfl⟩,rfl, ?_⟩⟩
    rw [Lo,Ju (by simp [hz])];simp
  ·rintro ρ M3 acc ⟨⟨o0,rfl⟩,rfl,rfl⟩ p2 hp2;have EV:(L.filter fun t => !(t.2==0)).length<=L.length:=Kw _ _;have EN:((L.filter fun t => !(t.2==0)).map (·.1)).Nodup:=Z.sublist (List.Sublist.map _ List.filter_sublist);refine ⟨p2,(L.filter fun t => !(t.2==0)).map kcD,rfl,by rw [ad,IF];rfl,fun kv EW => ?_,by rw [D2,GU];lia,fun pf EK => ?_⟩
   ·obtain ⟨t,_,rfl⟩:=Hr.mp EW;exact jS _
   ·rw [yC EN];have g3:=g2.trans (Ge.new (o := .lst ((L.filter fun t => !(t.2==0)).map fun t=>D.tup [k3D t.1, .int t.2])) hp2);refine q (L.filter fun t => !(t.2==0)) pf _ ⟨EN,fun t ht => ?_,fun k=>by rw [E4];exact EL k⟩ (by lia) (g3.trans (Ge.new EK)) ?_ ad
    ·have:=(Lc.mp ht).2;simpa using this
    ·cases hz:M pf with
     | none=>rfl
     | some o=>rw [g3 _ _ hz] at EK;cases EK
end
section
open PySem PySem.Spec PyProof.Rows L2.Srt
noncomputable def S1 (zs:List (Int×Int)) (k:Int):Int:=(zs.map fun z=>if z.1=k then z.2 else 0).sum
theorem dL {z:Int×Int} {zs:List (Int×Int)} {k:Int}:S1 (z::zs) k=(if z.1=k then z.2 else 0)+S1 zs k:=by simp [S1]
theorem rf {α:Type} {F : α -> List Tm} {k:K3}:∀ l:List α,cf (l.flatMap F) k=(l.map fun x=>cf (F x) k).sum
 | [] => rfl
 | x::l=>by rw [Jw,de,rf l];simp
theorem rg {i a j b k i' j':Int}:∀ {zs:List (Int×Int)},cf (bH i a j b zs) (k,i',j')=if i=i'/\j=j' then a*b*S1 zs k else 0
 | [] => by simp [bH,eZ,S1]
 | z::zs=>by
   rw [show bH i a j b (z::zs)=((z.1,i,j),a*b*z.2)::bH i a j b zs from rfl,aU,rg,dL]
   by_cases h:i=i'/\j=j'
   ·obtain ⟨rfl,rfl⟩:=h
    by_cases q:z.1=k
    ·subst q;simp [OP]
    ·have : ¬ ((z.1,i,j)=(k,i,j)):=fun e=>q (congrArg (·.1) e);rw [if_neg this,if_pos ⟨rfl,rfl⟩,if_pos ⟨rfl,rfl⟩,if_neg q];simp
   ·have : ¬ ((z.1,i,j)=(k,i',j')):=fun e=>h ⟨congrArg (·.2.1) e,congrArg (·.2.2) e⟩;rw [if_neg this,if_neg h,if_neg h];rfl
theorem rh {i a k i' j':Int} {zs:List (Int×Int)}:∀ {ys:List (Int×Int)},cf (cb i a ys zs) (k,i',j')=if i=i' then a*S1 ys j'*S1 zs k else 0
 | [] => by simp [cb,eZ,S1]
 | y::ys=>by
   rw [show cb i a (y::ys) zs=bH i a y.1 y.2 zs++cb i a ys zs from by simp [cb],de,rh,rg,dL]
   by_cases h:i=i'
   ·subst h
    by_cases j:y.1=j'
    ·subst j;simp [OP,Nu]
    ·rw [if_neg (fun e=>j e.2),if_pos rfl,if_pos rfl,if_neg j];simp
   ·rw [if_neg (fun e=>h e.1),if_neg h,if_neg h];rfl
theorem rj {k i' j':Int} {ys zs:List (Int×Int)}:∀ {xs:List (Int×Int)},cf (cG xs ys zs) (k,i',j')=S1 xs i'*S1 ys j'*S1 zs k
 | [] => by simp [cG,eZ,S1]
 | x::xs=>by
   rw [show cG (x::xs) ys zs=cb x.1 x.2 ys zs++cG xs ys zs from by simp [cG],de,rj,rh,dL]
   by_cases h:x.1=i'
   ·subst h;simp [Nu]
   ·rw [if_neg h,if_neg h];simp
noncomputable def gz (l:List Int) (i:Int):Int:=if i < 0 then 0 else l.getD i.toNat 0
theorem wc {l:List Int} {i:Int} (h:i < 0):gz l i=0:=if_pos h
theorem gB {i:Int}:gz [] i=0:=by unfold gz;split <;> simp
theorem bK {x:Int} {l:List Int} {i:Int}:gz (x::l) i=if i=0 then x else gz l (i - 1):=by
 unfold gz
 by_cases h:i < 0
 ·rw [if_pos h,if_neg (by lia),if_pos (by lia)]
 ·rw [if_neg h]
  by_cases h0:i=0
  ·subst h0;simp
  ·rw [if_neg h0,if_neg (by lia)]
   obtain ⟨n,rfl⟩:∃ n:Nat,i=((n+1:Nat):Int):=⟨(i - 1).toNat,by lia⟩
   rw [show (((n+1:Nat):Int) - 1).toNat=n by lia,HJ]
   simp
theorem wd {a b:List Int}:∀ {i:Int},gz (a++b) i=if i < a.length then gz a i else gz b (i - a.length):=by
 induction a with
 | nil =>
   intro i
   by_cases h:i < 0
   ·rw [if_pos (by simpa using h),Le,wc h,wc h]
   ·rw [if_neg (by simpa using h)];simp
 | cons x a ih =>
   intro i;rw [Me,bK,bK,ih,HR]
   by_cases h0:i=0
   ·subst h0;rw [if_pos rfl,if_pos rfl,if_pos (by lia)]
   ·rw [if_neg h0,if_neg h0]
    by_cases h:i < ((a.length+1:Nat):Int)
    ·rw [if_pos (by lia),if_pos h]
    ·rw [if_neg (by lia),if_neg h]
     congr 1;lia
theorem we {x:Int}:∀ {b:List Int} {i:Int},gz (b.map (x * ·)) i=x*gz b i
 | [],i=>by rw [KQ,gB];simp
 | y::b,i=>by rw [Hs,bK,bK,we];split <;> rfl
theorem jT {l:List Int} {i:Int} (h:gz l i≠0) : 0<=i/\i < l.length:=by
 unfold gz at h
 by_cases hi:i < 0
 ·rw [if_pos hi] at h;exact absurd rfl h
 ·rw [if_neg hi] at h;refine ⟨by lia, ?_⟩
  by_cases hl:i.toNat < l.length
  ·lia
  ·rw [I0,Kx (by lia)] at h;exact absurd rfl h
theorem wf {a b:List (Int×Int)} {k:Int}:S1 (a++b) k=S1 a k+S1 b k:=by simp [S1]
theorem jU {k:Int}:∀ zs:List (Int×Int),S1 (zs.filter fun q => !(q.2==0)) k=S1 zs k
 | [] => rfl
 | z::zs=>by
   rw [dL]
   by_cases h:z.2=0
   ·rw [Jv (by simp [h]),jU zs,h];simp
   ·rw [Ju (by simp [h]),dL,jU zs]
theorem pK (l:List Int) (k:Int):S1 (idx l) k=gz l k:=fP (P:=fun l=>S1 (idx l) k=gz l k) (by rw [gB];rfl) (fun l x ih=>by
 have e:idx (l++[x])=idx l++[(((l.length:Nat):Int),x)]:=by simp [idx,List.mapIdx_append]
 rw [e,wf,ih,wd,dL];simp only [S1,KQ,List.sum_nil]
 by_cases h:k < l.length
 ·rw [if_pos h,if_neg (by lia)];lia
 ·rw [if_neg h,bK,gB];have z:gz l k=0:=by
   cases Decidable.em (gz l k=0) with
   | inl h=>exact h
   | inr h'=>exact absurd (jT h').2 h
  rw [z]
  by_cases e:(l.length:Int)=k
  ·rw [if_pos e,if_pos (by lia)];lia
  ·rw [if_neg e,if_neg (by lia)];rfl) l
theorem B8 {p:Pr} {k i j:Int}:cf (eP p) (k,i,j)=gz p.1 i*gz p.2.1 j*gz p.2.2 k:=by
 unfold eP;rw [rj];unfold nz;rw [jU,jU,jU,pK,pK,pK]
noncomputable def Tn (ps:List Pr) (k i j:Int):Int:=(ps.map fun p=>gz p.1 i*gz p.2.1 j*gz p.2.2 k).sum
theorem B9 {ps:List Pr} {k i j:Int}:cf (aY ps) (k,i,j)=Tn ps k i j:=by
 unfold aY Tn;rw [rf];congr 1;exact HY fun p _=>B8
theorem eJ {a b:List Pr} {k i j:Int}:Tn (a++b) k i j=Tn a k i j+Tn b k i j:=by simp [Tn]
theorem i4 {p:Pr} {a:List Pr} {k i j:Int}:Tn (p::a) k i j=gz p.1 i*gz p.2.1 j*gz p.2.2 k+Tn a k i j:=by simp [Tn]
theorem pL {L0 L1 L2:Nat} {k i j:Int}:∀ {us:List Pr},(∀ u∈us,u.1.length=L0/\u.2.1.length=L1/\u.2.2.length=L2)->Tn us k i j≠0->(0<=k/\k < L2)/\(0<=i/\i < L0)/\(0<=j/\j < L1)
 | [],_,h=>absurd (by simp [Tn]) h
 | u::us,q,h=>by
   obtain ⟨e0,e1,e2⟩:=q u (by simp)
   rw [i4] at h
   by_cases z:gz u.1 i*gz u.2.1 j*gz u.2.2 k=0
   ·rw [z,Int.zero_add] at h;exact pL (fun v B=>q v (by simp [B])) h
   ·have a1:gz u.1 i≠0:=fun e=>z (by rw [e];simp)
    have a2:gz u.2.1 j≠0:=fun e=>z (by rw [e];simp)
    have F:gz u.2.2 k≠0:=fun e=>z (by rw [e];simp)
    have:=jT a1;have:=jT a2;have:=jT F;lia
theorem mU {l:List Tm} (g:(l.map (·.1)).Nodup):l.Nodup:=by
 rw [IH] at g ⊢;rw [J8] at g;exact g.imp fun {a b} hab e=>hab (by rw [e])
theorem wg {a:List Tm} (q:(a.map (·.1)).Nodup) {k:K3} (h:cf a k≠0):(k,cf a k)∈a:=by
 by_cases e:∃ r∈a,r.1=k
 ·obtain ⟨r,j,rfl⟩:=e;rw [fe q j];exact j
 ·exact absurd (fb fun r j z=>e ⟨r,j,z⟩) h
theorem Ba {a b:List Tm} (q:(a.map (·.1)).Nodup) (z:(b.map (·.1)).Nodup) (za:∀ t∈a,t.2≠0) (zb:∀ t∈b,t.2≠0) (h:∀ k,cf a k=cf b k):a.Perm b:=by
 refine (Nb (mU q) (mU z)).mpr fun t=>⟨fun j => ?_,fun j => ?_⟩
 ·have e:=fe q j;have:=wg z (k:=t.1) (by rw [<- h,e];exact za t j)
  rwa [<- h,e] at this
 ·have e:=fe z j;have:=wg q (k:=t.1) (by rw [h,e];exact zb t j)
  rwa [h,e] at this
theorem yE {a b:List Tm} (q:(b.map (·.1)).Nodup) (h:a.Perm b):eqD (a.map kcD) (b.map kcD)=true:=by
 unfold eqD;rw [z4];refine ⟨by simp [h.length_eq], ?_⟩
 rw [KW];intro kv j;obtain ⟨t,z,rfl⟩:=Hr.mp j;exact decide_eq_true (fR q (h.mem_iff.mp z))
end
section
open PySem PySem.Spec PyProof.Rows L2.Srt
theorem bj {a b m:Nat} (j:b < m):(a*m+b) / m=a:=by
 rw [KP,Nat.mul_add_div (by lia),Nat.div_eq_of_lt j,Nat.add_zero]
theorem cu {n m p:Nat}:((be n m p).map (·.1)).Nodup:=by
 unfold be eO;rw [NO,IH,Ot];refine ⟨fun a _ => ?_, ?_⟩
 ·rw [NO,Ot];refine ⟨fun b _ => ?_, ?_⟩
  ·rw [IF,J8];refine (IH.mp NP).imp ?_;intro c c' F e;have h:=congrArg (fun k:K3=>k.2.2) e;simp only [K7,bN] at h;lia
  ·refine (IH.mp NP).imp ?_;intro b b' z x hx y j e;rw [IF] at hx j;obtain ⟨u,_,rfl⟩:=Hr.mp hx;obtain ⟨v,_,rfl⟩:=Hr.mp j;have h:=congrArg (fun k:K3=>k.2.1) e;simp only [K7,bN] at h;lia
 ·refine (IH.mp NP).imp ?_;intro a a' B x hx y j e;rw [NO] at hx j;obtain ⟨b,z,hx⟩:=Jj.mp hx;obtain ⟨b',q,j⟩:=Jj.mp j;rw [IF] at hx j;obtain ⟨u,_,rfl⟩:=Hr.mp hx;obtain ⟨v,_,rfl⟩:=Hr.mp j;have h:=congrArg (fun k:K3=>k.2.1) e;simp only [K7,bN] at h;have h2:a*m+b=a'*m+b':=by lia
  apply B;rw [<- bj (a:=a) (HG.mp z),h2,bj (HG.mp q)]
theorem D8 {n m p:Nat}:∀ u∈be n m p,u.2≠0:=fun u j=>by
 obtain ⟨a,b,c,_,_,_,rfl⟩:=ff j;exact Int.one_ne_zero
theorem m9 {α:Type} {n p:Nat} {f:Nat -> α}:(Hi (n*p)).map f=(Hi n).flatMap fun i=>(Hi p).map fun j=>f (i*p+j):=by
 induction n with
 | zero=>simp
 | succ n ih =>
   rw [J3,List.range_add,IB,ih,QK,K8,IF];simp
end
section
open PySem PySem.Spec PyProof.Rows L2.Srt
variable {T:List FD}
noncomputable def kI (xs:Str) (s:Stmt):FD:=⟨"_law_table_sums",s,[xs, "_law_n", "_law_m", "_law_p", "_law_found", "_law_a", "_law_b", "_law_c"],1,
 (.cons (.asg (.tup (.cons (.name 1) (.cons (.name 2) (.cons (.name 3) .nil)))) (.var 0))
 (.cons (.asg (.name 4) (.dnew true))
 (.cons (.for (.name 5) (.rng1 (.var 1)) (.cons (.for (.name 6) (.rng1 (.var 2)) (.cons (.for (.name 7) (.rng1 (.var 3)) (.cons (.put (.var 4) (.tup (.cons (.bin .add (.bin .mul (.var 5) (.var 3)) (.var 7)) (.cons (.bin .add (.bin .mul (.var 5) (.var 2)) (.var 6)) (.cons (.bin .add (.bin .mul (.var 6) (.var 3)) (.var 7)) .nil)))) (.int 1))
 .nil))
 .nil))
 .nil))
 (.cons (.ret (.var 4))
 .nil))))⟩
structure TI (n m p:Nat) (X:List Tm) (L:List Tm):Prop where
 nd:(L.map (·.1)).Nodup
 sub:∀ t∈L,t∈X
 all:∀ t∈X,t.1∈L.map (·.1)
theorem md {L:List Tm} {k a:K3} {c:Int} (h:a∈L.map (·.1)∨a=k):a∈(di L k c).map (·.1):=by
 unfold di
 split
 ·next j =>
  rw [IF];have e:L.map ((fun x:Tm=>x.1) ∘ fun p=>if p.1=k then (p.1,c) else p)=L.map (·.1):=HY fun p _=>by
   simp only [K7];split <;> rfl
  rw [e]
  rcases h with h | rfl
  ·exact h
  ·obtain ⟨t,q,e⟩:=JO.mp j;rw [<- of_decide_eq_true e];exact HK q
 ·rw [IB]
  rcases h with h | rfl
  ·exact Im _ h
  ·exact Hn _ (by simp)
theorem TI.put {n m p:Nat} {X L:List Tm} (h:TI n m p X L) (t:Tm):TI n m p (X++[t]) (di L t.1 t.2) where
 nd:=tI h.nd
 sub:=fun u j=>by
  rcases yA j with z | z
  ·exact Im _ (h.sub u z)
  ·exact Hn _ (by rw [z];simp)
 all:=fun u j=>by
  rcases Hj.mp j with z | z
  ·exact md (.inl (h.all u z))
  ·have e:u=t:=by simpa using z
   rw [e];exact md (.inr rfl)
theorem TI.perm {n m p:Nat} {L:List Tm} (h:TI n m p (be n m p) L):L.Perm (be n m p):=by
 refine (Nb (mU h.nd) (mU cu)).mpr fun t=>⟨h.sub t,fun j => ?_⟩;obtain ⟨u,q,e⟩:=Hr.mp (h.all t j);have h1:=fe cu (h.sub u q);have h2:=fe cu j;rw [e,h2] at h1;have:u=t:=Prod.ext e h1.symm;rw [<- this];exact q
theorem yF {f:Nat} {xs:Str} {s:Stmt} (hf:T[f]? = some (kI xs s)) {k:Nat} (hk : 1<=k) {n m p:Nat} (hn:n<=50) (hm:m<=50) (hp:p<=50) {M:Mem} {Q:QD}
 (q:∀ (L:List Tm) d M',L.Perm (be n m p)->Ge M M'->M d=none->M' d=some (.dct true (L.map kcD))->Q (.ref d) M'):phi T k f [.tup [.int n, .int m, .int p]] M Q:=by
 refine au (by lia) hf rfl (ρ := [some _,none,none,none,none,none,none,none]) rfl ?_
 unfold kI;walk_at "st";walk_at "st";intro d hd;have g0:=Ge.new (o := .dct true []) hd;have d0:=ad (M:=M) (a:=d) (o := .dct true []);generalize ag M d (.dct true [])=M0 at g0 d0 ⊢;walk_at "st";refine ⟨by lia,by lia, ?_⟩
 rw [HJ];refine aP (f:=fun i=>D.int (i:Nat)) (ys:=Hi n) (I:=fun l ρ M' => ∃ L U G j, ρ = [some (.tup [.int n, .int m, .int p]),some (.int n),some (.int m),some (.int p),some (.ref d),U,G,j]/\Ge M M'/\M' d=some (.dct true (L.map kcD))/\TI n m p (l.flatMap (eO m p)) L/\L.length<=l.length*2500) aE ⟨[],_,_,_,rfl,g0,d0,⟨by simp,fun _ h=>by simp at h,fun _ h=>by simp at h⟩,by simp⟩ (fun _ _ _ _=>trivial) ?_ ?_
 ·rintro l a r ρ M1 e ⟨L,U,G,j,rfl,g1,h1,z,B⟩;refine ⟨_,rfl,fun F hF => ?_⟩;have Y:=am e;rw [HC] at Y;have ha:a < n:=HG.mp (by rw [e];simp)
  walk_at "st";refine ⟨by lia,by lia, ?_⟩
  rw [HJ];refine aP (f:=fun i=>D.int (i:Nat)) (ys:=Hi m) (I:=fun l' ρ M' => ∃ L G j, ρ = [some (.tup [.int n, .int m, .int p]),some (.int n),some (.int m),some (.int p),some (.ref d),some (.int (a:Nat)),G,j]/\Ge M M'/\M' d=some (.dct true (L.map kcD))/\TI n m p (l.flatMap (eO m p)++l'.flatMap fun b=>(Hi p).map (bN m p a b)) L/\L.length<=l.length*2500+l'.length*50) aE ⟨L,_,_,rfl,g1,h1,by simpa using z,by simpa using B⟩ (fun _ _ _ _=>trivial) ?_ ?_
  ·rintro l' b r' ρ M2 e' ⟨L,G,j,rfl,g2,h2,z,B⟩;refine ⟨_,rfl,fun F' Z => ?_⟩;have J:=am e';rw [HC] at J;have hb:b < m:=HG.mp (by rw [e'];simp)
   walk_at "st";refine ⟨by lia,by lia, ?_⟩
   rw [HJ];refine aP (f:=fun i=>D.int (i:Nat)) (ys:=Hi p) (I:=fun l3 ρ M' => ∃ L j, ρ = [some (.tup [.int n, .int m, .int p]),some (.int n),some (.int m),some (.int p),some (.ref d),some (.int (a:Nat)),some (.int (b:Nat)),j]/\Ge M M'/\M' d=some (.dct true (L.map kcD))/\TI n m p ((l.flatMap (eO m p)++l'.flatMap fun b=>(Hi p).map (bN m p a b))++l3.map (bN m p a b)) L/\L.length<=l.length*2500+l'.length*50+l3.length) aE ⟨L,_,rfl,g2,h2,by simpa using z,by simpa using B⟩ (fun _ _ _ _=>trivial) ?_ ?_
   ·rintro l3 c r3 ρ M3 e3 ⟨L,j,rfl,g3,h3,z,B⟩;refine ⟨_,rfl,fun F3 EJ => ?_⟩;have O:=am e3;rw [HC] at O;rw [bT];walk_at "wp";refine ⟨cm (by lia),cm (by lia),cm (by lia),by rw [GU];lia, ?_⟩
    have ek:D.tup [.int (a*p+c), .int (a*m+b), .int (b*p+c)]=k3D (bN m p a b c).1:=by
     unfold bN k3D;simp only [Li,Jz]
    rw [ek];refine ph h3 (jS (bN m p a b c).1) (by rw [D2,GU];lia) ?_
    rw [show D.int 1 = .int (bN m p a b c).2 from rfl,pE];refine EJ _ _ ⟨_,_,rfl,g3.upd hd,ad, ?_, ?_⟩
    ·rw [IB, <- He];exact z.put _
    ·have:=yB (L:=L) (k:=(bN m p a b c).1) (c:=(bN m p a b c).2);rw [GR,HF];lia
   ·rintro ρ M3 ⟨L,j,rfl,g3,h3,z,B⟩;dsimp only;walk_at "wp";refine Z _ _ ⟨L,_,_,rfl,g3,h3, ?_, ?_⟩
    ·rw [K8];simpa using z
    ·rw [GR];rw [HC] at B;simp;lia
  ·rintro ρ M2 ⟨L,G,j,rfl,g2,h2,z,B⟩;dsimp only;walk_at "wp";refine hF _ _ ⟨L,_,_,_,rfl,g2,h2, ?_, ?_⟩
   ·rw [K8];simpa [eO] using z
   ·rw [GR];rw [HC] at B;simp;lia
 ·rintro ρ M1 ⟨L,U,G,j,rfl,g1,h1,z,B⟩;dsimp only;walk_at "st";exact q L d M1 z.perm g1 hd h1
noncomputable def one (L:Nat) (k:Int):List Int:=(Hi L).map fun h=>if ((h:Nat):Int)=k then 1 else 0
theorem i5 {L:Nat} {k:Int}:(one L k).length=L:=by simp [one]
theorem pM {L:Nat} {k i:Int} (h0 : 0<=k) (h1:k < L):gz (one L k) i=if i=k then 1 else 0:=by
 unfold gz one
 by_cases hi:i < 0
 ·rw [if_pos hi,if_neg (by lia)]
 ·rw [if_neg hi,I0,HB]
  by_cases hl:i.toNat < L
  ·rw [L5 hl];simp only [Kn,Option.getD_some]
   by_cases e:i=k
   ·rw [if_pos (by lia),if_pos e]
   ·rw [if_neg (by lia),if_neg e]
  ·rw [Kx (by simp;lia),if_neg (by lia)];rfl
noncomputable def iT (s:Stmt):FD:=⟨"_law_single",s,["_law_length", "_law_place"],2,
 (.cons (.ret (.blt .tuple (.cons (.comp [none,(some 1)] ["_law_here", "_law_place"] (.last (.rng1 (.var 0)) (.name 0) .nil (.blt .int (.cons (.cmp .eq (.var 0) (.var 1)) .nil)))) .nil)))
 .nil)⟩
theorem wj {f:Nat} {s:Stmt} (hf:T[f]? = some (iT s)) {n:Nat} (F : 1<=n) {L:Nat} (G:L<=100000) {k:Int} {M:Mem} {Q:QD} (q:∀ M',Ge M M'->Q (.tup ((one L k).map .int)) M'):phi T n f [.int L, .int k] M Q:=by
 refine au (by lia) hf rfl (ρ := [some _,some _]) rfl ?_
 unfold iT;walk_at "st";refine ⟨by lia,by lia, ?_⟩
 rw [HJ];refine ay (f:=fun i=>D.int (i:Nat)) (ys:=Hi L) (I:=fun l ρ M' acc=>(∃ o0, ρ = [o0,some (.int k)])/\M'=M/\acc=(l.map fun h=>if ((h:Nat):Int)=k then (1:Int) else 0).map .int) aE ⟨⟨_,rfl⟩,rfl,rfl⟩ (fun _ _ _ _ _=>trivial) ?_ ?_
 ·rintro l i r ρ M1 acc e ⟨⟨o0,rfl⟩,rfl,rfl⟩;refine ⟨_,rfl,fun N' j => ?_⟩;have z:=am e;rw [HC] at z;walk_at "wp";refine ⟨by rw [D2,D2,GU];lia,j _ _ _ ⟨⟨_,rfl⟩,rfl, ?_⟩⟩
  simp
 ·rintro ρ M1 acc ⟨⟨o0,rfl⟩,rfl,rfl⟩ p B;exact ⟨_,_,rfl,af ad,q _ (Ge.new B)⟩
noncomputable def kJ (x y:Str) (s:Stmt):FD:=⟨"_law_turned_about",s,[x],1,
 (.cons (.ret (.blt .tuple (.cons (.comp [none] [y] (.last (.seq (.var 0)) (.name 0) .nil (.neg (.var 0)))) .nil)))
 .nil)⟩
theorem yG {f:Nat} {x y:Str} {s:Stmt} (hf:T[f]? = some (kJ x y s)) {n:Nat} (F : 1<=n) {l:List Int} (G:l.length<=100000) {M:Mem} {Q:QD} (q:∀ M',Ge M M'->Q (.tup ((l.map (- ·)).map .int)) M'):phi T n f [.tup (l.map .int)] M Q:=by
 refine au (by lia) hf rfl (ρ := [some _]) rfl ?_
 unfold kJ;walk_at "st";refine ay (f:=D.int) (ys:=l) (I:=fun l ρ M' acc=>(∃ o0, ρ = [o0])/\M'=M/\acc=(l.map (- ·)).map .int) rfl ⟨⟨_,rfl⟩,rfl,rfl⟩ (fun _ _ _ _ _=>by first | rfl | trivial) ?_ ?_
 ·rintro l' i r ρ M1 acc e ⟨⟨o0,rfl⟩,rfl,rfl⟩;refine ⟨_,rfl,fun N' j => ?_⟩;have z:=am e;walk_at "wp";refine ⟨by rw [D2,D2,GU];lia,j _ _ _ ⟨⟨_,rfl⟩,rfl, ?_⟩⟩
  simp
 ·rintro ρ M1 acc ⟨⟨o0,rfl⟩,rfl,rfl⟩ p B;exact ⟨_,_,rfl,af ad,q _ (Ge.new B)⟩
noncomputable def plP (L0 L1 L2:Nat) (t:Tm):Pr:=(one L0 t.1.2.1,one L1 t.1.2.2,(one L2 t.1.1).map (· * t.2))
theorem rl {x:Int}:∀ {b:List Int} {i:Int},gz (b.map (· * x)) i=gz b i*x
 | [],i=>by rw [KQ,gB];simp
 | y::b,i=>by rw [Hs,bK,bK,rl];split <;> rfl
theorem pO {L0 L1 L2:Nat} {k i j:Int}:∀ {L:List Tm},(∀ t∈L,(0<=t.1.1/\t.1.1 < L2)/\(0<=t.1.2.1/\t.1.2.1 < L0)/\(0<=t.1.2.2/\t.1.2.2 < L1))->Tn (L.map (plP L0 L1 L2)) k i j=cf L (k,i,j)
 | [],_=>rfl
 | t::L,h=>by
   obtain ⟨⟨z,a1⟩,⟨B,b1⟩,⟨F,G⟩⟩:=h t (by simp)
   rw [Hs,i4,aU,pO fun u J=>h u (by simp [J])]
   congr 1;unfold plP;dsimp only;rw [pM B b1,pM F G,rl,pM z a1]
   by_cases e:t.1=(k,i,j)
   ·rw [if_pos e,if_pos (by rw [e]),if_pos (by rw [e]),if_pos (by rw [e])];lia
   ·rw [if_neg e]
    by_cases e1:i=t.1.2.1
    ·by_cases e2:j=t.1.2.2
     ·by_cases q:k=t.1.1
      ·exact absurd (by rw [e1,e2,q]) e
      ·rw [if_neg q];simp
     ·rw [if_neg e2];simp
    ·rw [if_neg e1];simp
def rn (cap:Nat) (bf:BF):Prop := ∀ {d:Addr} {kvs:List (D×D)} (sh:Sh) {M:Mem} {Q:QD},M d=some (.dct true kvs)->iK sh=true->(∀ kv∈kvs,hs sh kv.1=true)->kvs.length<=cap->(∀ p ys,M p=none->ys.Perm (kvs.map (·.1))->kB ys->Q (.ref p) (ag M p (.lst ys)))->opF bf [.ref d] M Q
theorem EG {cap:Nat}:rn cap .sortk:=fun sh _ _ h1 h2 j _ q=>⟨_,true,_,sh,rfl,h1,h2,j,q⟩
noncomputable def gC (bf:BF) (y:Str) (s:Stmt) (fs:Nat):FD:=⟨"_law_plainly",s,["_law_lengths", "_law_sums_here"],2,
 (.cons (.ret (.comp [none,none,none,(some 0),(some 1)] ["_law_k", "_law_i", "_law_j", "_law_lengths", "_law_sums_here"] (.last (.seq (.blt bf (.cons (.var 1) .nil))) (.tup (.cons (.name 0) (.cons (.name 1) (.cons (.name 2) .nil)))) .nil (.tup (.cons (.call fs (.cons (.ix (.var 3) (.int 0)) (.cons (.var 1) .nil))) (.cons (.call fs (.cons (.ix (.var 3) (.int 1)) (.cons (.var 2) .nil))) (.cons (.blt .tuple (.cons (.comp [none,(some 4),(some 0),(some 1),(some 2)] [y, "_law_sums_here", "_law_k", "_law_i", "_law_j"] (.last (.seq (.call fs (.cons (.ix (.var 3) (.int 2)) (.cons (.var 0) .nil)))) (.name 0) .nil (.bin .mul (.var 0) (.ix (.var 1) (.tup (.cons (.var 2) (.cons (.var 3) (.cons (.var 4) .nil)))))))) .nil)) .nil)))))))
 .nil)⟩
def pP (T:List FD) (n f:Nat):Prop := ∀ {L:Nat} {k:Int} {M:Mem} {Q:QD},L<=100000->(∀ M',Ge M M'->Q (.tup ((one L k).map .int)) M')->phi T n f [.int L, .int k] M Q
theorem tM {f fs:Nat} {y:Str} {s:Stmt} {cap:Nat} {bf:BF} (hS:rn cap bf) (hf:T[f]? = some (gC bf y s fs)) {n:Nat} (j:pP T (n - 1) fs) (hn : 1<=n) {L0 L1 L2:Nat} (h0:L0<=1000) (h1:L1<=1000) (h2:L2<=1000) {L:List Tm} (B:(L.map (·.1)).Nodup) (hl:L.length<=1000000) (F:L.length<=cap) {d:Addr} {M:Mem} {Q:QD} (hd:M d=some (.dct true (L.map kcD)))
 (q:∀ (rs:List Tm) p M',rs.Perm L->Ge M M'->M p=none->M' p=some (.lst ((rs.map (plP L0 L1 L2)).map prD))->Q (.ref p) M'):phi T n f [.tup [.int L0, .int L1, .int L2], .ref d] M Q:=by
 refine au (by lia) hf rfl (ρ := [some _,some _]) rfl ?_
 unfold gC;walk_at "st";refine hS (.tup [.int, .int, .int]) hd rfl (fun kv Z => ?_) (by rw [D2];exact F) fun ps ys EJ z G => ?_
 ·obtain ⟨t,_,rfl⟩:=Hr.mp Z;rfl
 obtain ⟨rs,J,rfl,EL⟩:=qo B z G;have g1:=Ge.new (o := .lst (rs.map fun t=>k3D t.1)) EJ;have e1:=ad (M:=M) (a:=ps) (o := .lst (rs.map fun t=>k3D t.1));generalize ag M ps (.lst (rs.map fun t=>k3D t.1))=M1 at g1 e1 ⊢;have EM:rs.length<=1000000:=by rw [J.length_eq];exact hl
 refine ⟨_,af e1, ?_⟩;refine ay (f:=fun t:Tm=>k3D t.1) (ys:=rs) (I:=fun l ρ M' acc=>(∃ o0 o1 o2, ρ = [o0,o1,o2,some (.tup [.int L0, .int L1, .int L2]),some (.ref d)])/\Ge M1 M'/\acc=(l.map (plP L0 L1 L2)).map prD) rfl ⟨⟨_,_,_,rfl⟩,Ge.refl,rfl⟩ (fun _ _ _ _ h=>af (h.2.1 _ _ e1)) ?_ ?_
 ·rintro l t r ρ M2 acc e ⟨⟨o0,o1,o2,rfl⟩,g2,rfl⟩;refine ⟨_,rfl,fun N' EK => ?_⟩;have EN:=am e;have ht:t∈L:=J.mem_iff.mp (by rw [e];simp)
  walk_at "wp";refine ⟨_,rfl,j (by lia) fun M3 g3=>⟨_,rfl,j (by lia) fun M4 g4=>⟨_,rfl,j (by lia) fun M5 Y=>⟨_,rfl, ?_⟩⟩⟩⟩
  have Y:=g2.trans (g3.trans (g4.trans Y));have d5:=Y _ _ (g1 _ _ hd);have ho:∀ x∈one L2 t.1.1,x=0∨x=1:=fun x hx=>by
   unfold one at hx;obtain ⟨h,_,rfl⟩:=Hr.mp hx
   split <;> simp
  refine ay (f:=D.int) (ys:=one L2 t.1.1) (I:=fun l' ρ M' acc=>(∃ o0, ρ = [o0,some (.ref d),some (.int t.1.1),some (.int t.1.2.1),some (.int t.1.2.2)])/\M'=M5/\acc=(l'.map (· * t.2)).map .int) rfl ⟨⟨_,rfl⟩,rfl,rfl⟩ (fun _ _ _ _ _=>by first | rfl | trivial) ?_ ?_
  ·rintro l' x r' ρ M6 acc e' ⟨⟨o0,rfl⟩,rfl,rfl⟩;refine ⟨_,rfl,fun N'' O => ?_⟩;have U:=am e';rw [i5] at U;have hx:=ho x (by rw [e'];simp)
   walk_at "wp";refine ⟨by rw [GU];lia, ?_⟩
   rw [show D.tup [.int t.1.1, .int t.1.2.1, .int t.1.2.2]=k3D t.1 from rfl];refine D4 d5 (jS t.1) (fR B ht) ?_;walk_at "wp";refine ⟨cm (by lia),by rw [D2,D2,GU];lia,O _ _ _ ⟨⟨_,rfl⟩,rfl,by simp⟩⟩
  ·rintro ρ M6 acc ⟨⟨o0,rfl⟩,rfl,rfl⟩ p J;refine ⟨_,_,rfl,af ad,by rw [GU];lia,by rw [D2,D2,GU];lia,EK _ _ _ ⟨⟨_,_,_,rfl⟩,Y.trans (Ge.new J), ?_⟩⟩
   simp [prD,plP]
 ·rintro ρ M2 acc ⟨⟨o0,o1,o2,rfl⟩,g2,rfl⟩ p2 hp2;have g3:=g1.trans g2;refine q rs p2 _ J (g3.trans (Ge.new hp2)) ?_ ad
  cases hz:M p2 with
  | none=>rfl
  | some o=>rw [g3 _ _ hz] at hp2;cases hp2
end
section
open PySem PySem.Spec PyProof.Rows L2.Srt
noncomputable def tm (p:Pr) (k i j:Int):Int:=gz p.1 i*gz p.2.1 j*gz p.2.2 k
theorem eK {p:Pr} {a:List Pr} {k i j:Int}:Tn (p::a) k i j=tm p k i j+Tn a k i j:=i4
theorem wk {ps:List Pr} {n:Nat} {p:Pr} {k i j:Int}:Tn (ps.take n++p::ps.drop n) k i j=Tn ps k i j+tm p k i j:=by
 have e:Tn ps k i j=Tn (ps.take n) k i j+Tn (ps.drop n) k i j:=by rw [<- eJ,IS]
 rw [eJ,eK,e];lia
theorem wm {k i j:Int} {p':Pr}:∀ {ps:List Pr} {n:Nat} {p:Pr},ps[n]? = some p->Tn (ps.set n p') k i j=Tn ps k i j - tm p k i j+tm p' k i j
 | [],n,p,h=>by simp at h
 | a::ps,0,p,h=>by
   simp at h;subst h;rw [N9,eK,eK];lia
 | a::ps,n+1,p,h=>by
   rw [Na,eK,eK,wm (ps:=ps) (n:=n) (p:=p) (by simpa using h)];lia
theorem i6 {i:Int}:∀ {l:List Int},gz (l.map (- ·)) i = - gz l i:=by
 intro l;have:=we (x := -1) (b:=l) (i:=i);rw [show l.map (- ·)=l.map (-1 * ·) from HY fun x _=>by lia,this];lia
theorem E8 {l r o:List Int} {k i j:Int}:tm (l.map (- ·),r,o.map (- ·)) k i j=tm (l,r,o) k i j:=by
 unfold tm;dsimp only;rw [i6,i6];simp [Int.neg_mul,Int.mul_neg]
theorem tm_lr {l r o:List Int} {k i j:Int}:tm (l.map (- ·),r.map (- ·),o) k i j=tm (l,r,o) k i j:=by
 unfold tm;dsimp only;rw [i6,i6];simp [Int.neg_mul,Int.mul_neg]
noncomputable def aN (a b:List Int):List Int:=JT (· - ·) a b
theorem kK {i:Int}:∀ {a b:List Int},a.length=b.length->gz (aN a b) i+gz b i=gz a i:=by
 intro a
 induction a generalizing i with
 | nil=>intro b h;cases b with | nil=>rw [show aN [] []=[] from rfl,gB];rfl | cons y b=>simp at h
 | cons x a ih =>
   intro b h
   cases b with
   | nil=>simp at h
   | cons y b =>
     rw [show aN (x::a) (y::b)=(x - y)::aN a b from rfl,bK,bK,bK]
     by_cases e:i=0
     ·rw [if_pos e,if_pos e,if_pos e];lia
     ·rw [if_neg e,if_neg e,if_neg e];exact ih (by simpa using h)
theorem Bb {l r o m:List Int} {k i j:Int} (h:l.length=m.length):tm (aN l m,r,o) k i j+tm (m,r,o) k i j=tm (l,r,o) k i j:=by
 unfold tm;dsimp only;rw [<- Nu, <- Nu,kK h]
theorem Bc {l r o m:List Int} {k i j:Int} (h:r.length=m.length):tm (l,aN r m,o) k i j+tm (l,m,o) k i j=tm (l,r,o) k i j:=by
 unfold tm;dsimp only;rw [<- Nu, <- OP,kK h]
theorem Bd {l r o m:List Int} {k i j:Int} (h:o.length=m.length):tm (l,r,aN o m) k i j+tm (l,r,m) k i j=tm (l,r,o) k i j:=by
 unfold tm;dsimp only;rw [<- OP,kK h]
noncomputable def seven:List Pr := [([1,0,0,1],[1,0,0,1],[1,0,0,1]),([0,0,1,1],[1,0,0,0],[0,0,1, -1]),([1,0,0,0],[0,1,0, -1],[0,1,0,1]),([0,0,0,1],[-1,0,1,0],[1,0,1,0]),([1,1,0,0],[0,0,0,1],[-1,1,0,0]),([-1,0,1,0],[1,1,0,0],[0,0,0,1]),([0,1,0, -1],[0,0,1,1],[1,0,0,0])]
theorem yH:∀ a b c:Fin 4,Tn seven (a.val:Nat) (b.val:Nat) (c.val:Nat)=cf (be 2 2 2) (((a.val:Nat):Int),((b.val:Nat):Int),((c.val:Nat):Int)):=by decide +kernel
theorem yI {k i j:Int}:Tn seven k i j=cf (be 2 2 2) (k,i,j):=by
 by_cases h:(0<=k/\k < 4)/\(0<=i/\i < 4)/\(0<=j/\j < 4)
 ·have:=yH ⟨k.toNat,by lia⟩ ⟨i.toNat,by lia⟩ ⟨j.toNat,by lia⟩
  dsimp only at this;rw [L4 h.1.1,L4 h.2.1.1,L4 h.2.2.1] at this;exact this
 ·have z:Tn seven k i j=0:=by
   cases Decidable.em (Tn seven k i j=0) with
   | inl e=>exact e
   | inr e=>exact absurd (pL (L0 := 4) (L1 := 4) (L2 := 4) (us:=seven) (by decide) e) h
  have B:cf (be 2 2 2) (k,i,j)=0:=fb fun t F e=>by
   obtain ⟨a,b,c,J,L,O,rfl⟩:=ff F;unfold bN at e;have e1:=congrArg (fun q:K3=>q.1) e;have e2:=congrArg (fun q:K3=>q.2.1) e;have G:=congrArg (fun q:K3=>q.2.2) e;dsimp only at e1 e2 G;lia
  rw [z,B]
end
section
open PySem PySem.Spec PyProof.Rows L2.Srt
variable {T:List FD}
noncomputable def mvl (l:List (Int×Nat)) (L:Nat):List Int:=(Hi L).map fun t=>(l.map fun q=>if q.2=t then q.1 else 0).sum
noncomputable def mv (xs:List Int) (ps:List Nat) (L:Nat):List Int:=mvl (xs.zip ps) L
theorem i7 {l:List (Int×Nat)} {L:Nat}:(mvl l L).length=L:=by simp [mvl]
theorem Be {L:Nat}:mvl [] L=Hm L 0:=by
 unfold mvl;rw [List.eq_replicate_iff];exact ⟨by simp,fun x hx=>by obtain ⟨t,_,rfl⟩:=Hr.mp hx;rfl⟩
theorem kL {l:List (Int×Nat)} {L t:Nat} (h:t < L):(mvl l L)[t]? = some ((l.map fun q=>if q.2=t then q.1 else 0).sum):=by
 unfold mvl;rw [HB,L5 h];rfl
theorem Bf {l:List (Int×Nat)} {x:Int} {t L:Nat} (h:t < L):(mvl l L).set t ((l.map fun q=>if q.2=t then q.1 else 0).sum+x)=mvl (l++[(x,t)]) L:=by
 apply KD;intro i;rw [List.getElem?_set,i7]
 by_cases hi:i < L
 ·rw [kL hi,kL hi,IB,QL]
  by_cases e:t=i
  ·subst e;simp [h]
  ·rw [if_neg e];simp [e]
 ·rw [Kx (by rw [i7];lia),Kx (by rw [i7];lia),if_neg (by lia)]
noncomputable def nsD (ps:List Nat):List D:=ps.map fun t=>D.int (t:Nat)
noncomputable def kM (s:Stmt):FD:=⟨"moved",s,["part", "places", "length", "row", "x", "at"],3,
 (.cons (.asg (.name 3) (.bin .mul (.lst (.cons (.int 0) .nil)) (.var 2)))
 (.cons (.for (.tup (.cons (.name 4) (.cons (.name 5) .nil))) (.zip (.var 0) (.var 1)) (.cons (.augI (.var 3) (.var 5) .add (.var 4))
 .nil))
 (.cons (.ret (.blt .tuple (.cons (.var 3) .nil)))
 .nil)))⟩
def rp (T:List FD) (n f:Nat):Prop := ∀ {xs:List Int} {ps:List Nat} {L:Nat} {pp:Addr} {M:Mem} {Q:QD},L<=100000->(∀ t∈ps,t < L)->M pp=some (.lst (nsD ps))->(∀ M',Ge M M'->Q (.tup ((mv xs ps L).map .int)) M')->phi T n f [.tup (xs.map .int), .ref pp, .int L] M Q
theorem wn:∀ {xs:List Int} {ps:List Nat},JT fF (xs.map .int) (nsD ps)=(xs.zip ps).map fun q=>D.tup [.int q.1, .int (q.2:Nat)]
 | [],ps=>by simp [nsD]
 | x::xs,[] => by simp [nsD]
 | x::xs,t::ps=>by
   have:=wn (xs:=xs) (ps:=ps);unfold nsD at this ⊢;rw [Hs,Hs,List.zipWith_cons_cons,this];rfl
theorem pQ {f:Nat} {s:Stmt} (hf:T[f]? = some (kM s)) {n:Nat} (hn : 1<=n):rp T n f:=by
 intro xs ps L pp M Q hL O ep q;refine au (by lia) hf rfl (ρ := [some _,some _,some _,none,none,none]) rfl ?_
 unfold kM;walk_at "st";refine ⟨by rw [GU];lia,fun p1 U => ?_⟩
 have g1:=Ge.new (o := .lst [.int 0]) U;refine ⟨_,ad,by lia,by lia,by rw [GU];simp;lia,fun p2 B => ?_⟩
 have g2:=g1.trans (Ge.new (o := .lst (Hm (L:Int).toNat [D.int 0]).flatten) B);have G:M p2=none:=by
  cases hq:M p2 with
  | none=>rfl
  | some o=>rw [g1 _ _ hq] at B;cases B
 have e2:ag (ag M p1 (.lst [.int 0])) p2 (.lst (Hm (L:Int).toNat [D.int 0]).flatten) p2=some (.lst ((mvl [] L).map .int)):=by
  rw [ad,EF,Be];simp
 generalize ag (ag M p1 (.lst [.int 0])) p2 (.lst (Hm (L:Int).toNat [D.int 0]).flatten)=M2 at g2 e2 ⊢;walk_at "st";refine ⟨_,af (g2 _ _ ep), ?_⟩;rw [wn];refine aP (f:=fun q:Int×Nat=>D.tup [.int q.1, .int (q.2:Nat)]) (ys:=xs.zip ps) (I:=fun l ρ M' => ∃ Y Z, ρ = [some (.tup (xs.map .int)),some (.ref pp),some (.int L),some (.ref p2),Y,Z]/\Ge M M'/\M' p2=some (.lst ((mvl l L).map .int))) rfl ⟨_,_,rfl,g2,e2⟩ (fun _ _ _ ⟨_,_,_,g,_⟩=>by first | exact af (g _ _ ep) | exact ⟨rfl,af (g _ _ ep)⟩) ?_ ?_
 ·rintro l z r ρ M3 e ⟨Y,Z,rfl,g3,J⟩;refine ⟨_,rfl,fun F hF => ?_⟩;have hz:z.2 < L:=O z.2 (Mq (show (z.1,z.2)∈xs.zip ps by rw [e];simp)).2
  rw [bT];walk_at "wp";refine ⟨p2,_,_, .int ((l.map fun q=>if q.2=z.2 then q.1 else 0).sum),rfl,rfl,J, ?_, ?_⟩
  ·refine eY ?_;rw [HB,kL hz];rfl
  walk_at "wp";refine bU J (j:=z.2) ?_ ?_
  ·unfold ixN;rw [D2,i7,if_pos (by lia),if_pos (by lia)];simp
  refine hF _ _ ⟨_,_,rfl,g3.upd G, ?_⟩;rw [ad, <- Bf hz,List.map_set]
 ·rintro ρ M3 ⟨Y,Z,rfl,g3,J⟩;dsimp only;walk_at "st";exact ⟨_,_,rfl,af J,q _ g3⟩
noncomputable def mvP (P0 P1 P2:List Nat) (L0 L1 L2:Nat) (u:Pr):Pr:=(mv u.1 P0 L0,mv u.2.1 P1 L1,mv u.2.2 P2 L2)
noncomputable def yJ (s:Stmt) (fm:Nat):FD:=⟨"products_moved",s,["products", "places", "lengths"],3,
 (.cons (.ret (.comp [none,(some 1),(some 2)] ["product", "places", "lengths"] (.last (.seq (.var 0)) (.name 0) .nil (.blt .tuple (.cons (.comp [none,none,none] ["part", "spots", "length"] (.last (.zip3 (.var 0) (.var 1) (.var 2)) (.tup (.cons (.name 0) (.cons (.name 1) (.cons (.name 2) .nil)))) .nil (.call fm (.cons (.var 0) (.cons (.var 1) (.cons (.var 2) .nil)))))) .nil)))))
 .nil)⟩
theorem mf {f fm:Nat} {s:Stmt} (hf:T[f]? = some (yJ s fm)) {n:Nat} (J:rp T (n - 1) fm) (hn : 1<=n) {us:List Pr} (hl:us.length<=100000) {j z B:List Nat} {L0 L1 L2:Nat} (h0:L0<=100000) (h1:L1<=100000) (h2:L2<=100000) (Z:∀ t∈j,t < L0) (b1:∀ t∈z,t < L1) (b2:∀ t∈B,t < L2) {pu pl G p1 p2:Addr} {M:Mem} {Q:QD} (eu:M pu=some (.lst (us.map prD))) (el:M pl=some (.lst [.ref G, .ref p1, .ref p2])) (e0:M G=some (.lst (nsD j))) (e1:M p1=some (.lst (nsD z))) (e2:M p2=some (.lst (nsD B)))
 (q:∀ p M',Ge M M'->M p=none->M' p=some (.lst ((us.map (mvP j z B L0 L1 L2)).map prD))->Q (.ref p) M'):phi T n f [.ref pu, .ref pl, .tup [.int L0, .int L1, .int L2]] M Q:=by
 refine au (by lia) hf rfl (ρ := [some _,some _,some _]) rfl ?_
 unfold yJ;walk_at "st";refine ⟨_,af eu, ?_⟩;refine ay (f:=prD) (ys:=us) (I:=fun l ρ M' acc=>(∃ o0, ρ = [o0,some (.ref pl),some (.tup [.int L0, .int L1, .int L2])])/\Ge M M'/\acc=(l.map (mvP j z B L0 L1 L2)).map prD) rfl ⟨⟨_,rfl⟩,Ge.refl,rfl⟩ (fun _ _ _ _ h=>af (h.2.1 _ _ eu)) ?_ ?_
 ·rintro l u r ρ M1 acc e ⟨⟨o0,rfl⟩,g1,rfl⟩;refine ⟨_,rfl,fun N' L => ?_⟩;have EJ:=am e;have el:=g1 _ _ el;walk_at "wp";refine ⟨_,rfl,rfl,_,af el, ?_⟩;refine ay (f:=fun w:List Int×(Addr×List Nat)×Nat=>D.tup [.tup (w.1.map .int), .ref w.2.1.1, .int (w.2.2:Nat)]) (ys := [(u.1,(G,j),L0),(u.2.1,(p1,z),L1),(u.2.2,(p2,B),L2)]) (I:=fun l' ρ M' acc=>(∃ o0 O U, ρ = [o0,O,U])/\Ge M M'/\acc=l'.map fun w=>D.tup ((mv w.1 w.2.1.2 w.2.2).map .int)) rfl ⟨⟨_,_,_,rfl⟩,g1,rfl⟩ (fun _ _ _ _ h=>by first | exact af (h.2.1 _ _ (by assumption)) | trivial) ?_ ?_
  ·rintro l' w r' ρ M2 acc e' ⟨⟨o0,O,U,rfl⟩,g2,rfl⟩;refine ⟨_,rfl,fun N'' F => ?_⟩;have Y:l'.length < 3:=am e';have hw:w.2.2<=100000/\(∀ t∈w.2.1.2,t < w.2.2)/\M2 w.2.1.1=some (.lst (nsD w.2.1.2)):=by
    have hm:w∈[(u.1,(G,j),L0),(u.2.1,(p1,z),L1),(u.2.2,(p2,B),L2)]:=by rw [e'];simp
    simp only [Ha,Ht,or_false] at hm
    rcases hm with rfl | rfl | rfl
    ·exact ⟨h0,Z,g2 _ _ e0⟩
    ·exact ⟨h1,b1,g2 _ _ e1⟩
    ·exact ⟨h2,b2,g2 _ _ e2⟩
   walk_at "wp";refine J hw.1 hw.2.1 hw.2.2 fun M3 g3 => ?_;exact ⟨by rw [D2,GU];lia,F _ _ _ ⟨⟨_,_,_,rfl⟩,g2.trans g3,by simp⟩⟩
  ·rintro ρ M2 acc ⟨⟨o0,O,U,rfl⟩,g2,rfl⟩ pt hpt;refine ⟨_,_,rfl,af ad, ?_⟩;exact ⟨by rw [D2,D2,GU];lia,L _ _ _ ⟨⟨_,rfl⟩,g2.trans (Ge.new hpt),by simp [prD,mvP]⟩⟩
 ·rintro ρ M1 acc ⟨⟨o0,rfl⟩,g1,rfl⟩ p hp;refine q p _ (g1.trans (Ge.new hp)) ?_ ad
  cases hq:M p with
  | none=>rfl
  | some o=>rw [g1 _ _ hq] at hp;cases hp
end
section
open PySem PySem.Spec PyProof.Rows L2.Srt
variable {T:List FD}
noncomputable def gD (s:Stmt) (ft fa:Nat):FD:=⟨"_law_dressed",s,["_law_box_here", "_law_lengths", "_law_products", "_law_most", "_law_found", "_law_l", "_law_r", "_law_o", "_law_way", "_law_turn", "_law_at", "_law_side", "_law_more", "_law_less", "_law_extra"],4,
 (.cons (.asg (.name 4) (.lst .nil))
 (.cons (.for (.tup (.cons (.name 5) (.cons (.name 6) (.cons (.name 7) .nil)))) (.seq (.var 2)) (.cons (.asg (.name 8) (.call ft (.cons (.var 0) (.cons (.int 6) .nil))))
 (.cons (.ite (.cmp .eq (.var 8) (.int 0)) (.cons (.par 5 7 (.call fa (.cons (.var 5) .nil)) (.call fa (.cons (.var 7) .nil)))
 .nil) .nil)
 (.cons (.ite (.cmp .eq (.var 8) (.int 1)) (.cons (.par 5 6 (.call fa (.cons (.var 5) .nil)) (.call fa (.cons (.var 6) .nil)))
 .nil) .nil)
 (.cons (.drop (.ins (.var 4) (.call ft (.cons (.var 0) (.cons (.bin .add (.blt .len (.cons (.var 4) .nil)) (.int 1)) .nil))) (.tup (.cons (.var 5) (.cons (.var 6) (.cons (.var 7) .nil))))))
 .nil)))))
 (.cons (.for (.name 9) (.rng1 (.call ft (.cons (.var 0) (.cons (.bin .add (.var 3) (.int 1)) .nil)))) (.cons (.asg (.name 10) (.call ft (.cons (.var 0) (.cons (.blt .len (.cons (.var 4) .nil)) .nil))))
 (.cons (.asg (.tup (.cons (.name 5) (.cons (.name 6) (.cons (.name 7) .nil)))) (.ix (.var 4) (.var 10)))
 (.cons (.asg (.name 11) (.call ft (.cons (.var 0) (.cons (.int 3) .nil))))
 (.cons (.asg (.name 12) (.blt .tuple (.cons (.comp [none,(some 0)] ["_law_number", "_law_box_here"] (.last (.seq (.ix (.ix (.var 4) (.var 10)) (.var 11))) (.name 0) .nil (.bin .sub (.call ft (.cons (.var 1) (.cons (.int 5) .nil))) (.int 2)))) .nil)))
 (.cons (.asg (.name 13) (.blt .tuple (.cons (.comp [none,none] ["_law_number", "_law_other"] (.last (.zip (.ix (.ix (.var 4) (.var 10)) (.var 11)) (.var 12)) (.tup (.cons (.name 0) (.cons (.name 1) .nil))) .nil (.bin .sub (.var 0) (.var 1)))) .nil)))
 (.cons (.put (.var 4) (.var 10) (.bin .add (.bin .add (.sl (.ix (.var 4) (.var 10)) .none (.some (.var 11))) (.tup (.cons (.var 13) .nil))) (.sl (.ix (.var 4) (.var 10)) (.some (.bin .add (.var 11) (.int 1))) .none)))
 (.cons (.asg (.name 14) (.bin .add (.bin .add (.sl (.tup (.cons (.var 5) (.cons (.var 6) (.cons (.var 7) .nil)))) .none (.some (.var 11))) (.tup (.cons (.var 12) .nil))) (.sl (.tup (.cons (.var 5) (.cons (.var 6) (.cons (.var 7) .nil)))) (.some (.bin .add (.var 11) (.int 1))) .none)))
 (.cons (.drop (.ins (.var 4) (.call ft (.cons (.var 0) (.cons (.bin .add (.blt .len (.cons (.var 4) .nil)) (.int 1)) .nil))) (.var 14)))
 .nil)))))))))
 (.cons (.ret (.bin .add (.blt .tuple (.cons (.var 1) .nil)) (.tup (.cons (.var 4) .nil))))
 .nil))))⟩
def rq (T:List FD) (n f:Nat):Prop := ∀ {l:List Int} {M:Mem} {Q:QD},l.length<=100000->(∀ M',Ge M M'->Q (.tup ((l.map (- ·)).map .int)) M')->phi T n f [.tup (l.map .int)] M Q
def Within (B:Int) (l:List Int):Prop := ∀ x∈l, -B<=x/\x<=B
structure Dr (B:Int) (L0 L1 L2:Nat) (p:Pr):Prop where
 l0:p.1.length=L0
 l1:p.2.1.length=L1
 l2:p.2.2.length=L2
 e0:Within B p.1
 e1:Within B p.2.1
 e2:Within B p.2.2
theorem Within.neg {B:Int} {l:List Int} (h:Within B l):Within B (l.map (- ·)):=fun x hx=>by
 obtain ⟨y,j,rfl⟩:=Hr.mp hx;have:=h y j;lia
theorem Within.mono {B B':Int} (j:B<=B') {l:List Int} (h:Within B l):Within B' l:=fun x hx=>by
 have:=h x hx;lia
theorem Dr.mono {B B':Int} (j:B<=B') {L0 L1 L2:Nat} {p:Pr} (h:Dr B L0 L1 L2 p):Dr B' L0 L1 L2 p:=⟨h.l0,h.l1,h.l2,h.e0.mono j,h.e1.mono j,h.e2.mono j⟩
theorem yK {a b:List Int} (h:a.length=b.length):(aN a b).length=a.length:=by simp [aN,h]
theorem Within.less {B:Int}:∀ {a b:List Int},Within B a->Within 2 b->Within (B+2) (aN a b)
 | [],_,_,_=>fun x hx=>by simp [aN] at hx
 | _::_,[],_,_=>fun x hx=>by simp [aN] at hx
 | x::a,y::b,q,F=>fun z j=>by
   rw [show aN (x::a) (y::b)=(x - y)::aN a b from rfl] at j
   rcases Ha.mp j with rfl | j
   ·have:=q x (by simp);have:=F y (by simp);lia
   ·exact Within.less (fun w hw=>q w (by simp [hw])) (fun w hw=>F w (by simp [hw])) z j
noncomputable def pAt (p:Pr):Nat->List Int | 0=>p.1 | 1=>p.2.1 | _=>p.2.2
noncomputable def cq (p:Pr) (m:List Int):Nat->Pr | 0=>(m,p.2.1,p.2.2) | 1=>(p.1,m,p.2.2) | _=>(p.1,p.2.1,m)
theorem D9 {p:Pr} {m:List Int} {s:Nat} {k i j:Int} (h:(pAt p s).length=m.length):tm (cq p (aN (pAt p s) m) s) k i j+tm (cq p m s) k i j=tm p k i j:=by
 match s with
 | 0=>exact Bb h
 | 1=>exact Bc h
 | _+2=>exact Bd h
theorem Dr.set {B:Int} {L0 L1 L2:Nat} {p:Pr} (h:Dr B L0 L1 L2 p) {m:List Int} {s:Nat} (j:m.length=(pAt p s).length) (hw:Within B m):Dr B L0 L1 L2 (cq p m s):=by
 match s with
 | 0=>exact ⟨j.trans h.l0,h.l1,h.l2,hw,h.e1,h.e2⟩
 | 1=>exact ⟨h.l0,j.trans h.l1,h.l2,h.e0,hw,h.e2⟩
 | _+2=>exact ⟨h.l0,h.l1,j.trans h.l2,h.e0,h.e1,hw⟩
theorem Dr.at {B:Int} {L0 L1 L2:Nat} {p:Pr} (h:Dr B L0 L1 L2 p) {s:Nat}:Within B (pAt p s):=by
 match s with
 | 0=>exact h.e0
 | 1=>exact h.e1
 | _+2=>exact h.e2
theorem Bg {ft n:Nat} (B:jR T n ft) {b:Addr} {M:Mem} {N:NC} (J:Box b M) {l:List Int} (j:l.length<=1000)
 (q:∀ (ns:List Int) ρ M',ns.length=l.length->Within 2 ns->Bx b M M'->N ρ M' (ns.map .int)) :
 bY (bw 0) (cz (wOp kn (wAr (phi T n ft) (aD (cy 1) (aD (wC (.int 5)) bq))) (wC (.int 2)))) (fun M=>aq M (.tup (l.map .int))=some (l.map .int)) N (l.map .int) [none,some (.ref b)] M []:=by
 refine ay (f:=D.int) (ys:=l) (I:=fun l ρ M' acc => ∃ ns:List Int,(∃ o, ρ = [o,some (.ref b)])/\acc=ns.map .int/\ns.length=l.length/\Within 2 ns/\Bx b M M') rfl ⟨[],⟨_,rfl⟩,rfl,rfl,fun _ h=>by simp at h,Bx.refl J⟩ (fun _ _ _ _ _=>rfl) ?_ ?_
 ·rintro l i r ρ M1 acc e ⟨ns,⟨o,rfl⟩,rfl,j,F,z⟩;refine ⟨_,rfl,fun N' G => ?_⟩;have L:=am e;walk_at "wp";refine B z.box (by lia) (by lia) fun v M2 v0 v1 O => ?_
  walk_at "wp";refine ⟨by rw [D2,GU];lia,G _ _ _ ⟨ns++[v - 2],⟨_,rfl⟩,by simp,by simp [j],fun y U => ?_,z.trans O⟩⟩
  rcases Hj.mp U with h | h
  ·exact F y h
  ·simp at h;subst h;lia
 ·rintro ρ M1 acc ⟨ns,⟨o,rfl⟩,rfl,j,F,z⟩;exact q ns _ M1 j F z
theorem Bh {M:Mem} {N:NC} {a b:List Int} (J:a.length<=1000) {chk:Mem->Prop} (G:chk M)
 (q:∀ ρ,N ρ M ((aN a b).map .int)) :
 bY (ky (bE (bw 0) (bE (bw 1) fD))) (cz (wOp kn (cy 0) (cy 1))) chk N (JT fF (a.map .int) (b.map .int)) [none,none] M []:=by
 have ez:JT fF (a.map D.int) (b.map D.int)=(a.zip b).map fun z=>D.tup [.int z.1, .int z.2]:=by
  rw [List.zipWith_map,List.zip,Qp];rfl
 refine ay (f:=fun z:Int×Int=>D.tup [.int z.1, .int z.2]) (ys:=a.zip b) (I:=fun l ρ M' acc=>(∃ o0 j, ρ = [o0,j])/\M'=M/\acc=(l.map fun z=>z.1 - z.2).map .int) ez ⟨⟨_,_,rfl⟩,rfl,rfl⟩ (fun _ _ _ _ h=>by rw [h.2.1];exact G) ?_ ?_
 ·rintro l z r ρ M1 acc e ⟨⟨o0,j,rfl⟩,rfl,rfl⟩;refine ⟨_,rfl,fun N' B => ?_⟩;have F:=am e;rw [QG] at F;walk_at "wp";exact ⟨by rw [D2,D2,GU];lia,B _ _ _ ⟨⟨_,_,rfl⟩,rfl,by simp⟩⟩
 ·rintro ρ M1 acc ⟨⟨o0,j,rfl⟩,rfl,rfl⟩;have:(a.zip b).map (fun z=>z.1 - z.2)=aN a b:=by rw [List.zip,Qp];rfl
  rw [this];exact q _
theorem wo {p:Pr} {s:Nat} (h:s < 3):atI [D.tup (p.1.map .int), .tup (p.2.1.map .int), .tup (p.2.2.map .int)] (s:Nat)=some (.tup ((pAt p s).map .int)):=by
 match s,h with
 | 0,_=>rfl
 | 1,_=>rfl
 | 2,_=>rfl
noncomputable def pts (p:Pr):List D := [.tup (p.1.map .int), .tup (p.2.1.map .int), .tup (p.2.2.map .int)]
theorem rA {p:Pr} {s:Nat} (h:s < 3) {M:Mem} {Q:QD} (q:Q (.tup ((pts p).take s)) M):dP (prD p) none (some ((s:Nat):Int)) M Q:=by
 match s,h with
 | 0,_=>exact q
 | 1,_=>exact q
 | 2,_=>exact q
theorem rB {p:Pr} {s:Nat} (h:s < 3) {M:Mem} {Q:QD} (q:Q (.tup ((pts p).drop (s+1))) M):dP (prD p) (some (((s:Nat):Int)+1)) none M Q:=by
 match s,h with
 | 0,_=>exact q
 | 1,_=>exact q
 | 2,_=>exact q
theorem rC {p:Pr} {m:List Int} {s:Nat} (h:s < 3):D.tup ((pts p).take s++[.tup (m.map .int)]++(pts p).drop (s+1))=prD (cq p m s):=by
 match s,h with
 | 0,_=>rfl
 | 1,_=>rfl
 | 2,_=>rfl
theorem i8 {p:Pr}:(pts p).length=3:=rfl
theorem tN {f ft fa:Nat} {s:Stmt} (hf:T[f]? = some (gD s ft fa)) {n:Nat} (Y:jR T (n - 1) ft) (EM:rq T (n - 1) fa) (hn : 1<=n) {b:Addr} {L0 L1 L2 most:Nat} {B:Int} (hB : 1<=B/\B<=100) (h0:L0<=100) (h1:L1<=100) (h2:L2<=100) (hm:most<=20) {ps:List Pr} (F7:∀ p∈ps,Dr B L0 L1 L2 p) (EY:ps≠[]) (hl:ps.length<=10000) {y0 y1 y2:D} {pp:Addr} {M:Mem} {Q:QD} (hb:Box b M) (EZ:pp≠b) (ep:M pp=some (.lst (ps.map prD)))
 (q:∀ (qs:List Pr) pf M',(∀ p∈qs,Dr (B+2*most) L0 L1 L2 p)->qs.length<=ps.length+most->qs≠[]->(∀ k i j,Tn qs k i j=Tn ps k i j)->Bx b M M'->M pf=none->pf≠b->M' pf=some (.lst (qs.map prD))->Q (.tup [y0,y1,y2, .ref pf]) M') :
 phi T n f [.ref b, .tup [y0,y1,y2], .ref pp, .int most] M Q:=by
 refine au (by lia) hf rfl (ρ := [some _,some _,some _,some _,none,none,none,none,none,none,none,none,none,none,none]) rfl ?_
 unfold gD;walk_at "st";refine ⟨by rw [GU];lia,fun pf Z => ?_⟩
 have G:pf≠b:=fun w=>by obtain ⟨_,_,_,e⟩:=hb;rw [<- w,Z] at e;cases e
 have x1:=Bx.of hb (Ge.new (o := .lst []) Z);have e1:=ad (M:=M) (a:=pf) (o := .lst []);generalize ag M pf (.lst [])=M1 at x1 e1 ⊢;walk_at "st";refine ⟨_,af (x1.keep _ _ EZ ep), ?_⟩;refine aP (f:=prD) (ys:=ps) (I:=fun l ρ M' => ∃ qs o5 o6 o7 o8, ρ = [some (.ref b),some (.tup [y0,y1,y2]),some (.ref pp),some (.int most),some (.ref pf),o5,o6,o7,o8,none,none,none,none,none,none]/\Bx b M M'/\M' pf=some (.lst (qs.map prD))/\qs.length=l.length/\(∀ p∈qs,Dr B L0 L1 L2 p) /\ ∀ k i j,Tn qs k i j=Tn l k i j) rfl ⟨[],_,_,_,_,rfl,x1,e1,rfl,fun _ h=>by simp at h,fun _ _ _=>rfl⟩ (fun _ _ _ ⟨_,_,_,_,_,_,h,_⟩=>af (h.keep _ _ EZ ep)) ?_ ?_
 ·rintro l p r ρ M2 e ⟨qs,o5,o6,o7,o8,rfl,x2,e2,EJ,L,hT⟩;refine ⟨_,rfl,fun F hF => ?_⟩;have U:=F7 p (by rw [e];simp)
  have F1:=am e;walk_at "st";refine Y x2.box (by decide) (by decide) fun v M3 v0 v1 x3 => ?_
  have e3:=x3.keep pf _ G e2;have x3:=x2.trans x3;clear e2 x2;refine cn (fun ρ M' => ∃ l' r' o', ρ = [some (.ref b),some (.tup [y0,y1,y2]),some (.ref pp),some (.int most),some (.ref pf),some (.tup (l'.map .int)),some (.tup (r'.map .int)),some (.tup (o'.map .int)),some (.int v),none,none,none,none,none,none]/\Bx b M M'/\M' pf=some (.lst (qs.map prD))/\Dr B L0 L1 L2 (l',r',o') /\ ∀ k i j,tm (l',r',o') k i j=tm p k i j) (fun R hR => ?_) ?_
  ·walk_at "wp"
   by_cases hv:v=0
   ·rw [if_pos (by simp [hv])]
    walk_at "st";refine EM (by have:=U.l0;lia) fun M4 g4=>EM (by have:=U.l2;lia) fun M5 g5=>hR _ _ ⟨_,_,_,rfl,x3.ge (g4.trans g5),(g4.trans g5) _ _ e3,⟨by rw [D2];exact U.l0,U.l1,by rw [D2];exact U.l2,U.e0.neg,U.e1,U.e2.neg⟩,fun k i j=>E8⟩
   ·rw [if_neg (by simp [hv])]
    exact hR _ _ ⟨_,_,_,rfl,x3,e3,U,fun _ _ _=>rfl⟩
  rintro ρ M4 ⟨l',r',o',rfl,x4,e4,J,ht⟩;refine cn (fun ρ M' => ∃ l' r' o', ρ = [some (.ref b),some (.tup [y0,y1,y2]),some (.ref pp),some (.int most),some (.ref pf),some (.tup (l'.map .int)),some (.tup (r'.map .int)),some (.tup (o'.map .int)),some (.int v),none,none,none,none,none,none]/\Bx b M M'/\M' pf=some (.lst (qs.map prD))/\Dr B L0 L1 L2 (l',r',o') /\ ∀ k i j,tm (l',r',o') k i j=tm p k i j) (fun R hR => ?_) ?_
  ·walk_at "wp"
   by_cases hv:v=1
   ·rw [if_pos (by simp [hv])]
    walk_at "st";refine EM (by have:=J.l0;dsimp only at this;lia) fun M5 g5=>EM (by have:=J.l1;dsimp only at this;lia) fun M6 g6=>hR _ _ ⟨_,_,_,rfl,x4.ge (g5.trans g6),(g5.trans g6) _ _ e4,⟨by rw [D2];exact J.l0,by rw [D2];exact J.l1,J.l2,J.e0.neg,J.e1.neg,J.e2⟩,fun k i j=>tm_lr.trans (ht k i j)⟩
   ·rw [if_neg (by simp [hv])]
    exact hR _ _ ⟨_,_,_,rfl,x4,e4,J,ht⟩
  clear x3 e3 x4 e4 J ht;rintro ρ M5 ⟨l',r',o',rfl,x5,e5,J,ht⟩;walk_at "st";refine ⟨⟨_,e5⟩,kF e5 ?_⟩;walk_at "wp";rw [D2];refine Y x5.box (by lia) (by lia) fun w M6 w0 w1 x6 => ?_
  have e6:=x6.keep pf _ G e5;have x6:=x5.trans x6;refine ⟨by rw [GU];lia, ?_⟩
  refine ⟨_,_,_,_,rfl,rfl,e6,w0,by rw [D2];lia,by rw [D2,GU];lia, ?_⟩
  refine hF _ _ ⟨qs.take w.toNat++(l',r',o')::qs.drop w.toNat,_,_,_,_,rfl,x6.upd Z G, ?_, ?_, ?_, ?_⟩
  ·rw [ad,IB,Hs,List.map_take,List.map_drop];rfl
  ·rw [GR,HR,Hq,J0,GR,HF];lia
  ·intro y hy
   rcases Hj.mp hy with h | h
   ·exact L y (JV h)
   ·rcases Ha.mp h with rfl | h
    ·exact J
    ·exact L y (JU h)
  ·intro k i j;rw [wk,hT,ht,eJ,eK];simp [Tn]
 ·rintro ρ M2 ⟨qs,o5,o6,o7,o8,rfl,x2,e2,EJ,L,hT⟩;dsimp only;walk_at "st";refine Y x2.box (by lia) (by lia) fun v M3 v0 v1 x3 => ?_
  have e3:=x3.keep pf _ G e2;have x3:=x2.trans x3;clear e1 x1 e2 x2;refine ⟨_,rfl,by lia,by lia, ?_⟩
  refine aP (f:=fun i=>D.int (i:Nat)) (ys:=Hi v.toNat) (I:=fun l ρ M' => ∃ qs o5 o6 o7 o8 o9 EQ ER ES ET EU, ρ = [some (.ref b),some (.tup [y0,y1,y2]),some (.ref pp),some (.int most),some (.ref pf),o5,o6,o7,o8,o9,EQ,ER,ES,ET,EU]/\Bx b M M'/\M' pf=some (.lst (qs.map prD))/\qs.length=ps.length+l.length/\(∀ p∈qs,Dr (B+2*l.length) L0 L1 L2 p) /\ ∀ k i j,Tn qs k i j=Tn ps k i j) aE ⟨qs,_,_,_,_,_,_,_,_,_,_,rfl,x3,e3,EJ,fun p U=>(L p U).mono (by simp),hT⟩ (fun _ _ _ _=>trivial) ?_ ?_
  ·rintro l t r ρ M4 e ⟨qs,o5,o6,o7,o8,o9,EQ,ER,ES,ET,EU,rfl,x4,e4,EJ,L,hT⟩;refine ⟨_,rfl,fun F hF => ?_⟩;have F1:=am e;rw [HC] at F1;have Fc : 1<=ps.length:=by
    cases ps with
    | nil=>exact absurd rfl EY
    | cons _ _=>simp
   walk_at "st";refine kF e4 ?_;rw [D2];refine Y x4.box (by lia) (by lia) fun a M5 a0 a1 x5 => ?_
   have e5:=x5.keep pf _ G e4;have x5:=x4.trans x5;clear e4 x4;obtain ⟨a,rfl⟩:∃ k:Nat,a=k:=⟨a.toNat,by lia⟩
   obtain ⟨p,U⟩:∃ p,qs[a]? = some p:=⟨_,D1 (by lia)⟩
   have F8:=Hy U;have hd:=L p F8;have EK:atI (qs.map prD) ((a:Nat):Int)=some (prD p):=eY (by rw [HB,U];rfl)
   walk_at "st";refine aT e5 EK ?_;refine ⟨_,rfl, ?_⟩;walk_at "st";refine Y x5.box (by decide) (by decide) fun c M6 c0 c1 x6 => ?_
   have e6:=x6.keep pf _ G e5;have x6:=x5.trans x6;clear e5 x5;obtain ⟨c,rfl⟩:∃ k:Nat,c=k:=⟨c.toNat,by lia⟩
   have O:c < 3:=by lia
   have F4:(pAt p c).length<=1000:=by
    have:=hd.l0;have:=hd.l1;have:=hd.l2
    match c,O with
    | 0,_=>show p.1.length<=_;lia
    | 1,_=>show p.2.1.length<=_;lia
    | 2,_=>show p.2.2.length<=_;lia
   walk_at "st";refine aT e6 EK ?_;refine ⟨_,_,rfl,wo O,_,rfl, ?_⟩;refine Bg Y x6.box F4 fun m ρ M7 EV F5 x7 p7 hp7 => ?_;have e7:=x7.keep pf _ G e6;have x7:=x6.trans x7;refine ⟨_,_,rfl,af ad, ?_⟩;have g8:=Ge.new (o := .lst (m.map .int)) hp7;have e8:=g8 _ _ e7;have x8:=x7.ge g8;generalize ag M7 p7 (.lst (m.map .int))=M8 at g8 e8 x8 ⊢;clear e6 x6 e7 x7 g8 hp7;walk_at "st";refine aT e8 EK ?_;refine ⟨_,_,rfl,wo O,_,rfl, ?_⟩;refine Bh F4 rfl fun ρ p9 hp9 => ?_;refine ⟨_,_,rfl,af ad, ?_⟩;have g9:=Ge.new (o := .lst ((aN (pAt p c) m).map .int)) hp9;have e9:=g9 _ _ e8;have x9:=x8.ge g9;generalize ag M8 p9 (.lst ((aN (pAt p c) m).map .int))=M9 at g9 e9 x9 ⊢;clear e8 x8 g9 hp9;walk_at "st";refine aT e9 EK ?_;refine rA O ⟨by rw [GU];lia, .inr trivial,by rw [GU,Hq,i8,HF];lia, ?_⟩
   refine aT e9 EK ?_;refine rB O ⟨.inr trivial,by rw [GU,GR,Hq,J0,i8,HF];lia, ?_⟩
   rw [rC O];refine bU e9 (j:=a) (by rw [D2];unfold ixN;rw [if_pos (by lia),if_pos (by lia),HJ]) ?_
   have EW:Bx b M (ag M9 pf (.lst ((qs.map prD).set a (prD (cq p (aN (pAt p c) m) c))))):=x9.upd Z G;have EL:ag M9 pf (.lst ((qs.map prD).set a (prD (cq p (aN (pAt p c) m) c)))) pf=some (.lst ((qs.set a (cq p (aN (pAt p c) m) c)).map prD)):=by rw [ad,List.map_set]
   generalize ag M9 pf (.lst ((qs.map prD).set a (prD (cq p (aN (pAt p c) m) c))))=M10 at EW EL ⊢;clear e9 x9;have F6:∀ k i j,Tn (qs.set a (cq p (aN (pAt p c) m) c)) k i j+tm (cq p m c) k i j=Tn ps k i j:=fun k i j=>by
    have h1:=D9 (p:=p) (m:=m) (s:=c) (k:=k) (i:=i) (j:=j) EV.symm;rw [wm U,hT, <- h1];lia
   have EX:∀ y∈qs.set a (cq p (aN (pAt p c) m) c),Dr (B+2*(l++[t]).length) L0 L1 L2 y:=fun y hy=>by
    have EN:B+2*l.length<=B+2*(l++[t]).length:=by rw [GR,HF];lia
    rcases List.mem_or_eq_of_mem_set hy with h | h
    ·exact (L y h).mono EN
    ·rw [h];refine (hd.mono EN).set (yK EV.symm) ?_;have:=(hd.at (s:=c)).less F5;exact this.mono (by rw [GR,HF];lia)
   have F9:Dr (B+2*(l++[t]).length) L0 L1 L2 (cq p m c):=by
    have EN:B+2*l.length<=B+2*(l++[t]).length:=by rw [GR,HF];lia
    exact (hd.mono EN).set EV (F5.mono (by rw [GR,HF];lia))
   have Fa:(qs.set a (cq p (aN (pAt p c) m) c)).length=qs.length:=QC;generalize qs.set a (cq p (aN (pAt p c) m) c)=us at F6 EX Fa EL;walk_at "st";refine ⟨by rw [GU];lia, ?_⟩
   refine rA O ⟨by rw [GU];lia, .inr trivial,by rw [GU,Hq,i8,HF];lia, ?_⟩
   refine ⟨by rw [GU];lia, ?_⟩
   refine rB O ⟨.inr trivial,by rw [GU,GR,Hq,J0,i8,HF];lia, ?_⟩
   rw [rC O];walk_at "st";refine ⟨⟨_,EL⟩,kF EL ?_⟩;walk_at "wp";rw [D2];refine Y EW.box (by lia) (by lia) fun w Fd w0 w1 EO => ?_
   have Fb:=EO.keep pf _ G EL;have EO:=EW.trans EO;refine ⟨_,_,_,_,rfl,rfl,Fb,w0,by rw [D2];lia,by rw [D2,GU];lia, ?_⟩
   refine hF _ _ ⟨us.take w.toNat++cq p m c::us.drop w.toNat,_,_,_,_,_,_,_,_,_,_,rfl,EO.upd Z G, ?_, ?_, ?_, ?_⟩
   ·rw [ad,IB,Hs,List.map_take,List.map_drop]
   ·rw [GR,HR,Hq,J0,GR,HF];lia
   ·intro y hy
    rcases Hj.mp hy with h | h
    ·exact EX y (JV h)
    ·rcases Ha.mp h with rfl | h
     ·exact F9
     ·exact EX y (JU h)
   ·intro k i j;rw [wk,F6]
  ·rintro ρ M4 ⟨qs,o5,o6,o7,o8,o9,EQ,ER,ES,ET,EU,rfl,x4,e4,EJ,L,hT⟩;dsimp only;rw [HC] at EJ L;walk_at "st";refine ⟨_,_,rfl,rfl,by rw [GU];lia, .inr trivial,by rw [GU];simp, ?_⟩
   refine q qs pf M4 (fun p U=>(L p U).mono (by lia)) (by lia) (fun z => ?_) hT x4 Z G e4
   subst z
   cases ps with
   | nil=>exact EY rfl
   | cons _ _=>rw [Jd,HR] at EJ;lia
end
section
open PySem PySem.Spec PyProof.Rows L2.Srt
variable {T:List FD}
noncomputable def eL (s:Stmt):FD:=⟨"_law_lengths_of",s,["_law_sizes_here"],1,
 (.cons (.ret (.tup (.cons (.bin .mul (.ix (.var 0) (.int 0)) (.ix (.var 0) (.int 1))) (.cons (.bin .mul (.ix (.var 0) (.int 1)) (.ix (.var 0) (.int 2))) (.cons (.bin .mul (.ix (.var 0) (.int 0)) (.ix (.var 0) (.int 2))) .nil)))))
 .nil)⟩
theorem jV {f:Nat} {s:Stmt} (hf:T[f]? = some (eL s)) {n:Nat} (j : 1<=n) {x y z:Nat} (hx:x<=1000) (B:y<=1000) {M:Mem} {Q:QD} (q:Q (.tup [.int (x*y:Nat), .int (y*z:Nat), .int (x*z:Nat)]) M):phi T n f [.tup [.int x, .int y, .int z]] M Q:=by
 refine au (by lia) hf rfl (ρ := [some _]) rfl ?_
 unfold eL;walk_at "st";refine ⟨_,rfl,_,rfl,cm (by lia),_,rfl,_,rfl,cm (by lia),_,rfl,_,rfl,cm (by lia),by rw [GU];lia, ?_⟩
 rw [Jz,Jz,Jz] at q;exact q
noncomputable def i9 (s:Stmt):FD:=⟨"_law_seven",s,[],0,
 (.cons (.ret (.lst (.cons (.tup (.cons (.tup (.cons (.int 1) (.cons (.int 0) (.cons (.int 0) (.cons (.int 1) .nil))))) (.cons (.tup (.cons (.int 1) (.cons (.int 0) (.cons (.int 0) (.cons (.int 1) .nil))))) (.cons (.tup (.cons (.int 1) (.cons (.int 0) (.cons (.int 0) (.cons (.int 1) .nil))))) .nil)))) (.cons (.tup (.cons (.tup (.cons (.int 0) (.cons (.int 0) (.cons (.int 1) (.cons (.int 1) .nil))))) (.cons (.tup (.cons (.int 1) (.cons (.int 0) (.cons (.int 0) (.cons (.int 0) .nil))))) (.cons (.tup (.cons (.int 0) (.cons (.int 0) (.cons (.int 1) (.cons (.neg (.int 1)) .nil))))) .nil)))) (.cons (.tup (.cons (.tup (.cons (.int 1) (.cons (.int 0) (.cons (.int 0) (.cons (.int 0) .nil))))) (.cons (.tup (.cons (.int 0) (.cons (.int 1) (.cons (.int 0) (.cons (.neg (.int 1)) .nil))))) (.cons (.tup (.cons (.int 0) (.cons (.int 1) (.cons (.int 0) (.cons (.int 1) .nil))))) .nil)))) (.cons (.tup (.cons (.tup (.cons (.int 0) (.cons (.int 0) (.cons (.int 0) (.cons (.int 1) .nil))))) (.cons (.tup (.cons (.neg (.int 1)) (.cons (.int 0) (.cons (.int 1) (.cons (.int 0) .nil))))) (.cons (.tup (.cons (.int 1) (.cons (.int 0) (.cons (.int 1) (.cons (.int 0) .nil))))) .nil)))) (.cons (.tup (.cons (.tup (.cons (.int 1) (.cons (.int 1) (.cons (.int 0) (.cons (.int 0) .nil))))) (.cons (.tup (.cons (.int 0) (.cons (.int 0) (.cons (.int 0) (.cons (.int 1) .nil))))) (.cons (.tup (.cons (.neg (.int 1)) (.cons (.int 1) (.cons (.int 0) (.cons (.int 0) .nil))))) .nil)))) (.cons (.tup (.cons (.tup (.cons (.neg (.int 1)) (.cons (.int 0) (.cons (.int 1) (.cons (.int 0) .nil))))) (.cons (.tup (.cons (.int 1) (.cons (.int 1) (.cons (.int 0) (.cons (.int 0) .nil))))) (.cons (.tup (.cons (.int 0) (.cons (.int 0) (.cons (.int 0) (.cons (.int 1) .nil))))) .nil)))) (.cons (.tup (.cons (.tup (.cons (.int 0) (.cons (.int 1) (.cons (.int 0) (.cons (.neg (.int 1)) .nil))))) (.cons (.tup (.cons (.int 0) (.cons (.int 0) (.cons (.int 1) (.cons (.int 1) .nil))))) (.cons (.tup (.cons (.int 1) (.cons (.int 0) (.cons (.int 0) (.cons (.int 0) .nil))))) .nil)))) .nil)))))))))
 .nil)⟩
theorem wp {f:Nat} {s:Stmt} (hf:T[f]? = some (i9 s)) {n:Nat} (j : 1<=n) {M:Mem} {Q:QD} (q:∀ p,M p=none->Q (.ref p) (ag M p (.lst (seven.map prD)))):phi T n f [] M Q:=by
 refine au (by lia) hf rfl (ρ := []) rfl ?_
 unfold i9;have z : 0+1+1+1+1<=GX:=by rw [GU];lia
 have B : 0+1+1+1<=GX:=by rw [GU];lia
 have F : 0+1+1+1+1+1+1+1<=GX:=by rw [GU];lia
 walk_at "st"
 repeat refine ⟨by assumption, ?_⟩
 exact q
def rD (T:List FD) (k f:Nat):Prop := ∀ {n m p:Nat} {M:Mem} {Q:QD},n<=50->m<=50->p<=50->(∀ (L:List Tm) d M',L.Perm (be n m p)->Ge M M'->M d=none->M' d=some (.dct true (L.map kcD))->Q (.ref d) M')->phi T k f [.tup [.int n, .int m, .int p]] M Q
def mj (T:List FD) (n f:Nat):Prop := ∀ {b:Addr} {L0 L1 L2 most:Nat} {B:Int},(1<=B/\B<=100)->L0<=100->L1<=100->L2<=100->most<=20 -> ∀ {ps:List Pr},(∀ p∈ps,Dr B L0 L1 L2 p)->ps≠[]->ps.length<=10000 -> ∀ {y0 y1 y2:D} {pp:Addr} {M:Mem} {Q:QD},Box b M->pp≠b->M pp=some (.lst (ps.map prD)) ->
 (∀ (qs:List Pr) pf M',(∀ p∈qs,Dr (B+2*most) L0 L1 L2 p)->qs.length<=ps.length+most->qs≠[]->(∀ k i j,Tn qs k i j=Tn ps k i j)->Bx b M M'->M pf=none->pf≠b->M' pf=some (.lst (qs.map prD))->Q (.tup [y0,y1,y2, .ref pf]) M') ->
 phi T n f [.ref b, .tup [y0,y1,y2], .ref pp, .int most] M Q
def mn (T:List FD) (cap n f:Nat):Prop := ∀ {L0 L1 L2:Nat},L0<=1000->L1<=1000->L2<=1000 -> ∀ {L:List Tm},(L.map (·.1)).Nodup->L.length<=1000000->L.length<=cap -> ∀ {d:Addr} {M:Mem} {Q:QD},M d=some (.dct true (L.map kcD)) ->
 (∀ (rs:List Tm) p M',rs.Perm L->Ge M M'->M p=none->M' p=some (.lst ((rs.map (plP L0 L1 L2)).map prD))->Q (.ref p) M')->phi T n f [.tup [.int L0, .int L1, .int L2], .ref d] M Q
noncomputable def iU (s:Stmt) (ft fd fv fl fp fs:Nat):FD:=⟨"_law_tables",s,["_law_box_here", "_law_sizes_here", "_law_most", "_law_lengths"],3,
 (.cons (.ite (.and (.cons (.cmp .eq (.var 1) (.tup (.cons (.int 2) (.cons (.int 2) (.cons (.int 2) .nil))))) (.cons (.cmp .eq (.call ft (.cons (.var 0) (.cons (.int 2) .nil))) (.int 0)) .nil))) (.cons (.ret (.call fd (.cons (.var 0) (.cons (.tup (.cons (.int 4) (.cons (.int 4) (.cons (.int 4) .nil)))) (.cons (.call fv .nil) (.cons (.var 2) .nil))))))
 .nil) .nil)
 (.cons (.asg (.name 3) (.call fl (.cons (.var 1) .nil)))
 (.cons (.ret (.call fd (.cons (.var 0) (.cons (.var 3) (.cons (.call fp (.cons (.var 3) (.cons (.call fs (.cons (.var 1) .nil)) .nil))) (.cons (.var 2) .nil))))))
 .nil)))⟩
theorem yL:∀ p∈seven,Dr 1 4 4 4 p:=by
 intro p j;have h:∀ p∈seven,(p.1.length=4/\p.2.1.length=4/\p.2.2.length=4)/\(∀ x∈p.1, -1<=x/\x<=1)/\(∀ x∈p.2.1, -1<=x/\x<=1)/\(∀ x∈p.2.2, -1<=x/\x<=1):=by decide
 obtain ⟨⟨a,b,c⟩,d,e,g⟩:=h p j;exact ⟨a,b,c,d,e,g⟩
theorem pR {L:Nat} {k:Int}:Within 1 (one L k):=fun x hx=>by
 unfold one at hx;obtain ⟨h,_,rfl⟩:=Hr.mp hx
 split <;> lia
theorem fS {n m p:Nat}:(be n m p).length=n*(m*p):=by unfold be;rw [B6,HC]
theorem rE {n m p:Nat} {t:Tm} (h:t∈be n m p):(0<=t.1.1/\t.1.1 < (n*p:Nat))/\(0<=t.1.2.1/\t.1.2.1 < (n*m:Nat))/\(0<=t.1.2.2/\t.1.2.2 < (m*p:Nat)):=by
 obtain ⟨a,b,c,j,q,z,rfl⟩:=ff h;have h1:=et j z;have h2:=et j q;have B:=et q z;unfold bN;dsimp only;lia
theorem Da {L0 L1 L2:Nat} {t:Tm} (h:t.2=1):Dr 1 L0 L1 L2 (plP L0 L1 L2 t):=by
 refine ⟨i5,i5,by unfold plP;rw [D2];exact i5,pR,pR,fun x hx => ?_⟩
 unfold plP at hx;dsimp only at hx;rw [h] at hx;obtain ⟨y,j,rfl⟩:=Hr.mp hx;have:=pR y j;lia
theorem mq {cap f ft fd fv fl fp fs:Nat} {s sv sl:Stmt} (hf:T[f]? = some (iU s ft fd fv fl fp fs)) {n:Nat} (EK:jR T (n - 1) ft) (EJ:mj T (n - 1) fd) (EL:T[fv]? = some (i9 sv)) (EM:T[fl]? = some (eL sl)) (EN:mn T cap (n - 1) fp) (EO:rD T (n - 1) fs) (hn : 2<=n) {b:Addr} {x y z most:Nat} (hx : 1<=x/\x<=50) (hy : 1<=y/\y<=50) (hz : 1<=z/\z<=50) (h1:x*y<=100) (h2:y*z<=100) (h3:x*z<=100) (h4:x*(y*z)<=10000) (h5:x*(y*z)<=cap) (hm:most<=20) {M:Mem} {Q:QD} (hb:Box b M)
 (q:∀ (qs:List Pr) pf M',(∀ p∈qs,Dr (1+2*most) (x*y) (y*z) (x*z) p)->qs.length<=x*(y*z)+most->(∀ k i j,Tn qs k i j=cf (be x y z) (k,i,j))->Bx b M M'->M pf=none->pf≠b->M' pf=some (.lst (qs.map prD))->Q (.tup [.int (x*y:Nat), .int (y*z:Nat), .int (x*z:Nat), .ref pf]) M') :
 phi T n f [.ref b, .tup [.int x, .int y, .int z], .int most] M Q:=by
 have bne:∀ {M':Mem} {p:Addr},Box b M'->M' p=none->p≠b:=fun EQ Y w=>by obtain ⟨_,_,_,e⟩:=EQ;rw [<- w,Y] at e;cases e
 refine au (by lia) hf rfl (ρ := [some _,some _,some _,none]) rfl ?_
 unfold iU;refine cn (fun ρ M' => ρ = [some (.ref b),some (.tup [.int x, .int y, .int z]),some (.int most),none]/\Bx b M M') (fun R hR => ?_) ?_
 ·walk_at "wp";refine ⟨by rw [GU];lia, .tuple [.int x, .int y, .int z], .tuple [.int 2, .int 2, .int 2],rfl,rfl, ?_⟩
  refine ⟨_,rfl, ?_⟩
  by_cases h:x=2/\y=2/\z=2
  ·obtain ⟨rfl,rfl,rfl⟩:=h;rw [if_pos (by rfl)]
   refine EK hb (by decide) (by decide) fun v M1 _ _ Z => ?_
   walk_at "wp"
   by_cases hv:v=0
   ·rw [if_pos (by simp [hv])]
    walk_at "st";refine ⟨by rw [GU];lia, ?_⟩
    refine wp EL (by lia) fun p Y => ?_
    have g2:=Ge.new (o := .lst (seven.map prD)) Y;have e2:=ad (M:=M1) (a:=p) (o := .lst (seven.map prD));generalize ag M1 p (.lst (seven.map prD))=M2 at g2 e2 ⊢;have x2:=Z.ge g2;refine EJ (B := 1) (by lia) (by lia) (by lia) (by lia) hm yL (by simp [seven]) (by simp [seven]) x2.box (bne Z.box Y) e2 fun qs pf M3 hq J ER O x3 U F e3 => ?_
    refine q qs pf M3 hq (by simp [seven] at J;lia) (fun k i j => ?_) (x2.trans x3) (x2.none U F) F e3
    rw [O,yI]
   ·rw [if_neg (by simp [hv])]
    exact hR _ _ ⟨rfl,Z⟩
  ·rw [if_neg]
   ·exact hR _ _ ⟨rfl,Bx.refl hb⟩
   ·intro w;simp [IA,JJ] at w;exact h (by lia)
 ·rintro ρ M1 ⟨rfl,Z⟩;walk_at "st";refine jV EM (by lia) (by lia) (by lia) ?_
  walk_at "st";refine EO (by lia) (by lia) (by lia) fun L d M2 hL g2 hd e2 => ?_
  have ES:(L.map (·.1)).Nodup:=(hL.map _).nodup_iff.mpr cu;have hlen:=hL.length_eq;rw [fS] at hlen;refine EN (by lia) (by lia) (by lia) ES (by lia) (by lia) e2 fun rs p M3 ET g3 Y e3 => ?_
  have x3:=Z.ge (g2.trans g3);have EU:=bne (Z.ge g2).box Y;have G:=ET.trans hL;refine EJ (B := 1) (by lia) h1 h2 h3 hm (ps:=rs.map (plP (x*y) (y*z) (x*z))) ?_ ?_ ?_ x3.box EU e3 fun qs pf M4 hq J ER O x4 U F e4 => ?_
  ·intro u hu;obtain ⟨t,ht,rfl⟩:=Hr.mp hu;obtain ⟨a,b',c,_,_,_,rfl⟩:=ff (G.mem_iff.mp ht);exact Da rfl
  ·intro w;have:=congrArg KJ w;rw [D2,G.length_eq,fS,Jd] at this;have : 1*(1*1)<=x*(y*z):=I8 hx.1 (I8 hy.1 hz.1);lia
  ·rw [D2,G.length_eq,fS];lia
  ·refine q qs pf M4 hq (by rw [D2,G.length_eq,fS] at J;exact J) (fun k i j => ?_) (x3.trans x4) (x3.none U F) F e4
   rw [O,pO fun t ht=>rE (G.mem_iff.mp ht)];exact r6 G
end
section
open PySem PySem.Spec PyProof.Rows L2.Srt
theorem bA {a b m:Nat} (j:b < m):(a*m+b) % m=b:=by
 rw [Nat.add_comm,Nat.add_mul_mod_self_right,Nat.mod_eq_of_lt j]
theorem gE {F:Nat->Int} {n:Nat} {i:Nat} (h:i < n):gz ((Hi n).map F) (i:Nat)=F i:=by
 unfold gz;rw [if_neg (by lia),HJ,I0,HB,L5 h];rfl
theorem Db {a b:List Int} (j:a.length=b.length) (h:∀ i:Nat,i < a.length->gz a (i:Nat)=gz b (i:Nat)):a=b:=by
 refine Qe j fun i h1 h2 => ?_;have:=h i h1;unfold gz at this;rw [if_neg (by lia),if_neg (by lia),HJ,I0,I0,D1 h1,D1 h2] at this
 exact this
theorem tO {n m i:Nat} (h:i < n*m):∃ a b,a < n/\b < m/\i=a*m+b:=by
 have hm : 0 < m:=by
  rcases Nat.eq_zero_or_pos m with z | z
  ·rw [z] at h;simp at h
  ·exact z
 exact ⟨i / m,i % m,OQ (by rw [KP];exact h),Px _ hm,by rw [KP];exact (Nat.div_add_mod i m).symm⟩
theorem wq {n m p x x' y y' z z':Nat} (hx:x < n) (O:x' < n) (G:y < m) (U:y' < m) (J:z < p) (j:z' < p):cf (be n m p) (((x*p+z:Nat):Int),((x'*m+y:Nat):Int),((y'*p+z':Nat):Int))=if x=x'/\y=y'/\z=z' then 1 else 0:=by
 by_cases h:x=x'/\y=y'/\z=z'
 ·obtain ⟨rfl,rfl,rfl⟩:=h;rw [if_pos ⟨rfl,rfl,rfl⟩];have hm:bN m p x y z∈be n m p:=by
   unfold be eO;exact Jj.mpr ⟨x,HG.mpr hx,Jj.mpr ⟨y,HG.mpr G,HK (HG.mpr J)⟩⟩
  exact fe cu hm
 ·rw [if_neg h];refine fb fun t Y e=>h ?_;obtain ⟨a,b,c,Z,L,F,rfl⟩:=ff Y;unfold bN at e;have e1:=congrArg (fun q:K3=>q.1) e;have e2:=congrArg (fun q:K3=>q.2.1) e;have B:=congrArg (fun q:K3=>q.2.2) e;dsimp only at e1 e2 B;have e1:=Ri.inj e1;have e2:=Ri.inj e2;have B:=Ri.inj B;have a1:a=x:=by rw [<- bj (a:=a) F,e1,bj J]
  have a2:c=z:=by rw [<- bA (a:=a) F,e1,bA J]
  have a3:a=x':=by rw [<- bj (a:=a) L,e2,bj G]
  have a4:b=y:=by rw [<- bA (a:=a) L,e2,bA G]
  have a5:b=y':=by rw [<- bj (a:=b) F,B,bj j]
  have a6:c=z':=by rw [<- bA (a:=b) F,B,bA j]
  lia
theorem tP {n m p:Nat} {k i j:Int} (h : ¬ ((0<=k/\k < (n*p:Nat))/\(0<=i/\i < (n*m:Nat))/\(0<=j/\j < (m*p:Nat)))):cf (be n m p) (k,i,j)=0:=fb fun t q e=>h (by
 have:=rE q;rw [e] at this;exact this)
theorem wt {F:Pr->Pr} {k i j k' i' j':Int} (h:∀ u,tm (F u) k i j=tm u k' i' j'):∀ {us:List Pr},Tn (us.map F) k i j=Tn us k' i' j'
 | [] => rfl
 | u::us=>by rw [Hs,eK,eK,h,wt h]
end
section
open PySem PySem.Spec PyProof.Rows L2.Srt
variable {T:List FD}
theorem jW {α β:Type} {f g : α -> List β} {l:List α} (h:∀ x∈l,f x=g x):l.flatMap f=l.flatMap g:=by
 rw [Qq,Qq,HY h]
theorem iV {i0:Nat} {f:Nat->Int} {p:Nat->Prop} [DecidablePred p]:∀ {n:Nat},(∀ i,i < n->(p i↔i=i0))->((Hi n).map fun i=>if p i then f i else 0).sum=if i0 < n then f i0 else 0
 | 0,_=>by simp
 | n+1,h=>by
   rw [QK,IB,QL,iV (n:=n) fun i hi=>h i (by lia)]
   have j:=h n (by lia)
   by_cases e:n=i0
   ·have q:=j.mpr e;subst e;rw [if_neg (by lia),if_pos (by lia)];simp [q]
   ·have : ¬ p n:=fun z=>e (j.mp z)
    by_cases g:i0 < n
    ·rw [if_pos g,if_pos (by lia)];simp [this]
    ·rw [if_neg g,if_neg (by lia)];simp [this]
theorem Dc {α β:Type} {f:Nat -> α} {g:Nat -> β} {l:List Nat}:(l.map f).zip (l.map g)=l.map fun i=>(f i,g i):=by
 induction l with
 | nil=>rfl
 | cons x l ih=>simp [ih]
theorem Bi {t n m:Nat} (h:t < n*m):t / m < n:=OQ (by rw [KP];exact h)
def Ln (n m p:Nat) (u:Pr):Prop:=u.1.length=n*m/\u.2.1.length=m*p/\u.2.2.length=n*p
end
section
open PySem PySem.Spec PyProof.Rows L2.Srt
variable {T:List FD}
noncomputable def tp (R C t f W:Nat):List Nat:=(Hi R).flatMap fun a=>(Hi C).map fun b=>(t+a)*W+(f+b)
theorem Dd {R C t f W:Nat}:tp R C t f W=(Hi (R*C)).map fun i=>(t+i / C)*W+(f+i % C):=by
 rw [m9];unfold tp;refine jW fun a _=>HY fun b j => ?_;rw [bj (HG.mp j),bA (HG.mp j)]
theorem ic {R C t f H W:Nat} (h1:t+R<=H) (h2:f+C<=W):∀ x∈tp R C t f W,x < H*W:=by
 intro x hx;unfold tp at hx;simp only [Jj,Hr,HG] at hx;obtain ⟨a,j,b,q,rfl⟩:=hx;exact et (show t+a < H by lia) (show f+b < W by lia)
noncomputable def dv (l:List Int) (R C t f r c:Nat):Int:=if (t<=r/\r < t+R)/\(f<=c/\c < f+C) then gz l (((r - t)*C+(c - f):Nat):Int) else 0
noncomputable def dl (l:List Int) (R C H W t f:Nat):List Int:=(Hi H).flatMap fun r=>(Hi W).map fun c=>dv l R C t f r c
theorem pS {l:List Int} {R C H W t f:Nat}:dl l R C H W t f=(Hi (H*W)).map fun x=>dv l R C t f (x / W) (x % W):=by
 rw [m9];unfold dl;refine jW fun a _=>HY fun b j => ?_;rw [bj (HG.mp j),bA (HG.mp j)]
theorem pT {l:List Int} {R C H W t f:Nat}:(dl l R C H W t f).length=H*W:=by rw [pS];simp
theorem ie {l:List Int} {R C H W t f r c:Nat} (q:r < H) (j:c < W):gz (dl l R C H W t f) ((r*W+c:Nat):Int)=dv l R C t f r c:=by
 rw [pS,gE (et q j),bj j,bA j]
theorem rF {l:List Int} {n:Nat} (h:l.length=n):l=(Hi n).map fun i=>gz l (i:Nat):=by
 refine Db (by simp [h]) fun i hi => ?_
 rw [gE (by lia)]
theorem tQ {l:List Int} {R C H W t f:Nat} (j:l.length=R*C) (q : 1<=C) (h1:t+R<=H) (h2:f+C<=W):mv l (tp R C t f W) (H*W)=dl l R C H W t f:=by
 have F : 1<=W:=by lia
 unfold mv mvl;rw [rF j,Dd,Dc, <- rF j,pS];refine HY fun x hx => ?_;have hx:=HG.mp hx;rw [IF];have cW:x % W < W:=Px _ F;show ((Hi (R*C)).map fun i=>if (t+i / C)*W+(f+i % C)=x then gz l (i:Nat) else 0).sum=_
 have key:∀ i,i < R*C->((t+i / C)*W+(f+i % C)=x↔t+i / C=x / W/\f+i % C=x % W):=fun i hi=>by
  have B:f+i % C < W:=by have:=Px i q;lia
  constructor
  ·rintro rfl;rw [bj B,bA B];exact ⟨rfl,rfl⟩
  ·rintro ⟨a,b⟩;rw [a,b,Qr]
 unfold dv
 by_cases hin:(t<=x / W/\x / W < t+R)/\(f<=x % W/\x % W < f+C)
 ·have a1:x / W - t < R:=by lia
  have a2:x % W - f < C:=by lia
  rw [if_pos hin,iV (i0:=(x / W - t)*C+(x % W - f)) (f:=fun i=>gz l (i:Nat)),if_pos (et a1 a2)];intro i hi;rw [key i hi];constructor
  ·rintro ⟨a,b⟩;rw [<- a, <- b,NQ,NQ,Qr]
  ·rintro rfl;rw [bj a2,bA a2];lia
 ·rw [if_neg hin,iV (i0:=R*C) (f:=fun i=>gz l (i:Nat)),if_neg (by lia)]
  intro i hi;rw [key i hi];have:=Bi hi;have:=Px i q;constructor
  ·rintro ⟨a,b⟩;exact absurd (by lia) hin
  ·intro z;lia
noncomputable def dlP (n m p x y z a b c:Nat) (u:Pr):Pr:=(dl u.1 n m x y a b,dl u.2.1 m p y z b c,dl u.2.2 n p x z a c)
theorem jX {n m p x y z a b c:Nat} {u:Pr}:Ln x y z (dlP n m p x y z a b c u):=⟨pT,pT,pT⟩
theorem wu {n m p x y z a b c:Nat} (h1 : 1<=m/\1<=p) (hx:a+n<=x) (j:b+m<=y) (q:c+p<=z) {us:List Pr} (B:∀ u∈us,Ln n m p u) :
 us.map (mvP (tp n m a b y) (tp m p b c z) (tp n p a c z) (x*y) (y*z) (x*z))=us.map (dlP n m p x y z a b c):=by
 refine HY fun u h => ?_;obtain ⟨F,a1,a2⟩:=B u h;unfold mvP dlP;rw [tQ F h1.1 hx j,tQ a1 h1.2 j q,tQ a2 h1.2 hx q]
theorem zC {n m p x y z a b c:Nat} {us:List Pr} (hu:∀ k i j,Tn us k i j=cf (be n m p) (k,i,j)) {q B G F J L:Nat} (h1:q < x) (h2:B < z) (Y:G < x) (Z:F < y) (h5:J < y) (h6:L < z) :
 Tn (us.map (dlP n m p x y z a b c)) ((q*z+B:Nat):Int) ((G*y+F:Nat):Int) ((J*z+L:Nat):Int)=if (q=G/\F=J/\B=L)/\(a<=q/\q < a+n)/\(b<=F/\F < b+m)/\(c<=B/\B < c+p) then 1 else 0:=by
 by_cases hin:((a<=G/\G < a+n)/\(b<=F/\F < b+m))/\((b<=J/\J < b+m)/\(c<=L/\L < c+p))/\((a<=q/\q < a+n)/\(c<=B/\B < c+p))
 ·obtain ⟨O,U,i3⟩:=hin;rw [wt (k':=(((q - a)*p+(B - c):Nat):Int)) (i':=(((G - a)*m+(F - b):Nat):Int)) (j':=(((J - b)*p+(L - c):Nat):Int)),hu]
  ·rw [wq (by lia) (by lia) (by lia) (by lia) (by lia) (by lia)]
   by_cases e:q=G/\F=J/\B=L
   ·rw [if_pos (by lia),if_pos ⟨e,i3.1,O.2,i3.2⟩]
   ·rw [if_neg (by lia),if_neg (fun z=>e z.1)]
  ·intro u;unfold tm dlP;dsimp only;rw [ie Y Z,ie h5 h6,ie h1 h2];unfold dv;rw [if_pos O,if_pos U,if_pos i3]
 ·rw [if_neg (fun w=>by obtain ⟨⟨rfl,rfl,rfl⟩,w1,w2,w3⟩:=w;exact hin ⟨⟨w1,w2⟩,⟨w2,w3⟩,w1,w3⟩)]
  have:∀ {us:List Pr},Tn (us.map (dlP n m p x y z a b c)) ((q*z+B:Nat):Int) ((G*y+F:Nat):Int) ((J*z+L:Nat):Int)=0:=by
   intro us
   induction us with
   | nil=>simp [Tn]
   | cons u us ih =>
     rw [Hs,i4,ih];unfold dlP;dsimp only;rw [ie Y Z,ie h5 h6,ie h1 h2];unfold dv
     by_cases O:(a<=G/\G < a+n)/\(b<=F/\F < b+m)
     ·by_cases U:(b<=J/\J < b+m)/\(c<=L/\L < c+p)
      ·rw [if_neg (c:=(a<=q/\q < a+n)/\(c<=B/\B < c+p)) (fun i3=>hin ⟨O,U,i3⟩)];simp
      ·rw [if_neg U];simp
     ·rw [if_neg O];simp
  exact this
theorem wv {n m p n' m' p' x y z a b c a' b' c':Nat} {ps us:List Pr} (hp:∀ k i j,Tn ps k i j=cf (be n m p) (k,i,j)) (hu:∀ k i j,Tn us k i j=cf (be n' m' p') (k,i,j))
 (hc:∀ r d e,r < x->d < y->e < z->(((a<=r/\r < a+n)/\(b<=d/\d < b+m)/\(c<=e/\e < c+p)) ↔ ¬ ((a'<=r/\r < a'+n')/\(b'<=d/\d < b'+m')/\(c'<=e/\e < c'+p')))) (k i j:Int) :
 Tn (ps.map (dlP n m p x y z a b c)++us.map (dlP n' m' p' x y z a' b' c')) k i j=cf (be x y z) (k,i,j):=by
 by_cases G:(0<=k/\k < (x*z:Nat))/\(0<=i/\i < (x*y:Nat))/\(0<=j/\j < (y*z:Nat))
 ·obtain ⟨⟨k0,kl⟩,⟨i0,il⟩,⟨j0,jl⟩⟩:=G;obtain ⟨k,rfl⟩:=Kd k0;obtain ⟨i,rfl⟩:=Kd i0;obtain ⟨j,rfl⟩:=Kd j0;obtain ⟨U,Y,q,B,rfl⟩:=tO (KY.mp kl);obtain ⟨r2,Z,J,F,rfl⟩:=tO (KY.mp il);obtain ⟨r3,c3,L,O,rfl⟩:=tO (KY.mp jl);rw [eJ,zC hp q B J F L O,zC hu q B J F L O,wq q J F L B O];have hh:=hc U Z Y q F B
  by_cases e:U=r2/\Z=r3/\Y=c3
  ·rw [if_pos e]
   by_cases i1:(a<=U/\U < a+n)/\(b<=Z/\Z < b+m)/\(c<=Y/\Y < c+p)
   ·rw [if_pos ⟨e,i1⟩,if_neg (fun w=>(hh.mp i1) w.2)];rfl
   ·rw [if_neg (fun w=>i1 w.2),if_pos ⟨e,Nj fun w=>i1 (hh.mpr w)⟩];rfl
  ·rw [if_neg e,if_neg (fun w=>e w.1),if_neg (fun w=>e w.1)];rfl
 ·rw [tP G];apply Nj;intro hz;refine G (pL (fun t ht => ?_) hz)
  rcases Hj.mp ht with h | h
  ·obtain ⟨u,_,rfl⟩:=Hr.mp h;exact jX
  ·obtain ⟨u,_,rfl⟩:=Hr.mp h;exact jX
theorem ig {B:Int} (q : 0<=B) {l:List Int} (j:Within B l) {R C H W t f:Nat}:Within B (dl l R C H W t f):=fun x hx=>by
 unfold dl at hx;obtain ⟨r,_,hx⟩:=Jj.mp hx;obtain ⟨c,_,rfl⟩:=Hr.mp hx;unfold dv
 by_cases h:(t<=r/\r < t+R)/\(f<=c/\c < f+C)
 ·rw [if_pos h];unfold gz;rw [if_neg (by lia),I0]
  cases e:l[(((r - t)*C+(c - f):Nat):Int).toNat]? with
  | none=>simp;lia
  | some y=>exact j y (Hy e)
 ·rw [if_neg h];lia
end
section
variable {T:List FD}
noncomputable def fg (y:Str) (s:Stmt) (f:Nat):FD:=⟨"_law_same",s,["_law_found",y],2,
 (.cons (.ite (.tru (.isin2 (.var 1) "list" "tuple")) (.cons (.ite (.or (.cons (.cmp .ne (.isin (.var 1) "list") (.isin (.var 0) "list")) (.cons (.cmp .ne (.isin (.var 1) "tuple") (.isin (.var 0) "tuple")) .nil))) (.cons (.ret (.bl false))
 .nil) .nil)
 (.cons (.ret (.and (.cons (.cmp .eq (.blt .len (.cons (.var 0) .nil)) (.blt .len (.cons (.var 1) .nil))) (.cons (.blt .all (.cons (.comp [none,(some 0),(some 1)] ["_law_k", "_law_found",y] (.last (.rng1 (.blt .len (.cons (.var 1) .nil))) (.name 0) .nil (.call f (.cons (.ix (.var 1) (.var 0)) (.cons (.ix (.var 2) (.var 0)) .nil))))) .nil)) .nil))))
 .nil)) .nil)
 (.cons (.ret (.and (.cons (.isin (.var 0) "int") (.cons (.not (.isin (.var 0) "bool")) (.cons (.cmp .eq (.var 0) (.var 1)) .nil)))))
 .nil))⟩
theorem zD {M:Mem} {x d:D} {ds:List D} {i:Int} {Q:QD} (h:aq M x=some ds) (e:atI ds i=some d) (q:Q d M):wIx x (.int i) M Q:=by
 cases x with
 | ref a =>
   simp only [aq] at h
   split at h
   ·next e0=>cases h;exact aT e0 e q
   ·cases h
 | tup es=>cases h;exact ⟨i,d,rfl,e,q⟩
 | con es=>cases h;exact ⟨i,d,rfl,e,q⟩
 | _=>cases h
noncomputable def Sm (M:Mem):Nat->D->D->Prop
 | _, .int i, .int j=>i=j
 | n+1, .tup ds, .tup es=>ds.length<=100000/\ds.length=es.length /\ ∀ (k:Nat) d e,ds[k]? = some d->es[k]? = some e->Sm M n d e
 | n+1, .ref a, .ref b => ∃ ds es,M a=some (.lst ds)/\M b=some (.lst es)/\ds.length<=100000/\ds.length=es.length /\ ∀ (k:Nat) d e,ds[k]? = some d->es[k]? = some e->Sm M n d e
 | _,_,_=>False
theorem Sm.ge {M M':Mem} (g:Ge M M'):∀ {n:Nat} {x y:D},Sm M n x y->Sm M' n x y:=by
 intro n
 induction n with
 | zero=>intro x y h;cases x <;> cases y <;> first | exact h.elim | exact h
 | succ n ih =>
   intro x y h
   cases x <;> cases y <;> first
    | exact h.elim
    | (obtain ⟨ds,es,e1,e2,z,l,q⟩:=h;exact ⟨ds,es,g _ _ e1,g _ _ e2,z,l,fun k d e h1 h2=>ih (q k d e h1 h2)⟩)
    | (obtain ⟨z,l,q⟩:=h;exact ⟨z,l,fun k d e h1 h2=>ih (q k d e h1 h2)⟩)
    | exact h
theorem Sm.int {M:Mem} {n:Nat} {i:Int}:Sm M n (.int i) (.int i):=by unfold Sm;cases n <;> rfl
section
variable {f:Nat} {y:Str} {s:Stmt}
theorem pU (hf:T[f]? = some (fg y s f)) {n:Nat} (j : 1<=n) {x:Int} {M:Mem} {Q:QD} (q:Q (.bl true) M):phi T n f [.int x, .int x] M Q:=by
 refine au (by lia) hf rfl (ρ := [some _,some _]) rfl ?_
 unfold fg;walk_at "st";refine ⟨"int",rfl,false,rfl, ?_⟩;rw [if_neg (by decide)]
 walk_at "st";refine ⟨"int",rfl, ?_⟩;rw [if_pos (by decide)]
 refine ⟨"int",rfl, ?_⟩;rw [if_pos (by decide),beq_self_eq_true]
 exact q
theorem mw {n m:Nat} (ih:∀ {x y:D} {M:Mem} {Q:QD},Sm M n x y->(∀ M',Ge M M'->Q (.bl true) M')->phi T m f [x,y] M Q) {u v:D} {ds es:List D} {M:Mem} {N:NC} (F:aq M u=some ds) (G:aq M v=some es) (z:ds.length<=100000) (l:ds.length=es.length)
 (h:∀ (k:Nat) d e,ds[k]? = some d->es[k]? = some e->Sm M n d e) (q:∀ ρ M',Ge M M'->N ρ M' (es.map fun _ => .bl true)) :
 bY (bw 0) (cz (wAr (phi T m f) (aD (wOp wIx (cy 1) (cy 0)) (aD (wOp wIx (cy 2) (cy 0)) bq)))) (fun _=>True) N (cS 0 (es.length:Int).toNat) [none,some u,some v] M []:=by
 refine ay (f:=fun i=>D.int (i:Nat)) (I:=fun l ρ M' acc=>(∃ o0, ρ = [o0,some u,some v])/\Ge M M'/\acc=l.map fun _ => .bl true) aE ⟨⟨_,rfl⟩,Ge.refl,rfl⟩ (fun _ _ _ _ _=>trivial) ?_ ?_
 ·rintro l' i r ρ M1 acc e ⟨⟨o0,rfl⟩,g,rfl⟩;refine ⟨_,rfl,fun N' j => ?_⟩;have B:=am e;rw [HC] at B;have hi:i < es.length:=by
   have:i∈Hi (es.length:Int).toNat:=by rw [e];simp
   have:=HG.mp this;lia
  walk_at "wp";have h1:ds[i]? = some ds[i]:=D1 (by lia)
  have h2:es[i]? = some es[i]:=D1 hi;refine zD (cN F g) (eY h1) (zD (cN G g) (eY h2) (ih ((h i _ _ h1 h2).ge g) fun M2 g2 => ?_));refine ⟨by rw [D2,GU];lia,j _ _ _ ⟨⟨_,rfl⟩,g.trans g2,by simp⟩⟩
 ·rintro ρ M1 acc ⟨⟨o0,rfl⟩,g,rfl⟩;have e:(Hi (es.length:Int).toNat).map (fun _=>D.bl true)=es.map fun _ => .bl true:=by
   rw [QM,QM];simp
  rw [e];exact q _ M1 g
theorem pV:∀ es:List D,aM oh (es.map fun _ => .bl true)=some (es.map fun _=>true)
 | [] => rfl
 | e::es=>by rw [Hs,Hs];simp only [aM,oh,pV es];rfl
theorem pW {es:List D} {p:Addr} {M:Mem} {Q:QD} (q:Q (.bl true) (ag M p (.lst (es.map fun _ => .bl true)))):sH [.ref p] (ag M p (.lst (es.map fun _ => .bl true))) Q:=by
 refine ⟨_,_,es.map (fun _=>true),rfl,af ad,pV es, ?_⟩;rw [show ((es.map fun _=>true).all id)=true by simp]
 exact q
theorem Bj (hf:T[f]? = some (fg y s f)):∀ {n m:Nat},n+1<=m -> ∀ {u v:D} {M:Mem} {Q:QD},Sm M n u v->(∀ M',Ge M M'->Q (.bl true) M')->phi T m f [u,v] M Q:=by
 intro n
 induction n with
 | zero =>
   intro m hm u v M Q h q
   cases u <;> cases v <;> first
    | exact h.elim
    | (have e:=h;unfold Sm at e;subst e;exact pU hf (by lia) (q _ Ge.refl))
 | succ n ih =>
   intro m hm u v M Q h q
   cases u <;> cases v <;> first
    | exact h.elim
    | (have e:=h;unfold Sm at e;subst e;exact pU hf (by lia) (q _ Ge.refl))
    | skip
   case tup.tup ds es =>
    obtain ⟨z,l,h⟩:=h;refine au (by lia) hf rfl (ρ := [some _,some _]) rfl ?_
    unfold fg;walk_at "st";refine ⟨"tuple",rfl,true,rfl, ?_⟩;rw [if_pos rfl];walk_at "st";refine ⟨"tuple",rfl, "tuple",rfl,_,_,rfl,rfl,false,rfl, ?_⟩;rw [if_neg (by decide)]
    refine ⟨"tuple",rfl, "tuple",rfl,_,_,rfl,rfl,false,rfl, ?_⟩;rw [if_neg (by decide)]
    walk_at "st";rw [if_pos (by simp [l])]
    refine ⟨by lia,by lia, ?_⟩
    exact mw (ih (m:=m - 1) (by lia)) rfl rfl z l h fun ρ M' g p hp=>pW (q _ (g.trans (Ge.new hp)))
   case ref.ref a b =>
    obtain ⟨ds,es,e1,e2,z,l,h⟩:=h;refine au (by lia) hf rfl (ρ := [some _,some _]) rfl ?_
    unfold fg;have t1:tyN M (.ref a)=some "list" := by simp [tyN,e1]
    have j:tyN M (.ref b)=some "list" := by simp [tyN,e2]
    walk_at "st";refine ⟨"list",j,true,rfl, ?_⟩;rw [if_pos rfl];walk_at "st";refine ⟨"list",j, "list",t1,_,_,rfl,rfl,false,rfl, ?_⟩;rw [if_neg (by decide)]
    refine ⟨"list",j, "list",t1,_,_,rfl,rfl,false,rfl, ?_⟩;rw [if_neg (by decide)]
    walk_at "st";refine kH (af e1) (kH (af e2) ?_);walk_at "wp";rw [if_pos (by simp [l])]
    refine kH (af e2) ?_;refine ⟨_,rfl,by lia,by lia, ?_⟩
    exact mw (ih (m:=m - 1) (by lia)) (af e1) (af e2) z l h fun ρ M' g p hp=>pW (q _ (g.trans (Ge.new hp)))
end
end
section
open PySem PySem.Spec PyProof.Rows L2.Srt
theorem gF {M:Mem} {n:Nat} {l:List Int} (j:l.length<=100000):Sm M (n+1) (.tup (l.map .int)) (.tup (l.map .int)):=by
 refine ⟨by rw [D2];exact j,rfl,fun k d e h1 h2 => ?_⟩
 rw [h1] at h2;cases h2;rw [HB] at h1;obtain ⟨i,_,rfl⟩:=Kh.mp h1;exact Sm.int
theorem Bk {M:Mem} {p:Pr} (h:p.1.length<=100000/\p.2.1.length<=100000/\p.2.2.length<=100000):Sm M 2 (prD p) (prD p):=by
 refine ⟨by simp,rfl,fun k d e h1 h2 => ?_⟩
 rw [h1] at h2;cases h2;have hm:=Hy h1;simp only [Ha,Ht,or_false] at hm
 rcases hm with rfl | rfl | rfl
 ·exact gF h.1
 ·exact gF h.2.1
 ·exact gF h.2.2
theorem Bl {M:Mem} {x y z:Int} {a b:Addr} {qs:List Pr} (j:qs.length<=100000) (q:M a=some (.lst (qs.map prD))) (B:M b=some (.lst (qs.map prD))) (h:∀ p∈qs,p.1.length<=100000/\p.2.1.length<=100000/\p.2.2.length<=100000) :
 Sm M 4 (.tup [.int x, .int y, .int z, .ref a]) (.tup [.int x, .int y, .int z, .ref b]):=by
 refine ⟨by simp,rfl,fun k d e h1 h2 => ?_⟩
 have:k=0∨k=1∨k=2∨k=3:=by
  have:=(Ho.mp h1).1;simp at this;lia
 rcases this with rfl | rfl | rfl | rfl
 ·cases h1;cases h2;exact Sm.int
 ·cases h1;cases h2;exact Sm.int
 ·cases h1;cases h2;exact Sm.int
 ·cases h1;cases h2
  refine ⟨_,_,q,B,by rw [D2];exact j,rfl,fun k d e h1 h2 => ?_⟩
  rw [h1] at h2;cases h2;rw [HB] at h1;obtain ⟨p,F,rfl⟩:=Kh.mp h1;exact Bk (h p (Hy F))
theorem De:∀ ns:List Int,JJ (ns.map .int) (ns.map .int)=true
 | [] => rfl
 | n::ns=>by simp [JJ,IA,De ns]
theorem Df:∀ ps:List Pr,JJ (ps.map cF) (ps.map cF)=true
 | [] => rfl
 | p::ps=>by simp [JJ,IA,Df ps,cF,De]
theorem pX {a b c:Nat}:∀ {ps:List Pr},(∀ p∈ps,p.1.length<=a/\p.2.1.length<=b/\p.2.2.length<=c)->(aY ps).length<=ps.length*(a*(b*c))
 | [],_=>by simp [aY]
 | p::ps,h=>by
   rw [show aY (p::ps)=eP p++aY ps by simp [aY],GR,HR,J3]
   have h1:=pX (ps:=ps) fun q j=>h q (by simp [j])
   obtain ⟨x,y,z⟩:=h p (by simp)
   have h2:(eP p).length<=a*(b*c):=by
    unfold eP;rw [iS];have:=pF (l:=p.1);have:=pF (l:=p.2.1);have:=pF (l:=p.2.2);exact I8 (by lia) (I8 (by lia) (by lia))
   lia
theorem rG {L:List Tm}:∀ kv∈L.map kcD, ∃ i,kv.2 = .int i:=fun kv h=>by
 obtain ⟨t,_,rfl⟩:=Hr.mp h;exact ⟨t.2,rfl⟩
end
section
namespace K19
noncomputable def aj (i:Nat):Stmt:=PySem.Challenge.pw_fewtimes_k19_beside.main.body.getD i (.Pass ⟨0,0,0,0⟩)
noncomputable def d0:FD:=kM (aj 2)
noncomputable def d1:FD:=yJ (aj 3) 0
noncomputable def b2:MSs :=
 (.cons (.ret (.comp [none,none,(some 2),(some 4),(some 3),(some 1)] ["a", "b", "top", "width", "first", "columns"] (.more (.rng1 (.var 0)) (.name 0) .nil (.last (.rng1 (.var 5)) (.name 1) .nil (.bin .add (.bin .add (.bin .mul (.bin .add (.var 2) (.var 0)) (.var 3)) (.var 4)) (.var 1))))))
 .nil)
noncomputable def d2:FD:=⟨"table_places",aj 4,["rows", "columns", "top", "first", "width"],5,b2⟩
noncomputable def b3:MSs :=
 (.cons (.ret (.comp [none,none,(some 0),(some 1),(some 2)] ["row", "column", "sizes", "corner", "whole"] (.last (.seq (.glob "TABLES" (.tup [(.tup [(.int 0),(.int 1)]),(.tup [(.int 1),(.int 2)]),(.tup [(.int 0),(.int 2)])]))) (.tup (.cons (.name 0) (.cons (.name 1) .nil))) .nil (.call 2 (.cons (.ix (.var 2) (.var 0)) (.cons (.ix (.var 2) (.var 1)) (.cons (.ix (.var 3) (.var 0)) (.cons (.ix (.var 3) (.var 1)) (.cons (.ix (.var 4) (.var 1)) .nil)))))))))
 .nil)
noncomputable def d3:FD:=⟨"places_in",aj 5,["sizes", "corner", "whole"],3,b3⟩
noncomputable def b4:MSs :=
 (.cons (.asg (.name 5) (.blt .list (.cons (.var 1) .nil)))
 (.cons (.augI (.var 5) (.var 4) .add (.ix (.var 3) (.var 4)))
 (.cons (.asg (.name 6) (.lst (.cons (.int 0) (.cons (.int 0) (.cons (.int 0) .nil)))))
 (.cons (.put (.var 6) (.var 4) (.ix (.var 1) (.var 4)))
 (.cons (.asg (.name 7) (.blt .tuple (.cons (.comp [none,none,(some 5)] ["row", "column", "whole"] (.last (.seq (.glob "TABLES" (.tup [(.tup [(.int 0),(.int 1)]),(.tup [(.int 1),(.int 2)]),(.tup [(.int 0),(.int 2)])]))) (.tup (.cons (.name 0) (.cons (.name 1) .nil))) .nil (.bin .mul (.ix (.var 2) (.var 0)) (.ix (.var 2) (.var 1))))) .nil)))
 (.cons (.asg (.name 8) (.call 1 (.cons (.ix (.var 0) (.int 3)) (.cons (.call 3 (.cons (.var 1) (.cons (.tup (.cons (.int 0) (.cons (.int 0) (.cons (.int 0) .nil)))) (.cons (.var 5) .nil)))) (.cons (.var 7) .nil)))))
 (.cons (.aug 8 .ext (.call 1 (.cons (.ix (.var 2) (.int 3)) (.cons (.call 3 (.cons (.var 3) (.cons (.var 6) (.cons (.var 5) .nil)))) (.cons (.var 7) .nil)))))
 (.cons (.ret (.bin .add (.var 7) (.tup (.cons (.var 8) .nil))))
 .nil))))))))
noncomputable def d4:FD:=⟨"beside",aj 6,["one", "sizes", "other", "others", "side", "whole", "corner", "lengths", "products"],5,b4⟩
noncomputable def d5:FD:=jQ (aj 8)
noncomputable def b6:MSs :=
 (.cons (.asg (.name 2) (.bin .mod (.bin .mul (.bin .add (.bin .add (.bin .mod (.var 0) (.int 1000000007)) (.bin .mul (.int 7) (.var 1))) (.int 1)) (.int 48271)) (.int 2147483647)))
 (.cons (.asg (.name 3) (.bin .mod (.bin .mul (.var 2) (.bin .add (.bin .add (.bin .mod (.var 2) (.int 1009)) (.var 1)) (.int 3))) (.int 998244353)))
 (.cons (.ret (.bin .fdiv (.bin .mod (.bin .add (.bin .mul (.var 3) (.int 39373)) (.var 2)) (.int 2147483629)) (.int 64)))
 .nil)))
noncomputable def d6:FD:=⟨"_law_mixed",aj 9,["_law_number", "_law_k", "_law_once", "_law_twice"],2,b6⟩
noncomputable def d7:FD:=tF (aj 10) 5 6
noncomputable def d8:FD:=pj (aj 11) 6
noncomputable def d9:FD:=fg "_law_due" (aj 12) 9
noncomputable def d10:FD:=gA "_law_part" "_law_number" (aj 13)
noncomputable def d11:FD:=pI "_law_scheme" (aj 14) 10
noncomputable def d12:FD:=kI "_law_sizes_here" (aj 15)
noncomputable def d13:FD:=eL (aj 16)
noncomputable def d14:FD:=iT (aj 17)
noncomputable def d15:FD:=gC .sortk "_law_number" (aj 18) 14
noncomputable def d16:FD:=kJ "_law_part" "_law_number" (aj 19)
noncomputable def d17:FD:=gD (aj 20) 8 16
noncomputable def d18:FD:=i9 (aj 21)
noncomputable def d19:FD:=iU (aj 22) 8 17 18 13 15 12
noncomputable def b20:MSs :=
 (.cons (.asg (.name 2) (.comp [none,(some 0)] ["_law_turn", "_law_box_here"] (.last (.rng1 (.int 3)) (.name 0) .nil (.bin .add (.int 1) (.call 8 (.cons (.var 1) (.cons (.int 4) .nil)))))))
 (.cons (.ite (.cmp .eq (.call 8 (.cons (.var 0) (.cons (.int 4) .nil))) (.int 0)) (.cons (.asg (.name 2) (.lst (.cons (.int 2) (.cons (.int 2) (.cons (.int 2) .nil)))))
 .nil) .nil)
 (.cons (.ite (.cmp .eq (.call 8 (.cons (.var 0) (.cons (.int 8) .nil))) (.int 0)) (.cons (.asg (.name 2) (.comp [none,(some 0)] ["_law_turn", "_law_box_here"] (.last (.rng1 (.int 3)) (.name 0) .nil (.bin .add (.int 1) (.call 8 (.cons (.var 1) (.cons (.int 2) .nil)))))))
 (.cons (.put (.var 2) (.call 8 (.cons (.var 0) (.cons (.int 3) .nil))) (.bin .add (.int 5) (.call 8 (.cons (.var 0) (.cons (.int 5) .nil)))))
 .nil)) .nil)
 (.cons (.asg (.name 3) (.blt .list (.cons (.var 2) .nil)))
 (.cons (.put (.var 3) (.var 1) (.bin .add (.int 1) (.call 8 (.cons (.var 0) (.cons (.ix (.lst (.cons (.int 4) (.cons (.int 2) .nil))) (.blt .int (.cons (.cmp .gt (.ix (.var 2) (.var 1)) (.int 4)) .nil))) .nil)))))
 (.cons (.ret (.tup (.cons (.blt .tuple (.cons (.var 2) .nil)) (.cons (.blt .tuple (.cons (.var 3) .nil)) .nil))))
 .nil))))))
noncomputable def d20:FD:=⟨"_law_sizes",aj 23,["_law_box_here", "_law_side", "_law_one", "_law_other"],2,b20⟩
noncomputable def b21:MSs :=
 (.cons (.asg (.name 5) (.lst .nil))
 (.cons (.for (.name 6) (.rng1 (.ix (.var 3) (.int 0))) (.cons (.for (.name 7) (.rng1 (.ix (.var 3) (.int 1))) (.cons (.par 8 9 (.bin .sub (.var 6) (.ix (.var 4) (.int 0))) (.bin .sub (.var 7) (.ix (.var 4) (.int 1))))
 (.cons (.asg (.name 10) (.and (.cons (.chain .le .lt (.int 0) (.var 8) (.var 1)) (.cons (.chain .le .lt (.int 0) (.var 9) (.var 2)) .nil))))
 (.cons (.drop (.meth .append (.var 5) (.ite (.tru (.var 10)) (.ix (.var 0) (.bin .add (.bin .mul (.var 8) (.var 2)) (.var 9))) (.int 0))))
 .nil))))
 .nil))
 (.cons (.ret (.blt .tuple (.cons (.var 5) .nil)))
 .nil)))
noncomputable def d21:FD:=⟨"_law_part_due",aj 24,["_law_part", "_law_rows", "_law_columns", "_law_whole", "_law_spot", "_law_found", "_law_row", "_law_column", "_law_y", "_law_x", "_law_inside"],5,b21⟩
noncomputable def b22:MSs :=
 (.cons (.asg (.tup (.cons (.name 4) (.cons (.name 5) (.cons (.name 6) .nil)))) (.var 1))
 (.cons (.asg (.tup (.cons (.name 7) (.cons (.name 8) (.cons (.name 9) .nil)))) (.var 2))
 (.cons (.asg (.tup (.cons (.name 10) (.cons (.name 11) (.cons (.name 12) .nil)))) (.var 3))
 (.cons (.asg (.name 13) (.lst .nil))
 (.cons (.for (.tup (.cons (.name 14) (.cons (.name 15) (.cons (.name 16) .nil)))) (.seq (.ix (.var 0) (.int 3))) (.cons (.asg (.name 17) (.call 21 (.cons (.var 14) (.cons (.var 4) (.cons (.var 5) (.cons (.tup (.cons (.var 7) (.cons (.var 8) .nil))) (.cons (.tup (.cons (.var 10) (.cons (.var 11) .nil))) .nil)))))))
 (.cons (.asg (.name 18) (.call 21 (.cons (.var 15) (.cons (.var 5) (.cons (.var 6) (.cons (.tup (.cons (.var 8) (.cons (.var 9) .nil))) (.cons (.tup (.cons (.var 11) (.cons (.var 12) .nil))) .nil)))))))
 (.cons (.drop (.meth .append (.var 13) (.tup (.cons (.var 17) (.cons (.var 18) (.cons (.call 21 (.cons (.var 16) (.cons (.var 4) (.cons (.var 6) (.cons (.tup (.cons (.var 7) (.cons (.var 9) .nil))) (.cons (.tup (.cons (.var 10) (.cons (.var 12) .nil))) .nil)))))) .nil))))))
 .nil))))
 (.cons (.ret (.var 13))
 .nil))))))
noncomputable def d22:FD:=⟨"_law_products_due",aj 25,["_law_scheme", "_law_sizes_here", "_law_whole", "_law_spot", "_law_n", "_law_m", "_law_p", "_law_far", "_law_between", "_law_wide", "_law_a", "_law_b", "_law_c", "_law_found", "_law_l", "_law_r", "_law_o", "_law_left", "_law_right"],4,b22⟩
noncomputable def b23:MSs :=
 (.cons (.for (.name 1) (.rng1 (.bin .add (.int 1) (.blt .min2 (.cons (.int 9) (.cons (.blt .len (.cons (.var 0) .nil)) .nil))))) (.cons (.asg (.name 2) (.call 7 (.cons (.var 0) (.cons (.var 1) .nil))))
 (.cons (.asg (.name 3) (.bin .mod (.bin .add (.var 1) (.call 8 (.cons (.var 2) (.cons (.int 3) .nil)))) (.int 3)))
 (.cons (.asg (.tup (.cons (.name 4) (.cons (.name 5) .nil))) (.call 20 (.cons (.var 2) (.cons (.var 3) .nil))))
 (.cons (.par 6 7 (.call 19 (.cons (.var 2) (.cons (.var 4) (.cons (.int 2) .nil)))) (.call 19 (.cons (.var 2) (.cons (.var 5) (.cons (.int 2) .nil)))))
 (.cons (.asg (.name 8) (.lst (.cons (.blt .list (.cons (.ix (.var 6) (.int 3)) .nil)) (.cons (.blt .list (.cons (.ix (.var 7) (.int 3)) .nil)) .nil))))
 (.cons (.asg (.name 9) (.blt .tuple (.cons (.comp [none,(some 4),(some 5),(some 3)] ["_law_turn", "_law_sizes_here", "_law_others", "_law_side"] (.last (.rng1 (.int 3)) (.name 0) .nil (.bin .add (.ix (.var 1) (.var 0)) (.bin .mul (.ix (.var 2) (.var 0)) (.blt .int (.cons (.cmp .eq (.var 0) (.var 3)) .nil)))))) .nil)))
 (.cons (.asg (.name 10) (.blt .tuple (.cons (.comp [none,(some 4),(some 3)] ["_law_turn", "_law_sizes_here", "_law_side"] (.last (.rng1 (.int 3)) (.name 0) .nil (.bin .mul (.ix (.var 1) (.var 0)) (.blt .int (.cons (.cmp .eq (.var 0) (.var 2)) .nil))))) .nil)))
 (.cons (.asg (.name 11) (.bin .add (.call 22 (.cons (.var 6) (.cons (.var 4) (.cons (.var 9) (.cons (.tup (.cons (.int 0) (.cons (.int 0) (.cons (.int 0) .nil)))) .nil))))) (.call 22 (.cons (.var 7) (.cons (.var 5) (.cons (.var 9) (.cons (.var 10) .nil)))))))
 (.cons (.asg (.name 12) (.bin .add (.call 13 (.cons (.var 9) .nil)) (.tup (.cons (.var 11) .nil))))
 (.cons (.for (.name 13) (.rng1 (.int 2)) (.cons (.asg (.name 14) (.call 4 (.cons (.var 6) (.cons (.var 4) (.cons (.var 7) (.cons (.var 5) (.cons (.var 3) .nil)))))))
 (.cons (.ite (.not (.tru (.call 9 (.cons (.var 14) (.cons (.var 12) .nil))))) (.cons (.ret (.bl false))
 .nil) .nil)
 (.cons (.drop (.meth0 .clear (.ix (.var 14) (.int 3))))
 .nil))))
 (.cons (.ite (.or (.cons (.cmp .neD (.call 11 (.cons (.var 12) .nil)) (.call 12 (.cons (.var 9) .nil))) (.cons (.cmp .ne (.lst (.cons (.ix (.var 6) (.int 3)) (.cons (.ix (.var 7) (.int 3)) .nil))) (.var 8)) .nil))) (.cons (.ret (.bl false))
 .nil) .nil)
 .nil))))))))))))
 (.cons (.ret (.bl true))
 .nil))
noncomputable def d23:FD:=⟨"law",aj 26,["_law_script", "_law_k", "_law_box_here", "_law_side", "_law_sizes_here", "_law_others", "_law_one", "_law_other", "_law_kept", "_law_whole", "_law_spot", "_law_products", "_law_due", "_law_turn", "_law_found"],1,b23⟩
noncomputable def tab:List FD := [d0,d1,d2,d3,d4,d5,d6,d7,d8,d9,d10,d11,d12,d13,d14,d15,d16,d17,d18,d19,d20,d21,d22,d23]
noncomputable def pY:List (Str×D) := [("TABLES",(.tup [(.tup [(.int 0),(.int 1)]),(.tup [(.int 1),(.int 2)]),(.tup [(.int 0),(.int 2)])]))]
theorem tR (us:List h7) (h:us.length=5):∃ a b c d e,us=[a,b,c,d,e]:=by
 cases us with
 | nil=>cases h
 | cons a us=>obtain ⟨b,c,d,e,rfl⟩:=tD us (R9.inj h);exact ⟨a,b,c,d,e,rfl⟩
end K19
end
section
namespace K19
theorem Dg:∀ d∈tab,tz (tab.map (·.name)) pY d=true:=by decide +kernel
noncomputable abbrev PA (K:Frag) (x:Str) (f:Addr):Prop:=Q3 K IZ x=some (some (.ref f))
noncomputable abbrev PL (K:Frag) (f:Addr) (x:Str) (s:Stmt) (oc:h7) (od:Option Addr) (kV dc pm:h7) (an:Option Addr) (cd ct:h7) (sl:Array (Option h7)):Prop:=K.lookup f=some ⟨oc,od, .func (Kg x x (dB s) (bV s) (az s) .none kV dc pm an cd ct),sl⟩
noncomputable abbrev PC (K:Frag) (c:h7) (x:Str):Prop:=MV K c x=true
noncomputable abbrev PK (K:Frag) (f:Addr):Prop:=KI K (.ref f)=true
theorem all_mk {l:Oh} {w:HW} {K:Frag} {h:Heap} {mg:Str->Option h7} {fa:Addr} (X:K.In h) (G:h.Ns IZ mg) (hfa:mg "law" = some (.ref fa)) (z:∀ x∈bltNames,Q3 K IZ x=some none)
 (a0:PA K "moved" f0) (l0:PL K f0 "moved" (aj 2) oc0 od0 kV0 dc0 pm0 an0 cd0 ct0 sl0) (c0:PC K cd0 "moved") (k0:PK K f0)
 (a1:PA K "products_moved" f1) (l1:PL K f1 "products_moved" (aj 3) oc1 od1 kV1 dc1 pm1 an1 cd1 ct1 sl1) (c1:PC K cd1 "products_moved") (k1:PK K f1)
 (a2:PA K "table_places" f2) (l2:PL K f2 "table_places" (aj 4) oc2 od2 kV2 dc2 pm2 an2 cd2 ct2 sl2) (c2:PC K cd2 "table_places") (k2:PK K f2)
 (a3:PA K "places_in" f3) (l3:PL K f3 "places_in" (aj 5) oc3 od3 kV3 dc3 pm3 an3 cd3 ct3 sl3) (c3:PC K cd3 "places_in") (k3:PK K f3)
 (a4:PA K "beside" f4) (l4:PL K f4 "beside" (aj 6) oc4 od4 kV4 dc4 pm4 an4 cd4 ct4 sl4) (c4:PC K cd4 "beside") (k4:PK K f4)
 (a5:PA K "_law_cell_at" f5) (l5:PL K f5 "_law_cell_at" (aj 8) oc5 od5 kV5 dc5 pm5 an5 cd5 ct5 sl5) (c5:PC K cd5 "_law_cell_at") (k5:PK K f5)
 (a6:PA K "_law_mixed" f6) (l6:PL K f6 "_law_mixed" (aj 9) oc6 od6 kV6 dc6 pm6 an6 cd6 ct6 sl6) (c6:PC K cd6 "_law_mixed") (k6:PK K f6)
 (a7:PA K "_law_box" f7) (l7:PL K f7 "_law_box" (aj 10) oc7 od7 kV7 dc7 pm7 an7 cd7 ct7 sl7) (c7:PC K cd7 "_law_box") (k7:PK K f7)
 (a8:PA K "_law_take" f8) (l8:PL K f8 "_law_take" (aj 11) oc8 od8 kV8 dc8 pm8 an8 cd8 ct8 sl8) (c8:PC K cd8 "_law_take") (k8:PK K f8)
 (a9:PA K "_law_same" f9) (l9:PL K f9 "_law_same" (aj 12) oc9 od9 kV9 dc9 pm9 an9 cd9 ct9 sl9) (c9:PC K cd9 "_law_same") (k9:PK K f9)
 (a10:PA K "_law_nonzero" f10) (l10:PL K f10 "_law_nonzero" (aj 13) oc10 od10 kV10 dc10 pm10 an10 cd10 ct10 sl10) (c10:PC K cd10 "_law_nonzero") (k10:PK K f10)
 (a11:PA K "_law_sums" f11) (l11:PL K f11 "_law_sums" (aj 14) oc11 od11 kV11 dc11 pm11 an11 cd11 ct11 sl11) (c11:PC K cd11 "_law_sums") (k11:PK K f11)
 (a12:PA K "_law_table_sums" f12) (l12:PL K f12 "_law_table_sums" (aj 15) oc12 od12 kV12 dc12 pm12 an12 cd12 ct12 sl12) (c12:PC K cd12 "_law_table_sums") (k12:PK K f12)
 (a13:PA K "_law_lengths_of" f13) (l13:PL K f13 "_law_lengths_of" (aj 16) oc13 od13 kV13 dc13 pm13 an13 cd13 ct13 sl13) (c13:PC K cd13 "_law_lengths_of") (k13:PK K f13)
 (a14:PA K "_law_single" f14) (l14:PL K f14 "_law_single" (aj 17) oc14 od14 kV14 dc14 pm14 an14 cd14 ct14 sl14) (c14:PC K cd14 "_law_single") (k14:PK K f14)
 (a15:PA K "_law_plainly" f15) (l15:PL K f15 "_law_plainly" (aj 18) oc15 od15 kV15 dc15 pm15 an15 cd15 ct15 sl15) (c15:PC K cd15 "_law_plainly") (k15:PK K f15)
 (a16:PA K "_law_turned_about" f16) (l16:PL K f16 "_law_turned_about" (aj 19) oc16 od16 kV16 dc16 pm16 an16 cd16 ct16 sl16) (c16:PC K cd16 "_law_turned_about") (k16:PK K f16)
 (a17:PA K "_law_dressed" f17) (l17:PL K f17 "_law_dressed" (aj 20) oc17 od17 kV17 dc17 pm17 an17 cd17 ct17 sl17) (c17:PC K cd17 "_law_dressed") (k17:PK K f17)
 (a18:PA K "_law_seven" f18) (l18:PL K f18 "_law_seven" (aj 21) oc18 od18 kV18 dc18 pm18 an18 cd18 ct18 sl18) (c18:PC K cd18 "_law_seven") (k18:PK K f18)
 (a19:PA K "_law_tables" f19) (l19:PL K f19 "_law_tables" (aj 22) oc19 od19 kV19 dc19 pm19 an19 cd19 ct19 sl19) (c19:PC K cd19 "_law_tables") (k19:PK K f19)
 (a20:PA K "_law_sizes" f20) (l20:PL K f20 "_law_sizes" (aj 23) oc20 od20 kV20 dc20 pm20 an20 cd20 ct20 sl20) (c20:PC K cd20 "_law_sizes") (k20:PK K f20)
 (a21:PA K "_law_part_due" f21) (l21:PL K f21 "_law_part_due" (aj 24) oc21 od21 kV21 dc21 pm21 an21 cd21 ct21 sl21) (c21:PC K cd21 "_law_part_due") (k21:PK K f21)
 (a22:PA K "_law_products_due" f22) (l22:PL K f22 "_law_products_due" (aj 25) oc22 od22 kV22 dc22 pm22 an22 cd22 ct22 sl22) (c22:PC K cd22 "_law_products_due") (k22:PK K f22)
 (a23:PA K "law" f23) (l23:PL K f23 "law" (aj 26) oc23 od23 kV23 dc23 pm23 an23 cd23 ct23 sl23) (c23:PC K cd23 "law") (k23:PK K f23)
 (gcst0:Q3 K IZ "TABLES" = some (some (.ref ua0))) (gu0:K.lookup ua0=some ⟨.type "tuple",uo0, .seq #[(.ref ua1),(.ref ua4),(.ref ua7)] un0,us0⟩) (gu1:K.lookup ua1=some ⟨.type "tuple",uo1, .seq #[(.int 0 ut2),(.int 1 ut3)] un1,us1⟩) (gu4:K.lookup ua4=some ⟨.type "tuple",uo4, .seq #[(.int 1 ut5),(.int 2 ut6)] un4,us4⟩) (gu7:K.lookup ua7=some ⟨.type "tuple",uo7, .seq #[(.int 0 ut8),(.int 2 ut9)] un7,us7⟩)
 : ∃ fd:KH,(∀ (s:D0) (v:h7),PH s fd ⟨[v],[]⟩ [("_law_script",v)]) /\ ∀ base:Heap,K.In base->base.Ns IZ mg->dN l.prog w K mg base CX0 40 fa fd ["_law_script"] (lSp K (phi tab 40 23)):=by
 have e:=hfa.symm.trans (HA X G a23)
 cases e
 have O:zt K mg tab pY:=by
  refine ⟨fun x hx=>PySem.W.mg_none_of X G (z x hx), ?_,Dg, ?_⟩
  ·intro i d hd
   match i,hd with
   | 0,hd=>cases hd;exact ⟨_,_,ai l0 c0 k0,HA X G a0,(ai l0 c0 k0).binds fun _ _ _ _ _ _ us hl=>by obtain ⟨u0,u1,u2,rfl⟩:=jP us hl;rfl⟩
   | 1,hd=>cases hd;exact ⟨_,_,ai l1 c1 k1,HA X G a1,(ai l1 c1 k1).binds fun _ _ _ _ _ _ us hl=>by obtain ⟨u0,u1,u2,rfl⟩:=jP us hl;rfl⟩
   | 2,hd=>cases hd;exact ⟨_,_,ai l2 c2 k2,HA X G a2,(ai l2 c2 k2).binds fun _ _ _ _ _ _ us hl=>by obtain ⟨u0,u1,u2,u3,u4,rfl⟩:=tR us hl;rfl⟩
   | 3,hd=>cases hd;exact ⟨_,_,ai l3 c3 k3,HA X G a3,(ai l3 c3 k3).binds fun _ _ _ _ _ _ us hl=>by obtain ⟨u0,u1,u2,rfl⟩:=jP us hl;rfl⟩
   | 4,hd=>cases hd;exact ⟨_,_,ai l4 c4 k4,HA X G a4,(ai l4 c4 k4).binds fun _ _ _ _ _ _ us hl=>by obtain ⟨u0,u1,u2,u3,u4,rfl⟩:=tR us hl;rfl⟩
   | 5,hd=>cases hd;exact ⟨_,_,ai l5 c5 k5,HA X G a5,(ai l5 c5 k5).binds fun _ _ _ _ _ _ us hl=>by obtain ⟨u0,u1,rfl⟩:=dA us hl;rfl⟩
   | 6,hd=>cases hd;exact ⟨_,_,ai l6 c6 k6,HA X G a6,(ai l6 c6 k6).binds fun _ _ _ _ _ _ us hl=>by obtain ⟨u0,u1,rfl⟩:=dA us hl;rfl⟩
   | 7,hd=>cases hd;exact ⟨_,_,ai l7 c7 k7,HA X G a7,(ai l7 c7 k7).binds fun _ _ _ _ _ _ us hl=>by obtain ⟨u0,u1,rfl⟩:=dA us hl;rfl⟩
   | 8,hd=>cases hd;exact ⟨_,_,ai l8 c8 k8,HA X G a8,(ai l8 c8 k8).binds fun _ _ _ _ _ _ us hl=>by obtain ⟨u0,u1,rfl⟩:=dA us hl;rfl⟩
   | 9,hd=>cases hd;exact ⟨_,_,ai l9 c9 k9,HA X G a9,(ai l9 c9 k9).binds fun _ _ _ _ _ _ us hl=>by obtain ⟨u0,u1,rfl⟩:=dA us hl;rfl⟩
   | 10,hd=>cases hd;exact ⟨_,_,ai l10 c10 k10,HA X G a10,(ai l10 c10 k10).binds fun _ _ _ _ _ _ us hl=>by obtain ⟨u0,rfl⟩:=fO us hl;rfl⟩
   | 11,hd=>cases hd;exact ⟨_,_,ai l11 c11 k11,HA X G a11,(ai l11 c11 k11).binds fun _ _ _ _ _ _ us hl=>by obtain ⟨u0,rfl⟩:=fO us hl;rfl⟩
   | 12,hd=>cases hd;exact ⟨_,_,ai l12 c12 k12,HA X G a12,(ai l12 c12 k12).binds fun _ _ _ _ _ _ us hl=>by obtain ⟨u0,rfl⟩:=fO us hl;rfl⟩
   | 13,hd=>cases hd;exact ⟨_,_,ai l13 c13 k13,HA X G a13,(ai l13 c13 k13).binds fun _ _ _ _ _ _ us hl=>by obtain ⟨u0,rfl⟩:=fO us hl;rfl⟩
   | 14,hd=>cases hd;exact ⟨_,_,ai l14 c14 k14,HA X G a14,(ai l14 c14 k14).binds fun _ _ _ _ _ _ us hl=>by obtain ⟨u0,u1,rfl⟩:=dA us hl;rfl⟩
   | 15,hd=>cases hd;exact ⟨_,_,ai l15 c15 k15,HA X G a15,(ai l15 c15 k15).binds fun _ _ _ _ _ _ us hl=>by obtain ⟨u0,u1,rfl⟩:=dA us hl;rfl⟩
   | 16,hd=>cases hd;exact ⟨_,_,ai l16 c16 k16,HA X G a16,(ai l16 c16 k16).binds fun _ _ _ _ _ _ us hl=>by obtain ⟨u0,rfl⟩:=fO us hl;rfl⟩
   | 17,hd=>cases hd;exact ⟨_,_,ai l17 c17 k17,HA X G a17,(ai l17 c17 k17).binds fun _ _ _ _ _ _ us hl=>by obtain ⟨u0,u1,u2,u3,rfl⟩:=tD us hl;rfl⟩
   | 18,hd=>cases hd;exact ⟨_,_,ai l18 c18 k18,HA X G a18,(ai l18 c18 k18).binds fun _ _ _ _ _ _ us hl=>by obtain ⟨rfl⟩:=DZ us hl;rfl⟩
   | 19,hd=>cases hd;exact ⟨_,_,ai l19 c19 k19,HA X G a19,(ai l19 c19 k19).binds fun _ _ _ _ _ _ us hl=>by obtain ⟨u0,u1,u2,rfl⟩:=jP us hl;rfl⟩
   | 20,hd=>cases hd;exact ⟨_,_,ai l20 c20 k20,HA X G a20,(ai l20 c20 k20).binds fun _ _ _ _ _ _ us hl=>by obtain ⟨u0,u1,rfl⟩:=dA us hl;rfl⟩
   | 21,hd=>cases hd;exact ⟨_,_,ai l21 c21 k21,HA X G a21,(ai l21 c21 k21).binds fun _ _ _ _ _ _ us hl=>by obtain ⟨u0,u1,u2,u3,u4,rfl⟩:=tR us hl;rfl⟩
   | 22,hd=>cases hd;exact ⟨_,_,ai l22 c22 k22,HA X G a22,(ai l22 c22 k22).binds fun _ _ _ _ _ _ us hl=>by obtain ⟨u0,u1,u2,u3,rfl⟩:=tD us hl;rfl⟩
   | 23,hd=>cases hd;exact ⟨_,_,ai l23 c23 k23,HA X G a23,(ai l23 c23 k23).binds fun _ _ _ _ _ _ us hl=>by obtain ⟨u0,rfl⟩:=fO us hl;rfl⟩
   | i+24,hd=>simp [tab] at hd
  ·intro x i hx;simp only [pY,Ha,Ht,or_false,Prod.mk.injEq] at hx
   rcases hx with ⟨rfl,rfl⟩
   ·exact ⟨_,HA X G gcst0,(GV.tups gu0 (by simp) rfl (GVs.cons (GV.tups gu1 (by simp) rfl (GVs.cons GV.ints (GVs.cons GV.ints GVs.nil))) (GVs.cons (GV.tups gu4 (by simp) rfl (GVs.cons GV.ints (GVs.cons GV.ints GVs.nil))) (GVs.cons (GV.tups gu7 (by simp) rfl (GVs.cons GV.ints (GVs.cons GV.ints GVs.nil))) GVs.nil))))⟩
 refine ⟨Kg "law" "law" (dB (aj 26)) (bV (aj 26)) (az (aj 26)) .none kV23 dc23 pm23 an23 cd23 ct23,fun s v => .of_eq rfl,fun base _ _ => ?_⟩;exact vO O 40 23 d23 _ _ rfl (ai l23 c23 k23)
theorem walk {l:Oh} {q:Hu} {loose:List Str} {XP:(Str->Option h7)->Heap->Prop} {YP:HW->Heap->Prop} {d:DefRec} {K:Params->Frag} (hn:l.most=some 63) (hdf:d.params.defaults=[])
 (hlaw:∀ ns:List Int,ns.length<=63->phi tab 40 23 [.con (ns.map D.int)] (fun _=>none) fun d _=>d = .bl true)
 (hY:∀ (w:HW) (h:Heap),YP w h->(K w.params).In h)
 (F:∀ (w:HW) (mg:Str->Option h7) (fa:Addr) (h:Heap),(K w.params).In h->h.Ns IZ mg->mg d.name=some (.ref fa) ->
   ∃ fd:KH,(∀ (s:D0) (u:h7),PH s fd ⟨[u],[]⟩ [("_law_script",u)]) /\ ∀ base:Heap,(K w.params).In base->base.Ns IZ mg->dN l.prog w (K w.params) mg base CX0 40 fa fd ["_law_script"] (lSp (K w.params) (phi tab 40 23))) :
 PySem.W.WalkO q loose XP YP l.row.toRowW d [] (fun f vs=>QX f vs) :=
 L2.walk_of (n := 63) (k := 40) (x := "_law_script") (CX:=fun _=>CX0) (sp:=fun w=>lSp (K w.params) (phi tab 40 23)) hn (by decide) hdf ⟨rfl,by decide,by decide⟩ hY F (fun w H a ns hl hO hS=>CT hO hS (hlaw ns hl)) fun _ _ _ _ _ z=>z
end K19
end
section
namespace K19
open PySem PySem.Spec PyProof.Rows L2.Srt
theorem rH {n:Nat} (j : 1<=n):tG tab n 6:=w8 (x := "_law_number") (s:=aj 9) rfl j
theorem bo {n:Nat} (j : 2<=n):jR tab n 8:=fun z h1 h2 q=>B1 (s:=aj 11) (fm := 6) rfl (rH (by lia)) j z h1 h2 q
theorem yM {n m:Nat} (j:n+1<=m) {u v:D} {M:Mem} {Q:QD} (h:Sm M n u v) (q:∀ M',Ge M M'->Q (.bl true) M'):phi tab m 9 [u,v] M Q:=Bj (s:=aj 12) (y := "_law_due") rfl j h q
theorem Dh {n:Nat} (j : 1<=n):D6 tab n 10:=fun z q=>tJ (s:=aj 13) (xp := "_law_part") (xn := "_law_number") rfl j z q
theorem yN {n:Nat} (J : 2<=n) {x0 j z:D} {p:Addr} {ps:List Pr} {M:Mem} {Q:QD} (B:M p=some (.lst (ps.map prD))) (F:(aY ps).length<=10000000) (G:∀ p∈ps,D7 p)
 (q:∀ (L:List Tm) d M',zA ps L->L.length<=10000000->Ge M M'->M d=none->M' d=some (.dct true (L.map kcD))->Q (.ref d) M'):phi tab n 11 [.tup [x0,j,z, .ref p]] M Q:=B7 (s:=aj 14) (xs := "_law_scheme") (fz := 10) rfl (Dh (by lia)) (by lia) B F G q
theorem gG {n:Nat} (j : 1<=n):rD tab n 12:=fun a b c q=>yF (s:=aj 15) (xs := "_law_sizes_here") rfl j a b c q
theorem Bm {k:Nat} (j : 1<=k) {x y z:Nat} (hx:x<=1000) (B:y<=1000) {M:Mem} {Q:QD} (q:Q (.tup [.int (x*y:Nat), .int (y*z:Nat), .int (x*z:Nat)]) M):phi tab k 13 [.tup [.int x, .int y, .int z]] M Q:=jV (s:=aj 16) rfl j hx B q
theorem tS {n:Nat} (j : 1<=n):pP tab n 14:=fun z q=>wj (s:=aj 17) rfl j z q
theorem iy {n:Nat} (B : 2<=n):mn tab 1000000 n 15:=fun a b c _ h1 h2 j _ _ _ z q=>tM EG (s:=aj 18) (y := "_law_number") (fs := 14) rfl (tS (by lia)) (by lia) a b c h1 h2 j z q
theorem ww {n:Nat} (j : 1<=n):rq tab n 16:=fun z q=>yG (s:=aj 19) (x := "_law_part") (y := "_law_number") rfl j z q
theorem iz {n:Nat} (z : 3<=n):mj tab n 17:=fun a b c d e _ f g h _ _ _ _ _ _ i j k q=>tN (s:=aj 20) (ft := 8) (fa := 16) rfl (bo (by lia)) (ww (by lia)) (by lia) a b c d e f g h i j k q
theorem kP {M M':Mem} {p:Addr} (g:Ge M M') (h:M' p=none):M p=none:=by
 cases hz:M p with
 | none=>rfl
 | some o=>rw [g _ _ hz] at h;cases h
theorem rJ {a:List Nat}:(nsD a).length=a.length:=by simp [nsD]
noncomputable def tq (C t f W a:Nat) (l:List Nat):List Nat:=l.map fun b=>(t+a)*W+(f+b)
noncomputable def tqs (C t f W:Nat) (l:List Nat):List Nat:=l.flatMap fun a=>tq C t f W a (Hi C)
theorem rK {C t f W:Nat}:∀ {l:List Nat},(tqs C t f W l).length=l.length*C
 | [] => by simp [tqs]
 | x::l=>by
   have ih:=rK (C:=C) (t:=t) (f:=f) (W:=W) (l:=l);unfold tqs at ih ⊢;rw [Jw,GR,ih,HR,J3];simp [tq];lia
theorem tT {n:Nat} (O : 1<=n) {R C t f W:Nat} (U:R<=20) (F:C<=20) (Y:t<=20) {M:Mem} {Q:QD} (q:∀ p,M p=none->Q (.ref p) (ag M p (.lst (nsD (tp R C t f W))))):phi tab n 2 [.int R, .int C, .int t, .int f, .int W] M Q:=by
 refine au (by lia) rfl rfl (ρ := [some _,some _,some _,some _,some _]) rfl ?_
 unfold d2 b2;walk_at "st";refine ⟨by lia,by lia, ?_⟩
 rw [HJ];refine ay (f:=fun i=>D.int (i:Nat)) (ys:=Hi R) (I:=fun l ρ M' acc=>(∃ o0 j, ρ = [o0,j,some (.int t),some (.int W),some (.int f),some (.int C)])/\M'=M/\acc=nsD (tqs C t f W l)) aE ⟨⟨_,_,rfl⟩,rfl,rfl⟩ (fun _ _ _ _ _=>trivial) ?_ ?_
 ·rintro l a r ρ M1 acc e ⟨⟨o0,j,rfl⟩,rfl,rfl⟩;refine ⟨_,rfl,fun N' z => ?_⟩;have G:=am e;rw [HC] at G;have J:a < R:=HG.mp (by rw [e];simp)
  walk_at "wp";refine ⟨by lia,by lia, ?_⟩
  rw [HJ];refine ay (f:=fun i=>D.int (i:Nat)) (ys:=Hi C) (I:=fun l' ρ M' acc=>(∃ j, ρ = [some (.int (a:Nat)),j,some (.int t),some (.int W),some (.int f),some (.int C)])/\M'=M1/\acc=nsD (tqs C t f W l++tq C t f W a l')) aE ⟨⟨_,rfl⟩,rfl,by simp [tq]⟩ (fun _ _ _ _ _=>trivial) ?_ ?_
  ·rintro l' b r' ρ M2 acc e' ⟨⟨j,rfl⟩,rfl,rfl⟩;refine ⟨_,rfl,fun Z B => ?_⟩;have L:=am e';rw [HC] at L;walk_at "wp";rw [<- Li, <- Jz, <- Li, <- Li];refine ⟨cm (by lia), ?_,B _ _ _ ⟨⟨_,rfl⟩,rfl, ?_⟩⟩
   ·rw [rJ,GR,rK,GU];have:l.length*C<=20*20:=I8 (by lia) F
    simp [tq];lia
   ·rw [Nz];simp [nsD,tq]
  ·rintro ρ M2 acc ⟨⟨j,rfl⟩,rfl,rfl⟩;exact z _ _ _ ⟨⟨_,_,rfl⟩,rfl,by simp [tqs,K8]⟩
 ·rintro ρ M1 acc ⟨⟨o0,j,rfl⟩,rfl,rfl⟩ p hp;exact q p hp
noncomputable abbrev t3 (x y z:Nat):List D := [.int x, .int y, .int z]
theorem S3 {x y z:Nat} {i:Nat} (h:i < 3):atI (t3 x y z) (i:Nat)=some (.int ([x,y,z].getD i 0:Nat)):=by
 match i,h with
 | 0,_=>rfl
 | 1,_=>rfl
 | 2,_=>rfl
theorem bd3 {x y z i:Nat} {B:Nat} (h1:x<=B) (h2:y<=B) (j:z<=B) (h:i < 3) : [x,y,z].getD i 0<=B:=by
 match i,h with
 | 0,_=>exact h1
 | 1,_=>exact h2
 | 2,_=>exact j
theorem rL {x:Nat×Nat} {l r:List (Nat×Nat)} (e : [((0:Nat),(1:Nat)),(1,2),(0,2)]=l++x::r):x.1 < 3/\x.2 < 3:=by
 have hm:x∈[((0:Nat),(1:Nat)),(1,2),(0,2)]:=by rw [e];simp
 simp only [Ha,Ht,or_false] at hm
 rcases hm with rfl | rfl | rfl <;> exact ⟨by decide,by decide⟩
theorem wx {k:Nat} (hk : 2<=k) {n m p a b c x y z:Nat} (hs:n<=20/\m<=20/\p<=20) (L:a<=20/\b<=20/\c<=20) {ds dc dw:D} {M:Mem} {Q:QD} (es:aq M ds=some (t3 n m p)) (ec:aq M dc=some (t3 a b c)) (ew:aq M dw=some (t3 x y z))
 (q:∀ pl j p1 p2 M',Ge M M'->M pl=none->M' pl=some (.lst [.ref j, .ref p1, .ref p2])->M' j=some (.lst (nsD (tp n m a b y)))->M' p1=some (.lst (nsD (tp m p b c z)))->M' p2=some (.lst (nsD (tp n p a c z)))->Q (.ref pl) M'):phi tab k 3 [ds,dc,dw] M Q:=by
 refine au (by lia) rfl rfl (ρ := [some _,some _,some _]) rfl ?_
 unfold d3 L2.Mi.K19.b3;walk_at "st";refine ay (f:=fun q:Nat×Nat=>D.tup [.int (q.1:Nat), .int (q.2:Nat)]) (ys := [(0,1),(1,2),(0,2)]) (I:=fun l ρ M' acc=>(∃ o0 O, ρ = [o0,O,some ds,some dc,some dw])/\Ge M M' /\ ∃ qs:List (Addr×Nat×Nat),qs.map (·.2)=l/\acc=qs.map (fun q => .ref q.1) /\ ∀ q∈qs,M' q.1=some (.lst (nsD (tp ([n,m,p].getD q.2.1 0) ([n,m,p].getD q.2.2 0) ([a,b,c].getD q.2.1 0) ([a,b,c].getD q.2.2 0) ([x,y,z].getD q.2.2 0))))) rfl ⟨⟨_,_,rfl⟩,Ge.refl,[],rfl,rfl,fun _ h=>by cases h⟩ (fun _ _ _ _ _=>by first | rfl | trivial) ?_ ?_
 ·rintro l w r ρ M2 acc e ⟨⟨o0,O,rfl⟩,g2,qs,rfl,rfl,B⟩;refine ⟨_,rfl,fun N' U => ?_⟩;have F:=am e;rw [D2] at F;have hx:=rL e;walk_at "wp";refine gy (cN es g2) (S3 hx.1) (gy (cN es g2) (S3 hx.2) (gy (cN ec g2) (S3 hx.1) (gy (cN ec g2) (S3 hx.2) (gy (cN ew g2) (S3 hx.2) ?_))));refine tT (by lia) (bd3 hs.1 hs.2.1 hs.2.2 hx.1) (bd3 hs.1 hs.2.1 hs.2.2 hx.2) (bd3 L.1 L.2.1 L.2.2 hx.1) fun pb Y => ?_
  have g3:=Ge.new (o := .lst (nsD (tp ([n,m,p].getD w.1 0) ([n,m,p].getD w.2 0) ([a,b,c].getD w.1 0) ([a,b,c].getD w.2 0) ([x,y,z].getD w.2 0)))) Y;walk_at "wp";refine ⟨by rw [D2,GU];simp at F;lia,U _ _ _ ⟨⟨_,_,rfl⟩,g2.trans g3,qs++[(pb,w)],by simp,by simp,fun y hy => ?_⟩⟩
  rcases Hj.mp hy with h | h
  ·exact g3 _ _ (B y h)
  ·simp at h;subst h;exact ad
 ·rintro ρ M2 acc ⟨⟨o0,O,rfl⟩,g2,qs,G,rfl,B⟩ pl J;obtain ⟨j,p1,p2,rfl⟩:∃ j p1 p2,qs=[(j,0,1),(p1,1,2),(p2,0,2)]:=by
   have Z:qs.length=3:=by simpa using congrArg KJ G
   clear B
   match qs,Z,G with
   | [x,y,z],_,h =>
    obtain ⟨j,x⟩:=x;obtain ⟨p1,y⟩:=y;obtain ⟨p2,z⟩:=z;simp at h;obtain ⟨rfl,rfl,rfl⟩:=h;exact ⟨j,p1,p2,rfl⟩
  have g3:=Ge.new (o := .lst ([(j,0,1),(p1,1,2),(p2,0,2)].map fun q:Addr×Nat×Nat=>D.ref q.1)) J;exact q pl j p1 p2 _ (g2.trans g3) (kP g2 J) ad (g3 _ _ (B _ (by simp:(j,0,1)∈_))) (g3 _ _ (B _ (by simp:(p1,1,2)∈_))) (g3 _ _ (B _ (by simp:(p2,0,2)∈_)))
theorem tU {i:Nat} (h:i < 3):ixN 3 (i:Nat)=some i:=by
 unfold ixN;rw [if_pos (by lia),if_pos (by lia)];simp
structure Fit (n m p x y z a b c:Nat):Prop where
 x:a+n<=x
 y:b+m<=y
 z:c+p<=z
theorem wy {k:Nat} (hk : 4<=k) {n m p n' m' p' x y z a b c side ss oo:Nat} (B:side < 3) (hW:(t3 n m p).set side (.int ((ss:Int)+(oo:Int)))=t3 x y z) (hC:(t3 0 0 0).set side (.int ss)=t3 a b c) (hss:atI (t3 n m p) (side:Nat)=some (.int ss)) (ER:atI (t3 n' m' p') (side:Nat)=some (.int oo))
 (f1:Fit n m p x y z 0 0 0) (f2:Fit n' m' p' x y z a b c) (h1 : 1<=m/\1<=p) (h2 : 1<=m'/\1<=p') (F:x<=20/\y<=20/\z<=20) {ps us:List Pr} (lps:∀ u∈ps,Ln n m p u) (lus:∀ u∈us,Ln n' m' p' u) (EX:ps.length<=1000) (EY:us.length<=1000) {x0 x1 x2 y0 y1 y2:D} {po pi:Addr} {M:Mem} {Q:QD} (ho:M po=some (.lst (ps.map prD))) (hi:M pi=some (.lst (us.map prD)))
 (q:∀ pf M',Ge M M'->M pf=none->M' pf=some (.lst ((ps.map (dlP n m p x y z 0 0 0)++us.map (dlP n' m' p' x y z a b c)).map prD))->Q (.tup [.int (x*y:Nat), .int (y*z:Nat), .int (x*z:Nat), .ref pf]) M') :
 phi tab k 4 [.tup [x0,x1,x2, .ref po], .tup (t3 n m p), .tup [y0,y1,y2, .ref pi], .tup (t3 n' m' p'), .int (side:Nat)] M Q:=by
 have mm:∀ {a b c d:Nat},a<=c->b<=d->a*b<=c*d:=fun h1 h2=>I8 h1 h2;obtain ⟨U,Y,Z⟩:=id f1;obtain ⟨EJ,EK,EL⟩:=id f2;have s3 : 0+1+1+1<=GX:=by rw [GU];lia
 refine au (by lia) rfl rfl (ρ := [some _,some _,some _,some _,some _,none,none,none,none]) rfl ?_
 unfold d4 L2.Mi.K19.b4;walk_at "st";refine ⟨_,_,rfl,rfl,fun pw EM => ?_⟩;have g1:=Ge.new (o := .lst (t3 n m p)) EM;have e1:=ad (M:=M) (a:=pw) (o := .lst (t3 n m p));generalize ag M pw (.lst (t3 n m p))=M1 at g1 e1 ⊢;walk_at "st";refine ⟨pw,_,_, .int ss,rfl,rfl,e1,hss, ?_⟩;walk_at "wp";refine ⟨_,ER, ?_⟩;walk_at "wp";refine bU e1 (j:=side) (tU B) ?_;rw [hW];have g2:=g1.upd (o := .lst (t3 x y z)) EM;have e2:=ad (M:=M1) (a:=pw) (o := .lst (t3 x y z));generalize ag M1 pw (.lst (t3 x y z))=M2 at g2 e2 ⊢;clear g1 e1;walk_at "st";refine ⟨s3,fun pc G => ?_⟩;have g3:=Ge.new (o := .lst (t3 0 0 0)) G;have e3:=ad (M:=M2) (a:=pc) (o := .lst (t3 0 0 0));generalize ES:ag M2 pc (.lst (t3 0 0 0))=M3 at g3 e3 ⊢;have EN:M pc=none:=kP g2 G;have ET:pw≠pc:=fun w=>by rw [<- w,e2] at G;cases G
 have e2:=g3 _ _ e2;walk_at "st";refine ⟨_,hss, ?_⟩;refine bU e3 (j:=side) (tU B) ?_;rw [hC];have g4:=(g2.trans g3).upd (o := .lst (t3 a b c)) EN;have e4:=ad (M:=M3) (a:=pc) (o := .lst (t3 a b c));have e2:ag M3 pc (.lst (t3 a b c)) pw=some (.lst (t3 x y z)):=by rw [aK ET];exact e2
 generalize ag M3 pc (.lst (t3 a b c))=M4 at g4 e4 e2 ⊢;clear g2 g3 e3 ES;walk_at "st";refine ay (f:=fun q:Nat×Nat=>D.tup [.int (q.1:Nat), .int (q.2:Nat)]) (ys := [(0,1),(1,2),(0,2)]) (I:=fun l ρ M' acc=>(∃ o0 o1, ρ = [o0,o1,some (.ref pw)])/\M'=M4/\acc=l.map fun q => .int ([x,y,z].getD q.1 0*[x,y,z].getD q.2 0:Nat)) rfl ⟨⟨_,_,rfl⟩,rfl,rfl⟩ (fun _ _ _ _ _=>by first | rfl | trivial) ?_ ?_
 ·rintro l w r ρ M5 acc e ⟨⟨o0,o1,rfl⟩,rfl,rfl⟩;refine ⟨_,rfl,fun N' EU => ?_⟩;have EZ:l.length < 3:=am e;have hx:=rL e;have EV:=bd3 F.1 F.2.1 F.2.2 hx.1;walk_at "wp";refine aT e2 (S3 hx.1) (aT e2 (S3 hx.2) ?_);walk_at "wp";rw [<- Jz];exact ⟨cm ⟨by lia,KY.mpr (Nc EV (by decide))⟩,by rw [D2,GU];lia,EU _ _ _ ⟨⟨_,_,rfl⟩,rfl,by simp⟩⟩
 rintro ρ M5 acc ⟨⟨o0,o1,rfl⟩,rfl,rfl⟩ pq hpq;have g5:=Ge.new (o := .lst ([(0,1),(1,2),(0,2)].map fun q:Nat×Nat=>D.int ([x,y,z].getD q.1 0*[x,y,z].getD q.2 0:Nat))) hpq;refine ⟨_,_,rfl,af ad, ?_⟩;generalize ag M5 pq (.lst ([(0,1),(1,2),(0,2)].map fun q:Nat×Nat=>D.int ([x,y,z].getD q.1 0*[x,y,z].getD q.2 0:Nat)))=M6 at g5 ⊢;have e2:=g5 _ _ e2;have e4:=g5 _ _ e4;have g6:=g4.trans g5;clear g4 g5 hpq;have w1:x*y<=20*20:=mm F.1 F.2.1;have w2:y*z<=20*20:=mm F.2.1 F.2.2;have w3:x*z<=20*20:=mm F.1 F.2.2;have ml:∀ l:D,l = .tup [.int (x*y:Nat), .int (y*z:Nat), .int (x*z:Nat)]->l = .tup ([(0,1),(1,2),(0,2)].map fun q:Nat×Nat=>D.int ([x,y,z].getD q.1 0*[x,y,z].getD q.2 0:Nat)):=fun l h=>h;rw [<- ml _ rfl];walk_at "st";refine ⟨_,rfl,s3, ?_⟩;refine wx (by lia) (a := 0) (b := 0) (c := 0) (by lia) (by lia) rfl rfl (af e2) fun pl p0 p1 p2 M7 g7 _ el q0 q1 q2 => ?_
 refine mf (s:=aj 3) (fm := 0) rfl (pQ (s:=aj 2) rfl (by lia)) (by lia) (by lia) (by lia) (by lia) (by lia) (ic U Y) (ic Y Z) (ic U Z) (g7 _ _ (g6 _ _ ho)) el q0 q1 q2 fun pf M8 L EO e8 => ?_
 rw [wu h1 U Y Z lps] at e8;have L:=g7.trans L;have e2:=L _ _ e2;have e4:=L _ _ e4;have O:M pf=none:=kP (g6.trans g7) EO;have L:=g6.trans L;clear g6 g7 el q0 q1 q2 EO;walk_at "st";refine ⟨_,rfl, ?_⟩;refine wx (by lia) (by lia) (by lia) rfl (af e4) (af e2) fun pl p0 p1 p2 M9 g9 _ el q0 q1 q2 => ?_
 refine mf (s:=aj 3) (fm := 0) rfl (pQ (s:=aj 2) rfl (by lia)) (by lia) (by lia) (by lia) (by lia) (by lia) (ic EJ EK) (ic EK EL) (ic EJ EL) (g9 _ _ (L _ _ hi)) el q0 q1 q2 fun pg F1 J EW EQ => ?_
 rw [wu h2 EJ EK EL lus] at EQ;have e8:=(g9.trans J) _ _ e8;have J:=L.trans (g9.trans J);refine ⟨pf,pg,_,_,rfl,rfl,e8,EQ,by simp only [D2];rw [GU];lia, ?_⟩
 walk_at "wp";walk_at "st";refine ⟨by rw [GU];lia, .inr trivial,by rw [GU];simp, ?_⟩
 refine q pf _ (J.upd O) O ?_;rw [ad,IB]
theorem E9 {l:List Int} {n:Nat} (h:n < l.length):l[n]? = some (gz l (n:Nat)):=by
 unfold gz;rw [if_neg (by lia),HJ,I0,D1 h];rfl
noncomputable def dI (l:List Int) (R C W t f:Nat) (xs:List Nat):List Int:=xs.flatMap fun r=>(Hi W).map fun c=>dv l R C t f r c
theorem wz {l:List Int} {R C W t f:Nat}:∀ {xs:List Nat},(dI l R C W t f xs).length=xs.length*W
 | [] => by simp [dI]
 | x::xs=>by
   have ih:=wz (l:=l) (R:=R) (C:=C) (W:=W) (t:=t) (f:=f) (xs:=xs);unfold dI at ih ⊢;rw [Jw,GR,ih,HR,J3];simp;lia
theorem kQ {k:Nat} (hk : 1<=k) {l:List Int} {R C H W t f:Nat} (hl:l.length=R*C) (hR:R<=20) (hC:C<=20) (hH:H<=20) (hW:W<=20) {M:Mem} {Q:QD} (q:∀ M',Ge M M'->Q (.tup ((dl l R C H W t f).map .int)) M'):phi tab k 21 [.tup (l.map .int), .int R, .int C, .tup [.int H, .int W], .tup [.int t, .int f]] M Q:=by
 refine au (by lia) rfl rfl (ρ := [some _,some _,some _,some _,some _,none,none,none,none,none,none]) rfl ?_
 unfold d21 L2.Mi.K19.b21;walk_at "st";refine ⟨by rw [GU];lia,fun pf U => ?_⟩
 have g1:=Ge.new (o := .lst []) U;have e1:=ad (M:=M) (a:=pf) (o := .lst []);generalize ag M pf (.lst [])=M1 at g1 e1 ⊢;walk_at "st";refine ⟨_,rfl,_,rfl,by lia,by lia, ?_⟩
 rw [HJ];refine aP (I:=fun xs ρ M'=>(∃ Y J z B j, ρ = [some (.tup (l.map .int)),some (.int R),some (.int C),some (.tup [.int H, .int W]),some (.tup [.int t, .int f]),some (.ref pf),Y,J,z,B,j])/\Ge M M'/\M' pf=some (.lst ((dI l R C W t f xs).map .int))) aE ⟨⟨_,_,_,_,_,rfl⟩,g1,e1⟩ (fun _ _ _ _=>trivial) ?_ ?_
 ·rintro xs r xs' ρ M2 e ⟨⟨Y,J,z,B,j,rfl⟩,g2,e2⟩;refine ⟨_,rfl,fun F hF => ?_⟩;have hr:=am e;rw [HC] at hr;walk_at "st";refine ⟨_,rfl,_,rfl,by lia,by lia, ?_⟩
  rw [HJ];refine aP (I:=fun ys ρ M'=>(∃ J z B j, ρ = [some (.tup (l.map .int)),some (.int R),some (.int C),some (.tup [.int H, .int W]),some (.tup [.int t, .int f]),some (.ref pf),some (.int (r:Nat)),J,z,B,j])/\Ge M M'/\M' pf=some (.lst ((dI l R C W t f xs++ys.map fun c=>dv l R C t f r c).map .int))) aE ⟨⟨_,_,_,_,rfl⟩,g2,by simpa using e2⟩ (fun _ _ _ _=>trivial) ?_ ?_
  ·rintro ys c ys' ρ Z e' ⟨⟨J,z,B,j,rfl⟩,g3,L⟩;refine ⟨_,rfl,fun F2 EJ => ?_⟩;have hc:=am e';rw [HC] at hc;have hlen:(((dI l R C W t f xs++ys.map fun c=>dv l R C t f r c)).map D.int).length < GX:=by
    rw [D2,GR,D2,wz,GU];have:xs.length*W<=20*20:=I8 (by lia) hW
    lia
   have fin:∀ {z B j:Option D} {v:Int},v=dv l R C t f r c->F2 [some (.tup (l.map .int)),some (.int R),some (.int C),some (.tup [.int H, .int W]),some (.tup [.int t, .int f]),some (.ref pf),some (.int (r:Nat)),some (.int (c:Nat)),z,B,j] (ag Z pf (.lst (((dI l R C W t f xs++ys.map fun c=>dv l R C t f r c)).map .int++[.int v]))):=fun {_ _ _ v} h=>by
    refine EJ _ _ ⟨⟨_,_,_,_,rfl⟩,g3.upd U, ?_⟩;rw [ad,h];simp
   walk_at "st";refine ⟨_,rfl,_,rfl, ?_⟩;walk_at "wp";refine cn (fun ρ M' => ∃ b:Bool, ρ = [some (.tup (l.map .int)),some (.int R),some (.int C),some (.tup [.int H, .int W]),some (.tup [.int t, .int f]),some (.ref pf),some (.int (r:Nat)),some (.int (c:Nat)),some (.int ((r:Int) - t)),some (.int ((c:Int) - f)),some (.bl b)]/\(b=true↔(t<=r/\r < t+R)/\(f<=c/\c < f+C))/\M'=Z) (fun R0 G => ?_) ?_
   ·walk_at "wp"
    by_cases c1:(0:Int)<=(r:Int) - t
    ·rw [if_pos c1]
     by_cases c2:(r:Int) - t < R
     ·rw [if_pos c2]
      by_cases c3:(0:Int)<=(c:Int) - f
      ·rw [if_pos c3];exact G _ _ ⟨_,rfl,by rw [decide_eq_true_eq];lia,rfl⟩
      ·rw [if_neg c3];exact G _ _ ⟨_,rfl,⟨fun w=>absurd w H0,fun w=>absurd w (by lia)⟩,rfl⟩
     ·rw [if_neg c2];exact G _ _ ⟨_,rfl,⟨fun w=>absurd w H0,fun w=>absurd w (by lia)⟩,rfl⟩
    ·rw [if_neg c1];exact G _ _ ⟨_,rfl,⟨fun w=>absurd w H0,fun w=>absurd w (by lia)⟩,rfl⟩
   ·rintro ρ M4 ⟨b,rfl,O,rfl⟩;walk_at "st"
    cases b with
    | true =>
      have O:=O.mp rfl;have a1:r - t < R:=by lia
      have a2:c - f < C:=by lia
      have EK:=et a1 a2;have ei:((r:Int) - t)*C+((c:Int) - f)=(((r - t)*C+(c - f):Nat):Int):=by
       rw [Li,Jz,QN O.1.1,QN O.2.1]
      walk_at "wp";refine ⟨⟨_,L⟩,true,rfl, ?_⟩;rw [if_pos rfl,ei];refine ⟨cm (by lia), .int (gz l (((r - t)*C+(c - f):Nat):Int)), ?_,pf,_,_,rfl,rfl,L,hlen,fin ?_⟩
      ·exact eY (by rw [HB,E9 (by lia)];rfl)
      ·unfold dv;rw [if_pos O]
    | false =>
      walk_at "wp";refine ⟨⟨_,L⟩,false,rfl, ?_⟩;rw [if_neg (by decide)]
      refine ⟨pf,_,_,rfl,rfl,L,hlen,fin ?_⟩;unfold dv;rw [if_neg (fun w=>absurd (O.mpr w) H0)]
  ·rintro ρ Z ⟨⟨J,z,B,j,rfl⟩,g3,L⟩;dsimp only;walk_at "wp";exact hF _ _ ⟨⟨_,_,_,_,_,rfl⟩,g3,by rw [L];simp [dI,K8]⟩
 ·rintro ρ M2 ⟨⟨Y,J,z,B,j,rfl⟩,g2,e2⟩;dsimp only;walk_at "st";exact ⟨_,_,rfl,af e2,q _ g2⟩
theorem pZ {k:Nat} (hk : 2<=k) {n m p x y z a b c:Nat} (hs:n<=20/\m<=20/\p<=20) (hb:x<=20/\y<=20/\z<=20) {ps:List Pr} (lps:∀ u∈ps,Ln n m p u) (EJ:ps.length<=1000) {x0 Y Z:D} {po:Addr} {M:Mem} {Q:QD} (ho:M po=some (.lst (ps.map prD)))
 (q:∀ pf M',Ge M M'->M pf=none->M' pf=some (.lst ((ps.map (dlP n m p x y z a b c)).map prD))->Q (.ref pf) M'):phi tab k 22 [.tup [x0,Y,Z, .ref po], .tup (t3 n m p), .tup (t3 x y z), .tup (t3 a b c)] M Q:=by
 refine au (by lia) rfl rfl (ρ := [some _,some _,some _,some _,none,none,none,none,none,none,none,none,none,none,none,none,none,none,none]) rfl ?_
 unfold d22 L2.Mi.K19.b22;walk_at "st";refine ⟨_,rfl, ?_⟩;refine ⟨_,rfl, ?_⟩;refine ⟨_,rfl, ?_⟩;refine ⟨_,rfl, ?_⟩;walk_at "st";refine ⟨by rw [GU];lia,fun pf j => ?_⟩
 have g1:=Ge.new (o := .lst []) j;have e1:=ad (M:=M) (a:=pf) (o := .lst []);generalize ag M pf (.lst [])=M1 at g1 e1 ⊢;walk_at "st";refine ⟨_,rfl,_,af (g1 _ _ ho), ?_⟩;have s2 : 0+1+1<=GX:=by rw [GU];lia
 have s3 : 0+1+1+1<=GX:=by rw [GU];lia
 refine aP (f:=prD) (ys:=ps) (I:=fun l ρ M'=>(∃ B G J L O, ρ = [some (.tup [x0,Y,Z, .ref po]),some (.tup (t3 n m p)),some (.tup (t3 x y z)),some (.tup (t3 a b c)),some (.int n),some (.int m),some (.int p),some (.int x),some (.int y),some (.int z),some (.int a),some (.int b),some (.int c),some (.ref pf),B,G,J,L,O])/\Ge M M'/\M' pf=some (.lst ((l.map (dlP n m p x y z a b c)).map prD))) rfl ⟨⟨_,_,_,_,_,rfl⟩,g1,e1⟩ (fun _ _ _ h=>af (h.2.1 _ _ ho)) ?_ ?_
 ·rintro l u r ρ M2 e ⟨⟨B,G,J,L,O,rfl⟩,g2,e2⟩;refine ⟨_,rfl,fun F hF => ?_⟩;have EK:=am e;have lu:Ln n m p u:=lps u (by rw [e];simp)
  obtain ⟨l0,l1,l2⟩:=lu;walk_at "st";refine ⟨s2,s2, ?_⟩;refine kQ (by lia) l0 (by lia) (by lia) (by lia) (by lia) fun M3 g3 => ?_
  walk_at "st";refine ⟨s2,s2, ?_⟩;refine kQ (by lia) l1 (by lia) (by lia) (by lia) (by lia) fun M4 g4 => ?_
  walk_at "st";refine ⟨⟨_,(g3.trans g4) _ _ e2⟩,s2,s2, ?_⟩;refine kQ (by lia) l2 (by lia) (by lia) (by lia) (by lia) fun M5 U => ?_
  have U:=g3.trans (g4.trans U);refine ⟨s3,pf,_,_,rfl,rfl,U _ _ e2,by rw [D2,D2,GU];lia, ?_⟩
  refine hF _ _ ⟨⟨_,_,_,_,_,rfl⟩,(g2.trans U).upd j, ?_⟩;rw [ad];simp [prD,dlP]
 ·rintro ρ M2 ⟨⟨B,G,J,L,O,rfl⟩,g2,e2⟩;dsimp only;walk_at "st";exact q _ _ g2 j e2
theorem up {v:Int} {c N:Nat} (h0 : 0<=v) (h1:v < N):∃ n:Nat,(c:Int)+v=n/\c<=n/\n+1<=N+c:=⟨((c:Int)+v).toNat,by lia,by lia,by lia⟩
theorem q8 {k:Nat} (hk : 2<=k) {N:Nat} {Ni:Int} (G:Ni=(N:Int)) (U : 1<=N/\N<=10) {bx:Addr} {Y Z o3:Option D} {M:Mem} {Q:QD} (hb:Box bx M)
 (q:∀ p d0 d1 d2 M',(1<=d0/\d0<=N)/\(1<=d1/\d1<=N)/\(1<=d2/\d2<=N)->Bx bx M M'->M p=none->p≠bx->M' p=some (.lst (t3 d0 d1 d2))->Q (.ref p) M') :
 wE (phi tab k) (.comp [none,(some 0)] ["_law_turn", "_law_box_here"] (.last (.rng1 (.int 3)) (.name 0) .nil (.bin .add (.int 1) (.call 8 (.cons (.var 1) (.cons (.int Ni) .nil)))))) [some (.ref bx),Y,Z,o3] M Q:=by
 subst G;walk_at "wp";refine ⟨by lia,by lia, ?_⟩
 refine ay (f:=fun i=>D.int (i:Nat)) (ys:=Hi 3) (I:=fun l ρ M' acc=>(∃ o0, ρ = [o0,some (.ref bx)])/\Bx bx M M' /\ ∃ ns:List Nat,acc=nsD ns/\ns.length=l.length /\ ∀ x∈ns,1<=x/\x<=N) aE ⟨⟨_,rfl⟩,Bx.refl hb,[],rfl,rfl,fun _ h=>by cases h⟩ (fun _ _ _ _ _=>trivial) ?_ ?_
 ·rintro l a r ρ M1 acc e ⟨⟨o0,rfl⟩,B,ns,rfl,z,j⟩;refine ⟨_,rfl,fun N' J => ?_⟩;have ha:=am e;rw [HC] at ha;walk_at "wp";refine bo (by lia) B.box (by lia) (Int.le_trans (Int.ofNat_le.mpr U.2) (by decide)) fun v M2 v0 v1 x2 => ?_
  obtain ⟨n,L,n1,n2⟩:=up (c := 1) v0 v1;walk_at "wp";refine ⟨by rw [rJ,GU];lia,J _ _ _ ⟨⟨_,rfl⟩,B.trans x2,ns++[n], ?_,by simp [z],fun y hy => ?_⟩⟩
  ·have L:(1:Int)+v=n:=L;rw [L];simp [nsD]
  ·rcases Hj.mp hy with h | h
   ·exact j y h
   ·simp at h;subst h;lia
 ·rintro ρ M1 acc ⟨⟨o0,rfl⟩,B,ns,rfl,z,j⟩ p O;rw [HC] at z
  match ns,z with
  | [d0,d1,d2],_ =>
   have F:p≠bx:=fun w=>by obtain ⟨_,_,_,e⟩:=B.box;rw [<- w,O] at e;cases e
   exact q p d0 d1 d2 _ ⟨j _ (by simp),j _ (by simp),j _ (by simp)⟩ (B.ge (Ge.new O)) (B.none O F) F ad
def O1 (d0 d1 d2:Nat):Prop:=((1<=d0/\d0<=4)/\(1<=d1/\d1<=4)/\(1<=d2/\d2<=4))∨((5<=d0/\d0<=9)/\(1<=d1/\d1<=2)/\(1<=d2/\d2<=2))∨((1<=d0/\d0<=2)/\(5<=d1/\d1<=9)/\(1<=d2/\d2<=2))∨((1<=d0/\d0<=2)/\(1<=d1/\d1<=2)/\(5<=d2/\d2<=9))
theorem tV {k:Nat} (hk : 3<=k) {side:Nat} (B:side < 3) {bx:Addr} {M:Mem} {Q:QD} (hb:Box bx M)
 (q:∀ (n m p n' m' p' v:Nat) M',O1 n m p->t3 n' m' p'=(t3 n m p).set side (.int v)->1<=v->v<=4->(4 < [n,m,p].getD side 0->v<=2)->Bx bx M M'->Q (.tup [.tup (t3 n m p), .tup (t3 n' m' p')]) M'):phi tab k 20 [.ref bx, .int (side:Nat)] M Q:=by
 have s3 : 0+1+1+1<=GX:=by rw [GU];lia
 refine au (by lia) rfl rfl (ρ := [some _,some _,none,none]) rfl ?_
 unfold d20 L2.Mi.K19.b20;refine cn (fun ρ M' => ∃ pa d0 d1 d2:Nat, ρ = [some (.ref bx),some (.int (side:Nat)),some (.ref pa),none]/\((1<=d0/\d0<=4)/\(1<=d1/\d1<=4)/\(1<=d2/\d2<=4))/\Bx bx M M'/\pa≠bx/\M' pa=some (.lst (t3 d0 d1 d2))) (fun R Y => ?_) ?_
 ·dsimp only [wS,fH];refine q8 (k:=k - 1) (N := 4) (by lia) rfl (by decide) hb fun p d0 d1 d2 M' hd F np nb ep=>⟨_,rfl, ?_⟩
  exact Y _ _ ⟨p,d0,d1,d2,rfl,hd,F,nb,ep⟩
 rintro ρ M1 ⟨pa,d0,d1,d2,rfl,hd,F,nb,ea⟩;refine cn (fun ρ M' => ∃ pa d0 d1 d2:Nat, ρ = [some (.ref bx),some (.int (side:Nat)),some (.ref pa),none]/\((1<=d0/\d0<=4)/\(1<=d1/\d1<=4)/\(1<=d2/\d2<=4))/\Bx bx M M'/\pa≠bx/\M' pa=some (.lst (t3 d0 d1 d2))) (fun R Y => ?_) ?_
 ·walk_at "wp";refine bo (by lia) F.box (by decide) (by decide) fun w M2 _ _ Z => ?_
  walk_at "wp"
  by_cases hw:w=0
  ·rw [if_pos (by simp [hw]),bT]
   walk_at "wp";refine ⟨s3,fun pl EK => ?_⟩;have J:=F.trans Z;have L:pl≠bx:=fun w=>by obtain ⟨_,_,_,e⟩:=J.box;rw [<- w,EK] at e;cases e
   exact Y _ _ ⟨pl,2,2,2,rfl,by decide,J.ge (Ge.new EK),L,ad⟩
  ·rw [if_neg (by simp [hw])]
   exact Y _ _ ⟨pa,d0,d1,d2,rfl,hd,F.trans Z,nb,Z.keep _ _ nb ea⟩
 clear hd F nb ea pa d0 d1 d2;rintro ρ M1 ⟨pa,d0,d1,d2,rfl,hd,F,nb,ea⟩;refine cn (fun ρ M' => ∃ pa d0 d1 d2:Nat, ρ = [some (.ref bx),some (.int (side:Nat)),some (.ref pa),none]/\O1 d0 d1 d2/\Bx bx M M'/\pa≠bx/\M' pa=some (.lst (t3 d0 d1 d2))) (fun R Y => ?_) ?_
 ·walk_at "wp";refine bo (by lia) F.box (by decide) (by decide) fun w M2 _ _ Z => ?_
  have EJ:=F.trans Z;walk_at "wp"
  by_cases hw:w=0
  ·rw [if_pos (by simp [hw]),bT]
   dsimp only [wS,fH];refine q8 (k:=k - 1) (N := 2) (by lia) rfl (by decide) Z.box fun pc c0 c1 c2 M3 hc J npc nbc ec=>⟨_,rfl, ?_⟩
   have EL:M pc=none:=EJ.none npc nbc;have J:=EJ.trans J;walk_at "st";refine bo (by lia) J.box (by decide) (by decide) fun v U v0 v1 G => ?_
   obtain ⟨h,eh,h5,h9⟩:=up (c := 5) (N := 5) v0 v1;have eh:(5:Int)+v=h:=eh;walk_at "wp";rw [eh];refine bo (by lia) (J.trans G).box (by decide) (by decide) fun u M5 u0 u1 x5 => ?_
   have ec:=x5.keep _ _ nbc (G.keep _ _ nbc ec);have x5:=(J.trans G).trans x5;obtain ⟨u,rfl⟩:=Kd u0;have hu:u < 3:=by lia
   refine bU ec (j:=u) (tU hu) ?_;have x6:=x5.upd (o := .lst ((t3 c0 c1 c2).set u (.int h))) EL nbc;have ec:=ad (M:=M5) (a:=pc) (o := .lst ((t3 c0 c1 c2).set u (.int h)))
   match u,hu with
   | 0,_=>exact Y _ _ ⟨pc,h,c1,c2,rfl, .inr (.inl (by lia)),x6,nbc,ec⟩
   | 1,_=>exact Y _ _ ⟨pc,c0,h,c2,rfl, .inr (.inr (.inl (by lia))),x6,nbc,ec⟩
   | 2,_=>exact Y _ _ ⟨pc,c0,c1,h,rfl, .inr (.inr (.inr (by lia))),x6,nbc,ec⟩
  ·rw [if_neg (by simp [hw])]
   exact Y _ _ ⟨pa,d0,d1,d2,rfl, .inl hd,EJ,nb,Z.keep _ _ nb ea⟩
 clear hd F nb ea pa d0 d1 d2;rintro ρ M1 ⟨pa,d0,d1,d2,rfl,hd,F,nb,ea⟩;walk_at "st";refine ⟨_,_,rfl,af ea,fun pe O => ?_⟩;have L:pe≠bx:=fun w=>by obtain ⟨_,_,_,e⟩:=F.box;rw [<- w,O] at e;cases e
 have EM:M pe=none:=F.none O L;have g2:=Ge.new (o := .lst (t3 d0 d1 d2)) O;have ee:=ad (M:=M1) (a:=pe) (o := .lst (t3 d0 d1 d2));have EN:pa≠pe:=fun w=>by rw [<- w,ea] at O;cases O
 generalize ag M1 pe (.lst (t3 d0 d1 d2))=M2 at g2 ee ⊢;have Z:=F.ge g2;have ea:=g2 _ _ ea;walk_at "st";have s2 : 0+1+1<=GX:=by rw [GU];lia
 refine ⟨s2,fun pz EO => ?_⟩;have g3:=Ge.new (o := .lst [.int 4, .int 2]) EO;have ez:=ad (M:=M2) (a:=pz) (o := .lst [.int 4, .int 2]);generalize ag M2 pz (.lst [.int 4, .int 2])=M3 at g3 ez ⊢;have J:=Z.ge g3;have ea:=g3 _ _ ea;have ee:=g3 _ _ ee;refine aT ea (S3 B) ?_;walk_at "wp";have fin:∀ {W:Nat},W<=4->(4 < [d0,d1,d2].getD side 0->W<=2) -> ∀ w U,0<=w->w < (W:Int)->Bx bx M3 U->eD (.ref pe) (.int (side:Nat)) (.int (1+w)) U fun M5=>wSs (phi tab (k - 1)) (.cons (.ret (.tup (.cons (.blt .tuple (.cons (.var 2) .nil)) (.cons (.blt .tuple (.cons (.var 3) .nil)) .nil)))) .nil) { nx:=fun x M'=>Q .non M',rt:=Q } [some (.ref bx),some (.int (side:Nat)),some (.ref pa),some (.ref pe)] M5:=fun {W} hW hl w U w0 w1 G=>by
  have ee:=G.keep _ _ L ee;have ea:=G.keep _ _ nb ea;have G:=(J.trans G).upd (o := .lst ((t3 d0 d1 d2).set side (.int (1+w)))) EM L;refine bU ee (j:=side) (tU B) ?_;have ee:=ad (M:=U) (a:=pe) (o := .lst ((t3 d0 d1 d2).set side (.int (1+w))));have ea:ag U pe (.lst ((t3 d0 d1 d2).set side (.int (1+w)))) pa=some (.lst (t3 d0 d1 d2)):=by rw [aK EN];exact ea
  obtain ⟨v,ev,v1,v2⟩:=up (c := 1) w0 w1;have ev:(1:Int)+w=v:=ev;rw [ev] at ee ea G ⊢;walk_at "st";refine ⟨_,_,rfl,af ea,_,_,rfl,af ee,s2, ?_⟩;have e3:∃ n' m' p':Nat,t3 n' m' p'=(t3 d0 d1 d2).set side (.int v):=by
   match side,B with
   | 0,_=>exact ⟨v,d1,d2,rfl⟩
   | 1,_=>exact ⟨d0,v,d2,rfl⟩
   | 2,_=>exact ⟨d0,d1,v,rfl⟩
  obtain ⟨n',m',p',e3⟩:=e3;have:=q d0 d1 d2 n' m' p' v _ hd e3 v1 (by lia) (fun z=>by have:=hl z;lia) G
  rw [e3] at this;exact this
 by_cases hc:(4:Int) < ([d0,d1,d2].getD side 0:Nat)
 ·rw [if_pos hc];refine aT ez rfl (bo (by lia) J.box (by decide) (by decide) fun w U w0 w1 G => ?_)
  walk_at "wp";exact fin (W := 2) (by decide) (fun _=>Hc _) w U w0 w1 G
 ·rw [if_neg hc];refine aT ez rfl (bo (by lia) J.box (by decide) (by decide) fun w U w0 w1 G => ?_)
  walk_at "wp";exact fin (W := 4) (by decide) (fun z=>absurd (KY.mpr z) hc) w U w0 w1 G
theorem bb {x y z K:Nat} (A B C:Nat) (h:x<=A/\y<=B/\z<=C) (j:A*(B*C)<=K):x*(y*z)<=K:=IV (I8 h.1 (I8 h.2.1 h.2.2)) j
theorem bb2 {x y K:Nat} (A B:Nat) (h:x<=A/\y<=B) (j:A*B<=K):x*y<=K:=IV (I8 h.1 h.2) j
structure Geo (side n m p n' m' p' x y z a b c ss oo:Nat):Prop where
 W:(t3 n m p).set side (.int ((ss:Int)+(oo:Int)))=t3 x y z
 Cn:(t3 0 0 0).set side (.int ss)=t3 a b c
 sz:atI (t3 n m p) (side:Nat)=some (.int ss)
 oz:atI (t3 n' m' p') (side:Nat)=some (.int oo)
 f1:Fit n m p x y z 0 0 0
 f2:Fit n' m' p' x y z a b c
 p1:(1<=n/\n<=9)/\(1<=m/\m<=9)/\(1<=p/\p<=9)
 p2:(1<=n'/\n'<=9)/\(1<=m'/\m'<=9)/\(1<=p'/\p'<=9)
 bd:x<=13/\y<=13/\z<=13
 N:n*(m*p)<=64
 N':n'*(m'*p')<=72
 V:x*(y*z)<=128
 S:x*y<=54/\y*z<=54/\x*z<=54
 cov:∀ r d e,r < x->d < y->e < z->(((0<=r/\r < 0+n)/\(0<=d/\d < 0+m)/\(0<=e/\e < 0+p)) ↔ ¬ ((a<=r/\r < a+n')/\(b<=d/\d < b+m')/\(c<=e/\e < c+p')))
 wl:∀ i,i < 3->[n,m,p].getD i 0+[n',m',p'].getD i 0*(if i=side then 1 else 0)=[x,y,z].getD i 0
 sl:∀ i,i < 3->[n,m,p].getD i 0*(if i=side then 1 else 0)=[a,b,c].getD i 0
theorem i3 {P:Nat->Prop} (h0:P 0) (h1:P 1) (h2:P 2) (i:Nat) (h:i < 3):P i:=by
 match i,h with
 | 0,_=>exact h0
 | 1,_=>exact h1
 | 2,_=>exact h2
theorem q9 {a b c d e f:Nat} (h:t3 a b c=t3 d e f):a=d/\b=e/\c=f:=by
 have h:(a:Int)=d/\(b:Int)=e/\(c:Int)=f:=by simpa [t3] using h
 lia
theorem geo {side n m p n' m' p' v:Nat} (B:side < 3) (j:O1 n m p) (O:t3 n' m' p'=(t3 n m p).set side (.int v)) (v1 : 1<=v) (v4:v<=4) (F : 4 < [n,m,p].getD side 0->v<=2):∃ x y z a b c ss:Nat,Geo side n m p n' m' p' x y z a b c ss v:=by
 unfold O1 at j
 match side,B with
 | 0,_ =>
  obtain ⟨h0,h1,h2⟩:=q9 (d:=v) (e:=m) (f:=p) O;subst n' m' p';have F : 4 < n->_:=F;refine ⟨n+v,m,p,n,0,0,n, ?_⟩;have G:n*(m*p)<=64:=by
   rcases j with h | h | h | h
   ·exact bb 4 4 4 (by lia) (by decide)
   ·exact bb 9 2 2 (by lia) (by decide)
   ·exact bb 2 9 2 (by lia) (by decide)
   ·exact bb 2 2 9 (by lia) (by decide)
  have q:v*(m*p)<=72:=by
   rcases j with h | h | h | h
   ·exact bb 4 4 4 (by lia) (by decide)
   ·exact bb 2 2 2 (by lia) (by decide)
   ·exact bb 4 9 2 (by lia) (by decide)
   ·exact bb 4 2 9 (by lia) (by decide)
  have J:(n+v)*((m)*(p))<=128:=by
   rcases j with h | h | h | h
   ·exact bb 8 4 4 (by lia) (by decide)
   ·exact bb 11 2 2 (by lia) (by decide)
   ·exact bb 6 9 2 (by lia) (by decide)
   ·exact bb 6 2 9 (by lia) (by decide)
  have L:(n+v)*(m)<=54/\(m)*(p)<=54/\(n+v)*(p)<=54:=by
   rcases j with h | h | h | h
   ·exact ⟨bb2 8 4 (by lia) (by decide),bb2 4 4 (by lia) (by decide),bb2 8 4 (by lia) (by decide)⟩
   ·exact ⟨bb2 11 2 (by lia) (by decide),bb2 2 2 (by lia) (by decide),bb2 11 2 (by lia) (by decide)⟩
   ·exact ⟨bb2 6 9 (by lia) (by decide),bb2 9 2 (by lia) (by decide),bb2 6 2 (by lia) (by decide)⟩
   ·exact ⟨bb2 6 2 (by lia) (by decide),bb2 2 9 (by lia) (by decide),bb2 6 9 (by lia) (by decide)⟩
  exact ⟨by simp [t3],by simp [t3],rfl,rfl,⟨by lia,by lia,by lia⟩,⟨by lia,by lia,by lia⟩,by lia,by lia,by lia,G,q,J,L,fun r d e h1 h2 U=>by lia,i3 (by simp) (by simp) (by simp),i3 (by simp) (by simp) (by simp)⟩
 | 1,_ =>
  obtain ⟨h0,h1,h2⟩:=q9 (d:=n) (e:=v) (f:=p) O;subst n' m' p';have F : 4 < m->_:=F;refine ⟨n,m+v,p,0,m,0,m, ?_⟩;have G:n*(m*p)<=64:=by
   rcases j with h | h | h | h
   ·exact bb 4 4 4 (by lia) (by decide)
   ·exact bb 9 2 2 (by lia) (by decide)
   ·exact bb 2 9 2 (by lia) (by decide)
   ·exact bb 2 2 9 (by lia) (by decide)
  have q:n*(v*p)<=72:=by
   rcases j with h | h | h | h
   ·exact bb 4 4 4 (by lia) (by decide)
   ·exact bb 9 4 2 (by lia) (by decide)
   ·exact bb 2 2 2 (by lia) (by decide)
   ·exact bb 2 4 9 (by lia) (by decide)
  have J:(n)*((m+v)*(p))<=128:=by
   rcases j with h | h | h | h
   ·exact bb 4 8 4 (by lia) (by decide)
   ·exact bb 9 6 2 (by lia) (by decide)
   ·exact bb 2 11 2 (by lia) (by decide)
   ·exact bb 2 6 9 (by lia) (by decide)
  have L:(n)*(m+v)<=54/\(m+v)*(p)<=54/\(n)*(p)<=54:=by
   rcases j with h | h | h | h
   ·exact ⟨bb2 4 8 (by lia) (by decide),bb2 8 4 (by lia) (by decide),bb2 4 4 (by lia) (by decide)⟩
   ·exact ⟨bb2 9 6 (by lia) (by decide),bb2 6 2 (by lia) (by decide),bb2 9 2 (by lia) (by decide)⟩
   ·exact ⟨bb2 2 11 (by lia) (by decide),bb2 11 2 (by lia) (by decide),bb2 2 2 (by lia) (by decide)⟩
   ·exact ⟨bb2 2 6 (by lia) (by decide),bb2 6 9 (by lia) (by decide),bb2 2 9 (by lia) (by decide)⟩
  exact ⟨by simp [t3],by simp [t3],rfl,rfl,⟨by lia,by lia,by lia⟩,⟨by lia,by lia,by lia⟩,by lia,by lia,by lia,G,q,J,L,fun r d e h1 h2 U=>by lia,i3 (by simp) (by simp) (by simp),i3 (by simp) (by simp) (by simp)⟩
 | 2,_ =>
  obtain ⟨h0,h1,h2⟩:=q9 (d:=n) (e:=m) (f:=v) O;subst n' m' p';have F : 4 < p->_:=F;refine ⟨n,m,p+v,0,0,p,p, ?_⟩;have G:n*(m*p)<=64:=by
   rcases j with h | h | h | h
   ·exact bb 4 4 4 (by lia) (by decide)
   ·exact bb 9 2 2 (by lia) (by decide)
   ·exact bb 2 9 2 (by lia) (by decide)
   ·exact bb 2 2 9 (by lia) (by decide)
  have q:n*(m*v)<=72:=by
   rcases j with h | h | h | h
   ·exact bb 4 4 4 (by lia) (by decide)
   ·exact bb 9 2 4 (by lia) (by decide)
   ·exact bb 2 9 4 (by lia) (by decide)
   ·exact bb 2 2 2 (by lia) (by decide)
  have J:(n)*((m)*(p+v))<=128:=by
   rcases j with h | h | h | h
   ·exact bb 4 4 8 (by lia) (by decide)
   ·exact bb 9 2 6 (by lia) (by decide)
   ·exact bb 2 9 6 (by lia) (by decide)
   ·exact bb 2 2 11 (by lia) (by decide)
  have L:(n)*(m)<=54/\(m)*(p+v)<=54/\(n)*(p+v)<=54:=by
   rcases j with h | h | h | h
   ·exact ⟨bb2 4 4 (by lia) (by decide),bb2 4 8 (by lia) (by decide),bb2 4 8 (by lia) (by decide)⟩
   ·exact ⟨bb2 9 2 (by lia) (by decide),bb2 2 6 (by lia) (by decide),bb2 9 6 (by lia) (by decide)⟩
   ·exact ⟨bb2 2 9 (by lia) (by decide),bb2 9 6 (by lia) (by decide),bb2 2 6 (by lia) (by decide)⟩
   ·exact ⟨bb2 2 2 (by lia) (by decide),bb2 2 11 (by lia) (by decide),bb2 2 11 (by lia) (by decide)⟩
  exact ⟨by simp [t3],by simp [t3],rfl,rfl,⟨by lia,by lia,by lia⟩,⟨by lia,by lia,by lia⟩,by lia,by lia,by lia,G,q,J,L,fun r d e h1 h2 U=>by lia,i3 (by simp) (by simp) (by simp),i3 (by simp) (by simp) (by simp)⟩
structure H6 (po pi pk p1 p2 pd:Addr) (ps us ds:List Pr) (M:Mem):Prop where
 o:M po=some (.lst (ps.map prD))
 i:M pi=some (.lst (us.map prD))
 k:M pk=some (.lst [.ref p1, .ref p2])
 a:M p1=some (.lst (ps.map prD))
 b:M p2=some (.lst (us.map prD))
 d:M pd=some (.lst (ds.map prD))
theorem H6.ge {po pi pk p1 p2 pd:Addr} {ps us ds:List Pr} {M M':Mem} (h:H6 po pi pk p1 p2 pd ps us ds M) (g:Ge M M'):H6 po pi pk p1 p2 pd ps us ds M':=⟨g _ _ h.o,g _ _ h.i,g _ _ h.k,g _ _ h.a,g _ _ h.b,g _ _ h.d⟩
theorem H6.upd {po pi pk p1 p2 pd pf:Addr} {ps us ds:List Pr} {M M':Mem} {o:O} (h:H6 po pi pk p1 p2 pd ps us ds M) (h':H6 po pi pk p1 p2 pd ps us ds M') (n:M pf=none):H6 po pi pk p1 p2 pd ps us ds (ag M' pf o):=by
 have ne:∀ {a:Addr} {u:O},M a=some u->a≠pf:=fun e z=>by rw [z,n] at e;cases e
 exact ⟨(aK (ne h.o)).trans h'.o,(aK (ne h.i)).trans h'.i,(aK (ne h.k)).trans h'.k,(aK (ne h.a)).trans h'.a,(aK (ne h.b)).trans h'.b,(aK (ne h.d)).trans h'.d⟩
theorem wB {M:Mem} {p a b:Addr} {ps us:List Pr} (h:M p=some (.lst [.ref a, .ref b])) (j:M a=some (.lst (ps.map prD))) (q:M b=some (.lst (us.map prD))):rb 16 M (.ref p)=some (.list [.list (ps.map cF), .list (us.map cF)]):=by
 have e1:rb 15 M (.ref a)=some (.list (ps.map cF)):=by rw [pA j,pv];rfl
 have e2:rb 15 M (.ref b)=some (.list (us.map cF)):=by rw [pA q,pv];rfl
 rw [pA h];simp [aM,e1,e2]
theorem Bn {ps us:List Pr}:IA (.list [.list (ps.map cF), .list (us.map cF)]) (.list [.list (ps.map cF), .list (us.map cF)])=true:=by
 simp [IA,JJ,Df]
theorem EH {X Y Z:Nat} (h:X*(Y*Z)<=128):X*Y*(Y*Z*(X*Z))<=16384:=by
 have e:X*Y*(Y*Z*(X*Z))=X*(Y*Z)*(X*(Y*Z)):=by simp only [Nat.mul_assoc,KP,Nat.mul_left_comm]
 rw [e];exact I8 h h
theorem Bo {k:Nat} (Y : 2<=k) {x y z:Nat} (Z:x<=13/\y<=13/\z<=13) (hS:x*y<=54/\y*z<=54/\x*z<=54) (hV:x*(y*z)<=128) {ds:List Pr} (hl:ds.length<=140) (hd:∀ u∈ds,Ln x y z u/\Within 5 u.1/\Within 5 u.2.1/\Within 5 u.2.2) (hT:∀ k i j,Tn ds k i j=cf (be x y z) (k,i,j)) {x0 x1 x2:D} {pp:Addr} {M:Mem} {Q:QD} (ep:M pp=some (.lst (ds.map prD))) (q:∀ M',Ge M M'->Q (.bl false) M') :
 phi tab k 11 [.tup [x0,x1,x2, .ref pp]] M fun x' U=>phi tab k 12 [.tup (t3 x y z)] U fun y M2=>sX x' y M2 Q:=by
 have big:∀ {l:List Int},Within 5 l->Big l:=fun h x hx=>by have:=h x hx;lia
 refine yN Y ep ?_ (fun u G => ?_) fun L d U J EJ g1 EK e1 => ?_
 ·have h1:=pX (a:=x*y) (b:=y*z) (c:=x*z) (ps:=ds) fun u G=>by
   obtain ⟨⟨a,b,c⟩,_⟩:=hd u G;exact ⟨O9 a,O9 b,O9 c⟩
  have h3:ds.length*(x*y*(y*z*(x*z)))<=140*16384:=I8 hl (EH hV);lia
 ·obtain ⟨⟨a,b,c⟩,d,e,f⟩:=hd u G;exact ⟨big d,big e,big f,by lia,by lia,by lia⟩
 refine gG (by lia) (by lia) (by lia) (by lia) fun L2 d2 M2 B g2 hd2 e2 => ?_
 refine ⟨d,d2,_,_,rfl,rfl,⟨.inl (g2 _ _ e1),rG⟩,⟨.inl e2,rG⟩, ?_⟩;have F:(L2.map (·.1)).Nodup:=(B.map _).nodup_iff.mpr cu;have O:∀ t∈L2,t.2≠0:=fun t ht=>D8 t (B.mem_iff.mp ht);rw [yE F (Ba J.nd F J.nz O fun k=>by
  obtain ⟨k,i,j⟩:=k;rw [J.cf,B9,hT,r6 B])]
 exact q _ (g1.trans g2)
theorem law_holds (ns:List Int) (hl:ns.length<=63):phi tab 40 23 [.con (ns.map D.int)] (fun _=>none) fun d _=>d = .bl true:=by
 have s2 : 0+1+1<=GX:=by rw [GU];lia
 have s3 : 0+1+1+1<=GX:=by rw [GU];lia
 refine au (by lia) rfl rfl (ρ := [some _,none,none,none,none,none,none,none,none,none,none,none,none,none,none]) rfl ?_
 unfold d23 L2.Mi.K19.b23;walk_at "st";rw [D2];refine ⟨by split <;> lia,by split <;> lia, ?_⟩
 refine aP (I:=fun l ρ M' => ∃ o1 o2 o3 o4 o5 o6 o7 o8 o9 ER ES ET J L, ρ = [some (.con (ns.map D.int)),o1,o2,o3,o4,o5,o6,o7,o8,o9,ER,ES,ET,J,L]) aE ⟨_,_,_,_,_,_,_,_,_,_,_,_,_,_,rfl⟩ (fun _ _ _ hI=>trivial) ?_ ?_
 ·rintro l k r ρ M8 e ⟨o1,o2,o3,o4,o5,o6,o7,o8,o9,ER,ES,ET,J,L,rfl⟩;refine ⟨_,rfl,fun F hF => ?_⟩;walk_at "st";refine D5 (s:=aj 10) (fc := 5) (fm := 6) (sc:=aj 8) rfl rfl (rH (by lia)) (by lia) (by lia) fun bx x y hp => ?_
  walk_at "st";refine bo (by lia) ⟨_,_,_,ad⟩ (by decide) (by decide) fun w M1 w0 w1 x1 => ?_
  walk_at "wp";refine ⟨by decide, ?_⟩
  obtain ⟨side,es,O⟩:∃ side:Nat,((k:Int)+w) % 3=side/\side < 3:=⟨(((k:Int)+w) % 3).toNat,by lia,by lia⟩
  rw [es];walk_at "st";refine tV (by lia) O x1.box fun n m p n' m' p' v M2 hO e3 v1 v4 hv x2=>⟨_,rfl, ?_⟩
  obtain ⟨x,y,z,a,b,c,ss,hG⟩:=geo O hO e3 v1 v4 hv;clear hO e3 hv v1 v4;obtain ⟨hW,F5,hsz,F6,F7,F8,q,B,F9,hN,EL,hV,hS,EV,Fa,Fb⟩:=hG;have x2:=x1.trans x2;have q1:n*m<=9*9:=I8 q.1.2 q.2.1.2;have q2:m*p<=9*9:=I8 q.2.1.2 q.2.2.2;have q3:n*p<=9*9:=I8 q.1.2 q.2.2.2;have q4:n'*m'<=9*9:=I8 B.1.2 B.2.1.2;have q5:m'*p'<=9*9:=I8 B.2.1.2 B.2.2.2;have q6:n'*p'<=9*9:=I8 B.1.2 B.2.2.2;walk_at "st";refine mq (s:=aj 22) (sv:=aj 21) (sl:=aj 16) (cap := 1000000) (ft := 8) (fd := 17) (fv := 18) (fl := 13) (fp := 15) (fs := 12) (most := 2) rfl (bo (by lia)) (iz (by lia)) rfl rfl (iy (by lia)) (gG (by lia)) (by lia) (by lia) (by lia) (by lia) (by lia) (by lia) (by lia) (by lia) (by lia) (by lia) x2.box fun ps po M3 EM Fj hT x3 Fc EW eo => ?_
  refine mq (s:=aj 22) (sv:=aj 21) (sl:=aj 16) (cap := 1000000) (ft := 8) (fd := 17) (fv := 18) (fl := 13) (fp := 15) (fs := 12) (most := 2) rfl (bo (by lia)) (iz (by lia)) rfl rfl (iy (by lia)) (gG (by lia)) (by lia) (by lia) (by lia) (by lia) (by lia) (by lia) (by lia) (by lia) (by lia) (by lia) x3.box fun us pi M4 EN Fk hU x4 Fd Fi ei => ?_
  have eo:=x4.keep po _ EW eo;have lps:∀ u∈ps,Ln n m p u:=fun u hu=>⟨(EM u hu).l0,(EM u hu).l1,(EM u hu).l2⟩;have lus:∀ u∈us,Ln n' m' p' u:=fun u hu=>⟨(EN u hu).l0,(EN u hu).l1,(EN u hu).l2⟩;have Fl:ps.length<=66:=by lia
  have Fm:us.length<=74:=by lia
  clear x1 x2 x3 Fc Fd;walk_at "st";refine ⟨_,rfl,_,_,rfl,af eo,fun p1 h1 => ?_⟩;have g1:=Ge.new (o := .lst (ps.map prD)) h1;have e1:=ad (M:=M4) (a:=p1) (o := .lst (ps.map prD));generalize ag M4 p1 (.lst (ps.map prD))=M5 at g1 e1 ⊢;have eo:=g1 _ _ eo;have ei:=g1 _ _ ei;refine ⟨_,rfl,_,_,rfl,af ei,fun p2 h2 => ?_⟩;have g2:=Ge.new (o := .lst (us.map prD)) h2;have e2:=ad (M:=M5) (a:=p2) (o := .lst (us.map prD));generalize ag M5 p2 (.lst (us.map prD))=M6 at g2 e2 ⊢;have eo:=g2 _ _ eo;have ei:=g2 _ _ ei;have e1:=g2 _ _ e1;refine ⟨s2,fun pk hk => ?_⟩;have g3:=Ge.new (o := .lst [.ref p1, .ref p2]) hk;have ek:=ad (M:=M6) (a:=pk) (o := .lst [.ref p1, .ref p2]);generalize ag M6 pk (.lst [.ref p1, .ref p2])=M7 at g3 ek ⊢;have eo:=g3 _ _ eo;have ei:=g3 _ _ ei;have e1:=g3 _ _ e1;have e2:=g3 _ _ e2;clear g1 g2 g3 h1 h2 hk;walk_at "st";refine ⟨by lia,by lia, ?_⟩
  refine ay (f:=fun i=>D.int (i:Nat)) (ys:=Hi 3) (I:=fun l ρ M' acc=>(∃ o0, ρ = [o0,some (.tup (t3 n m p)),some (.tup (t3 n' m' p')),some (.int (side:Nat))])/\M'=M7/\acc=l.map fun i => .int ([x,y,z].getD i 0:Nat)) aE ⟨⟨_,rfl⟩,rfl,rfl⟩ (fun _ _ _ _ _=>trivial) ?_ ?_
  ·rintro l i r ρ M9 acc e' ⟨⟨o0,rfl⟩,rfl,rfl⟩;refine ⟨_,rfl,fun N' EL => ?_⟩;have hi:=am e';rw [HC] at hi;have G:i < 3:=HG.mp (by rw [e'];simp)
   walk_at "wp";refine ⟨_,S3 G,_,S3 G, ?_⟩;walk_at "wp";have ew:(([n,m,p].getD i 0:Nat):Int)+(([n',m',p'].getD i 0:Nat):Int)*(if ((i:Int)==(side:Int))=true then 1 else 0)=(([x,y,z].getD i 0:Nat):Int):=by
    rw [<- Fa i G]
    by_cases h:i=side
    ·rw [if_pos h,if_pos (by simp [h])];simp
    ·rw [if_neg h,if_neg (by simp;lia)];simp
   rw [ew];have EU:=bd3 (i:=i) B.1.2 B.2.1.2 B.2.2.2 G;exact ⟨cm ⟨by lia,KY.mpr (Nc EU (by decide))⟩,by rw [D2,GU];lia,EL _ _ _ ⟨⟨_,rfl⟩,rfl,by simp⟩⟩
  rintro ρ M9 acc ⟨⟨o0,rfl⟩,rfl,rfl⟩ pq hpq;have g1:=Ge.new (o := .lst ((Hi 3).map fun i=>D.int ([x,y,z].getD i 0:Nat))) hpq;refine ⟨_,_,rfl,af ad, ?_⟩;generalize ag M9 pq (.lst ((Hi 3).map fun i=>D.int ([x,y,z].getD i 0:Nat)))=M10 at g1 ⊢;have ml:∀ l:D,l = .tup (t3 x y z)->l = .tup ((Hi 3).map fun i=>D.int ([x,y,z].getD i 0:Nat)):=fun l h=>h;rw [<- ml _ rfl];have eo:=g1 _ _ eo;have ei:=g1 _ _ ei;have e1:=g1 _ _ e1;have e2:=g1 _ _ e2;have ek:=g1 _ _ ek;clear g1 hpq ml;walk_at "st";refine ⟨by lia,by lia, ?_⟩
  refine ay (f:=fun i=>D.int (i:Nat)) (ys:=Hi 3) (I:=fun l ρ M' acc=>(∃ o0, ρ = [o0,some (.tup (t3 n m p)),some (.int (side:Nat))])/\M'=M10/\acc=l.map fun i => .int ([a,b,c].getD i 0:Nat)) aE ⟨⟨_,rfl⟩,rfl,rfl⟩ (fun _ _ _ _ _=>trivial) ?_ ?_
  ·rintro l i r ρ EX acc e' ⟨⟨o0,rfl⟩,rfl,rfl⟩;refine ⟨_,rfl,fun N' EL => ?_⟩;have hi:=am e';rw [HC] at hi;have G:i < 3:=HG.mp (by rw [e'];simp)
   walk_at "wp";refine ⟨_,S3 G, ?_⟩;walk_at "wp";have ew:(([n,m,p].getD i 0:Nat):Int)*(if ((i:Int)==(side:Int))=true then 1 else 0)=(([a,b,c].getD i 0:Nat):Int):=by
    rw [<- Fb i G]
    by_cases h:i=side
    ·rw [if_pos h,if_pos (by simp [h])];simp
    ·rw [if_neg h,if_neg (by simp;lia)];simp
   rw [ew];have EU:=bd3 (i:=i) q.1.2 q.2.1.2 q.2.2.2 G;exact ⟨cm ⟨by lia,KY.mpr (Nc EU (by decide))⟩,by rw [D2,GU];lia,EL _ _ _ ⟨⟨_,rfl⟩,rfl,by simp⟩⟩
  rintro ρ EX acc ⟨⟨o0,rfl⟩,rfl,rfl⟩ pq hpq;have g1:=Ge.new (o := .lst ((Hi 3).map fun i=>D.int ([a,b,c].getD i 0:Nat))) hpq;refine ⟨_,_,rfl,af ad, ?_⟩;generalize ag EX pq (.lst ((Hi 3).map fun i=>D.int ([a,b,c].getD i 0:Nat)))=M12 at g1 ⊢;have ml:∀ l:D,l = .tup (t3 a b c)->l = .tup ((Hi 3).map fun i=>D.int ([a,b,c].getD i 0:Nat)):=fun l h=>h;rw [<- ml _ rfl];have eo:=g1 _ _ eo;have ei:=g1 _ _ ei;have e1:=g1 _ _ e1;have e2:=g1 _ _ e2;have ek:=g1 _ _ ek;clear g1 hpq ml;walk_at "st";refine ⟨s3, ?_⟩;refine pZ (a := 0) (b := 0) (c := 0) (by lia) (by lia) (by lia) lps (by lia) eo fun pf Fn EK _ ef => ?_
  have eo:=EK _ _ eo;have ei:=EK _ _ ei;have e1:=EK _ _ e1;have e2:=EK _ _ e2;have ek:=EK _ _ ek;clear EK;refine pZ (by lia) (by lia) (by lia) lus (by lia) ei fun pg EY U _ eg => ?_
  have eo:=U _ _ eo;have ei:=U _ _ ei;have e1:=U _ _ e1;have e2:=U _ _ e2;have ek:=U _ _ ek;have ef:=U _ _ ef;clear U;refine ⟨_,_,ef,eg,by simp only [D2];rw [GU];lia,fun pd EZ => ?_⟩
  rw [<- IB];generalize EO:ps.map (dlP n m p x y z 0 0 0)++us.map (dlP n' m' p' x y z a b c)=ds;have Y:=Ge.new (o := .lst (ds.map prD)) EZ;have ed:=ad (M:=EY) (a:=pd) (o := .lst (ds.map prD));generalize ag EY pd (.lst (ds.map prD))=M15 at Y ed ⊢;have Fe:H6 po pi pk p1 p2 pd ps us ds M15:=⟨Y _ _ eo,Y _ _ ei,Y _ _ ek,Y _ _ e1,Y _ _ e2,ed⟩;clear eo ei ek e1 e2 ed ef eg Y EZ;have F1:ds.length<=140:=by rw [<- EO];simp;lia
  have F4:∀ u∈ds,Ln x y z u/\Within 5 u.1/\Within 5 u.2.1/\Within 5 u.2.2:=fun t ht=>by
   rw [<- EO] at ht
   rcases Hj.mp ht with h | h
   ·obtain ⟨u,hu,rfl⟩:=Hr.mp h;have h1:=EM u hu;exact ⟨jX,ig (by decide) h1.e0,ig (by decide) h1.e1,ig (by decide) h1.e2⟩
   ·obtain ⟨u,hu,rfl⟩:=Hr.mp h;have h1:=EN u hu;exact ⟨jX,ig (by decide) h1.e0,ig (by decide) h1.e1,ig (by decide) h1.e2⟩
  have lens:∀ u∈ds,u.1.length<=100000/\u.2.1.length<=100000/\u.2.2.length<=100000:=fun u hu=>by
   obtain ⟨⟨a0,a1,a2⟩,_⟩:=F4 u hu;lia
  have Ff:∀ k i j,Tn ds k i j=cf (be x y z) (k,i,j):=fun k i j=>by rw [<- EO];exact wv hT hU EV k i j
  walk_at "st";refine Bm (by lia) (by lia) (by lia) ⟨by rw [GU];lia, .inr trivial,by rw [GU];simp, ?_⟩
  dsimp only [Me,Le];walk_at "st";refine ⟨by lia,by lia, ?_⟩
  refine aP (I:=fun l2 ρ M'=>(∃ J L, ρ = [some (.con (ns.map D.int)),some (.int (k:Nat)),some (.ref bx),some (.int (side:Nat)),some (.tup (t3 n m p)),some (.tup (t3 n' m' p')),some (.tup [.int (n*m:Nat), .int (m*p:Nat), .int (n*p:Nat), .ref po]),some (.tup [.int (n'*m':Nat), .int (m'*p':Nat), .int (n'*p':Nat), .ref pi]),some (.ref pk),some (.tup (t3 x y z)),some (.tup (t3 a b c)),some (.ref pd),some (.tup [.int (x*y:Nat), .int (y*z:Nat), .int (x*z:Nat), .ref pd]),J,L])/\H6 po pi pk p1 p2 pd ps us ds M') aE ⟨⟨_,_,rfl⟩,Fe⟩ (fun _ _ _ _=>trivial) ?_ ?_
  ·rintro l2 j r2 ρ M16 e2 ⟨⟨J,L,rfl⟩,Z⟩;refine ⟨_,rfl,fun F2 Fg => ?_⟩;walk_at "st";refine wy (by lia) O hW F5 hsz F6 F7 F8 ⟨q.2.1.1,q.2.2.1⟩ ⟨B.2.1.1,B.2.2.1⟩ (by lia) lps lus (by lia) (by lia) Z.o Z.i fun pf Ma g nf ef => ?_
   rw [EO] at ef;have EQ:=Z.ge g;walk_at "st";refine yM (n := 4) (by lia) (Bl (by lia) ef EQ.d lens) fun Mb g2 => ?_
   have EJ:=EQ.ge g2;have ef:=g2 _ _ ef;refine ⟨true,rfl, ?_⟩;rw [if_neg (by decide)]
   walk_at "st";refine ⟨_,rfl,⟨_,rfl,_,ef⟩,pf,_,rfl,rfl,ef, ?_⟩;exact Fg _ _ ⟨⟨_,_,rfl⟩,Z.upd EJ nf⟩
  ·rintro ρ M16 ⟨⟨J,L,rfl⟩,Z⟩;dsimp only;walk_at "st";refine Bo (by lia) F9 hS hV F1 F4 Ff Z.d fun Fo Fh => ?_
   have EQ:=Z.ge Fh;walk_at "wp";refine ⟨_,rfl,_,rfl,by rw [GU];lia,fun pz hz => ?_⟩
   have gz:=Ge.new (o := .lst [.ref po, .ref pi]) hz;have EJ:=EQ.ge gz;refine ⟨_,_,wB ad EJ.o EJ.i,wB EJ.k EJ.a EJ.b, ?_⟩;rw [Bn];refine ⟨_,rfl, ?_⟩;rw [if_neg (by decide)]
   exact hF _ _ ⟨_,_,_,_,_,_,_,_,_,_,_,_,_,_,rfl⟩
 ·rintro ρ M8 ⟨o1,o2,o3,o4,o5,o6,o7,o8,o9,ER,ES,ET,J,L,rfl⟩;dsimp only;walk_at "st"
end K19
end
end
end Mi
end L2
namespace PySem.W.Fast
theorem tw14316361045259762161:True:=trivial
theorem tw6078956283668127226:True:=trivial
theorem tw15781959526432199961:True:=trivial
theorem tw4306063302025290410:True:=trivial
theorem tw5861168804187601780:True:=trivial
theorem tw4415568422542781925:True:=trivial
theorem tw15289931231863220083:True:=trivial
theorem tw2672573971101177505:True:=trivial
theorem tw3421533334617797347:True:=trivial
theorem tw13808430692373096994:True:=trivial
theorem tw16790492458459383457:True:=trivial
theorem tw12188833418090082946:True:=trivial
theorem tw7038443791342922743:True:=trivial
theorem tw9301191363929961345:True:=trivial
theorem tw5689516912212842985:True:=trivial
theorem tw9019080270856098453:True:=trivial
theorem tw4874425314016377343:True:=trivial
theorem tw18409400213192535621:True:=trivial
theorem tw1536755089646750967:True:=trivial
theorem tw17300478934368411420:True:=trivial
theorem tw13039262771694468563:True:=trivial
theorem tw17161651945642346526:True:=trivial
theorem tw14999256175595970027:True:=trivial
theorem tw9566300465469062508:True:=trivial
theorem tw1180025321771048823:True:=trivial
theorem tw13419550052537566911:True:=trivial
theorem tw10084102467250492773:True:=trivial
theorem tw15145695735088868209:True:=trivial
theorem tw17733694397378175588:True:=trivial
theorem tw17515841638397311279:True:=trivial
theorem tw12772074172306137213:True:=trivial
theorem tw5742932006058566004:True:=trivial
theorem tw2488815004681858916:True:=trivial
theorem tw3533659101622252816:True:=trivial
theorem tw3642594695586697854:True:=trivial
theorem tw4948112821913174086:True:=trivial
theorem tw9432364571311275392:True:=trivial
theorem tw15787421278957246884:True:=trivial
theorem tw15243872296751082553:True:=trivial
theorem tw5871266677420858536:True:=trivial
theorem tw3282022161618266568:True:=trivial
theorem tw17368654333895274629:True:=trivial
theorem tw10121126287067908153:True:=trivial
theorem tw1193191103571673977:True:=trivial
theorem tw16395359902643392058:True:=trivial
theorem tw14523005901309873338:True:=trivial
theorem tw10447079310748024088:True:=trivial
theorem tw8967928404282162057:True:=trivial
theorem tw5489094211503189863:True:=trivial
theorem tw15821152014990372710:True:=trivial
theorem tw3516960398536426530:True:=trivial
theorem tw4693704510390488465:True:=trivial
theorem tw3218334434875846721:True:=trivial
theorem tw9012880215080760191:True:=trivial
theorem tw13674526193964435760:True:=trivial
theorem tw10736784078062341792:True:=trivial
theorem tw10482402205032110098:True:=trivial
theorem tw734186428425988283:True:=trivial
theorem tw4486731099941826693:True:=trivial
theorem tw4271402782177923470:True:=trivial
theorem tw9886650309554046127:True:=trivial
end PySem.W.Fast
open PySem.W in
set_option maxRecDepth 100000 in
set_option maxHeartbeats 0 in
theorem PySem.Challenge.cw_fewtimes_k19_beside_holds : PySem.Challenge.rw_fewtimes_k19_beside.Holds := by
 w_on;o_law;k_head;(case hw=>w_witness2)
 k_fill
 refine L2.Mi.K19.walk (l:=PySem.Challenge.rw_fewtimes_k19_beside) rfl rfl L2.Mi.K19.law_holds (fun w h Y=>PySem.W.kIn_of Y) ?F
 case F =>
  intro w mg fa h KX G hmg;refine' L2.Mi.K19.all_mk KX G hmg ?z ?_ ?_ ?_ ?_ ?_ ?_ ?_ ?_ ?_ ?_ ?_ ?_ ?_ ?_ ?_ ?_ ?_ ?_ ?_ ?_ ?_ ?_ ?_ ?_ ?_ ?_ ?_ ?_ ?_ ?_ ?_ ?_ ?_ ?_ ?_ ?_ ?_ ?_ ?_ ?_ ?_ ?_ ?_ ?_ ?_ ?_ ?_ ?_ ?_ ?_ ?_ ?_ ?_ ?_ ?_ ?_ ?_ ?_ ?_ ?_ ?_ ?_ ?_ ?_ ?_ ?_ ?_ ?_ ?_ ?_ ?_ ?_ ?_ ?_ ?_ ?_ ?_ ?_ ?_ ?_ ?_ ?_ ?_ ?_ ?_ ?_ ?_ ?_ ?_ ?_ ?_ ?_ ?_ ?_ ?_ ?_ ?_ ?_ ?_ ?_ ?_
  case z =>
   intro x hx;simp only [L2.Mi.bltNames,List.mem_cons,List.not_mem_nil,or_false] at hx
   rcases hx with rfl | rfl | rfl | rfl | rfl | rfl | rfl | rfl | rfl | rfl | rfl | rfl | rfl | rfl | rfl | rfl | rfl | rfl | rfl | rfl <;> k_is
  all_goals try (show _=_;k_is)
